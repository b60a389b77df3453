import PyProof.Rows.All
import Wide.All
import OpenK.AllK
import Wide.FinOn
import Lean
import PyProof.EqAt
import PyProof.EqKinds
import PyProof.NeData
import PyProof.TupleCall
import KE.KRevIter
import KE.KRevSl
import PyProof.MinMaxWalk
import PyProof.ZipIter
import PyProof.Rows.Range3
import PyProof.Rows.CallKwBuiltin
import PyProof.DictWalks
import PyProof.ReprRoads
import PyProof.ReprLen
import PyProof.CallFns
import KE.KEqDict
import PyProof.P3In
import PyProof.MeetsDictList
import PyProof.Cells
import KE.KDictSum
import KE.KDictOf
import PyProof.Rows.SortWalk
import PySem.Challenge.RW_trudge_k95_two_keepers
set_option Elab.async false
set_option compiler.extract_closed false
set_option bootstrap.genMatcherCode false
set_option linter.all false
set_option maxRecDepth 100000
theorem KK{p:Prop}(h:p:=by decide +kernel):p:=h
theorem DD{p:Prop}(h:p:=by decide):p:=h
theorem OO{p:Prop}(h:p:=by lia):p:=h
theorem A0P{p:Prop}(h:p:=by first | exact .inl rfl | exact .inr rfl | assumption):p:=h
theorem A2P{p:Prop}(h:p:=by intro _;rfl):p:=h
theorem RF{p:Prop}(h:p:=by rfl):p:=h
theorem A4P{p:Prop}(h:p:=by with_unfolding_all rfl):p:=h
set_option genInjectivity false
set_option genSizeOf false
open _root_.PySem.W renaming Frag->B0,kitOne->X4,mg_none_of->b6,findIn->p7,kia_one->p8,emptyDict->A2c,fnOf->A2d,instObj->A4h,kitCls->A4n,keepIn->A6a,nsIn->A6k,mg_of->A8b,lookIn->B5s,plainGet->B5t,codeIn->B5x,plainGet_of->C2e,callWith_K->C2f
open _root_.Or renaming inl->B9,inr->p9
open _root_.List renaming length_map->C1,mem_cons_of_mem->C8,mem_cons_self->D4,replicate->E5,length_cons->G6,range->G9,mem_cons->J1,getElem?_map->L8,size_toArray->M5,getElem?_eq_getElem->M9,mem_map->N0,map_cons->O9,length_append->P0,map_append->P2,mem_of_getElem?->Q9,length_range->R6,set->R7,nil_append->T9,mem_range->U7,mem_append->V8,getElem?_eq_some_iff->V9,length_set->W0,append_nil->Y6,mem_singleton->Y7,length_take->b4,length_reverse->b5,nodup_cons->g8,not_mem_nil->g9,nodup_nil->j8,lookup_cons->r8,cons->v8,getElem?_set_ne->A0o,mem_append_right->A0p,replicate_succ->A0s,cons_append->A0t,map_take->A0u,map_map->A0w,length_replicate->A1g,getElem?_set->A1h,any_cons->A2e,getElem?_eq_none->A2f,take_add_one->A2g,eq_nil_of_length_eq_zero->A2h,take_length->A2j,getElem?_append_left->A4j,flatten_cons->A4m,length_nil->A4o,lookup->A59,length->A6b,getElem?_append_right->A6c,map_nil->A6d,append_assoc->A6e,mem_iff_getElem->A6g,drop_eq_getElem_cons->A6h,getElem?_cons_succ->A6i,find?_cons->A6j,nodup_append->A6l,map_congr_left->A6m,reverse_cons->A78,getElem?_range->A79,length_filter_le->A8a,tail_cons->A8c,tail_nil->A8d,getElem?_cons_zero->A8e,set_cons_zero->A8f,set_cons_succ->A8g,range_succ->A8j,mem_filter->B0z,idxOf_lt_length_iff->B01,take_of_length_le->B02,map_reverse->B06,mem_filterMap->B5q,getElem?_replicate->B5w,drop_length->B50,filter_cons_of_pos->B51,filter_cons_of_neg->B52,sum_cons->B53,getElem_mem->B54,filterMap_cons->C2c,mem_append_left->C2d,length_singleton->C2g,getElem_idxOf->C2j,length_pos_iff->C2k,mem_zipIdx_iff_getElem?->C2l,getD_eq_getElem?_getD->C2m,map_singleton->C2o
open _root_.Nat renaming le_refl->E1,zero_le->J7,ne_of_lt->O4,le_trans->T8,lt_of_lt_of_le->V7,lt_irrefl->g7,le_succ->A0q,ne_of_gt->A4i,le_of_lt->A58,min_eq_left->B03,lt_succ_self->B5v,not_lt_zero->B56,lt_of_le_of_lt->C2h
open _root_.PySem.Heap renaming lt_size->G8,get?_push_of_some->K2,get?_push_size->O5,get?_update_other->A4l,size_push->B5u,get?_update_self->B5y
open _root_.Bool renaming false_ne_true->Q8,and_eq_true->A0r,not_true->A4p,false_eq_true->A6f,not_false->A8i,eq_iff_iff->B5r
open _root_.PySem.PassesOwn renaming never->S9
open _root_.Int renaming le_refl->t8,le_trans->B04,emod_nonneg->B05,zero_add->B07,emod_lt_of_pos->B55,toNat_of_nonneg->C2n
open _root_.PySem.F renaming plainAttrs_list->t9,slot_list_append->A4q,type_list_append->A4r,slot_list_index->C2i
open _root_.Option renaming map_eq_some_iff->A0v,map_some->A2i,bind_some->A8h
open _root_.Array renaming length_toList->A1f,getElem?_toList->B5z
open _root_.PySem.Obj renaming mapSeq->A4k
open _root_.PySem renaming mem_of_lookup->B00
def mqB:String:="A3r A0i A1w A1x dOp A1o A3u dT A3t dCb A28 A27 dC dF A3a A29 A21 A2v A2w dOr A2y A2z A20 dBV dIf A02 dIx A3b A3c A3h A3i A3j dSl A3k A3m A3n A3q A3o aV aS U3 arD A04 S7 A5k ixD lenD Q7 A03 gI gI0 A22 A23 A24 A25 A26 gLt gLe gGt gGe gEq A0d isN A1r A3d A3e gI2 A1s A1t A3g A3s A3y A1y A3w gN gT2 A0h A3x gIn oN oS j0 Z8 A48 A49 A5a A5b A5c A5d e8 tyD A8c A8d A8e A6i A8f A8g G6 A4o A8h A2i A0t T9 A5e A5f A5g A5h A5i A5j A4p A8i A34 A12"
def mqT(s:String):Lean.MacroM (Lean.TSyntax `tactic):=do
 let a:=((s++mqB).splitOn " ").toArray.map λx=>Lean.mkIdent x.toName
 `(tactic|try dsimp only[$[$a:ident],*])
local macro_rules|`(command|def $i:declId $s:optDeclSig $v:declVal)=>`(command|noncomputable def $i:declId $s:optDeclSig $v:declVal)
local macro_rules|`(command|abbrev $i:declId $s:optDeclSig $v:declVal)=>`(command|noncomputable abbrev $i:declId $s:optDeclSig $v:declVal)
namespace L2
open PySem PySem.Spec PyProof.Rows
theorem el3 {α β γ:Type} {R T K:α->β->γ->Prop} {p:Prop} (h:∃a b c,R a b c/\T a b c/\K a b c) (f:∀a b c,R a b c->T a b c->K a b c->p):p:=h.elim λa h=>h.elim λb h=>h.elim λc h=>f a b c h.1 h.2.1 h.2.2
theorem el5 {α β:Type} {R T K:α->β->Prop} {p:Prop} (h:∃a b,R a b/\T a b/\K a b) (f:∀a b,R a b->T a b->K a b->p):p:=h.elim λa h=>h.elim λb h=>f a b h.1 h.2.1 h.2.2
theorem el2 {α:Type} {A B:α->Prop} {p:Prop} (h:∃a,A a/\B a) (f:∀a,A a->B a->p):p:=h.elim λa h=>f a h.1 h.2
abbrev Key:=Sum Int Str
def A1i:Key->Value->Bool
 | .inl k,v=>Value.isInt k v
 | .inr x,v=>Value.isStrOf x v
def C2p (w:World):Key->Int
 | .inl k=>hashInt k
 | .inr x=>hashStr w x
theorem w4:∀{k:Key} {v:Value},A1i k v=true->(∃i t,k=Sum.inl i/\v=Value.int i t)\/(∃x t,k=Sum.inr x/\v=Value.str x t)
 | .inl i,v,h=>by
  obtain⟨t,e⟩:=Value.isInt_shape (k:=i) (v:=v) h
  exact .inl ⟨i,t,rfl,e⟩
 | .inr x,v,h=>by
  obtain⟨t,e⟩:=Value.isStrOf_shape (x:=x) (v:=v) h
  exact .inr ⟨x,t,rfl,e⟩
theorem C2q (i:Int) (t:Tok):A1i (.inl i) (.int i t)=true:=by simp [A1i,Value.isInt]
theorem C2r (x:Str) (t:Tok):A1i (.inr x) (.str x t)=true:=by simp [A1i,Value.isStrOf]
theorem C2s (a b:Int):decide ((Sum.inl a:Key)=Sum.inl b)=(a == b):=by
 by_cases e:a=b
 ·subst e;simp
 ·have h:¬ (Sum.inl a:Key)=Sum.inl b:=λq=>e (Sum.inl.inj q)
  rw[decide_eq_false h]
  exact (beq_eq_false_iff_ne.mpr e).symm
theorem C2t (a b:Str):decide ((Sum.inr a:Key)=Sum.inr b)=decide (a=b):=by
 by_cases e:a=b
 ·subst e;simp
 ·have h:¬ (Sum.inr a:Key)=Sum.inr b:=λq=>e (Sum.inr.inj q)
  rw[decide_eq_false h,decide_eq_false e]
theorem C2u (a:Int) (b:Str):decide ((Sum.inl a:Key)=Sum.inr b)=false:=decide_eq_false (λq=>nomatch q)
theorem C2v (a:Str) (b:Int):decide ((Sum.inr a:Key)=Sum.inl b)=false:=decide_eq_false (λq=>nomatch q)
def U8 (prog:Program) (w:World):PySem.KeyKind prog w Key where
 is:=A1i
 hash:=C2p w
 inj:=λv a b ha hb=>by
  rcases w4 ha with ⟨i,t,rfl,rfl⟩ | ⟨x,t,rfl,rfl⟩
  ·rcases w4 hb with ⟨j,u,rfl,e⟩ | ⟨y,u,rfl,e⟩
   ·injection e with e1 _;rw[e1]
   ·exact nomatch e
  ·rcases w4 hb with ⟨j,u,rfl,e⟩ | ⟨y,u,rfl,e⟩
   ·exact nomatch e
   ·injection e with e1 _;rw[e1]
 byValue:=λk v h=>by
  rcases w4 h with ⟨i,t,rfl,rfl⟩ | ⟨x,t,rfl,rfl⟩ <;> rfl
 pyHash:=λhv h=>by
  rcases w4 hv with ⟨i,t,rfl,rfl⟩ | ⟨x,t,rfl,rfl⟩
  ·exact wpAny_pyHash_int h
  ·exact wpAny_pyHash_str h
 eqBool:=λhu hv h=>by
  rcases w4 hu with ⟨i,t,rfl,rfl⟩ | ⟨x,t,rfl,rfl⟩
  ·rcases w4 hv with ⟨j,u,rfl,rfl⟩ | ⟨y,u,rfl,rfl⟩
   ·rw[C2s] at h;exact wpAny_eqBool_int h
   ·rw[C2u] at h;exact SeqAt.EqAt.int_str i t y u _ _ _ _ h
  ·rcases w4 hv with ⟨j,u,rfl,rfl⟩ | ⟨y,u,rfl,rfl⟩
   ·rw[C2v] at h;exact SeqAt.EqAt.str_int x t j u _ _ _ _ h
   ·rw[C2t] at h;exact wpAny_eqBool_str h
 «strs»:=λk x t v h=>by
  rcases w4 h with ⟨i,u,rfl,e⟩ | ⟨y,u,rfl,e⟩
  ·exact nomatch e
  ·injection e with e1 _
   subst e1
   cases v <;> rfl
theorem C2w (prog:Program) (w:World) (k:Key) (v:Value):(U8 prog w).is k v=A1i k v:=rfl
theorem C2x (prog:Program) (w:World) (i:Int) (t:Tok):(U8 prog w).is (.inl i) (.int i t)=true:=C2q i t
theorem C2y (prog:Program) (w:World) (x:Str) (t:Tok):(U8 prog w).is (.inr x) (.str x t)=true:=C2r x t
set_option genInjectivity true in
inductive V where
 | non | bl (b:Bool) | int (i:Int) | str (x:Str) | byt (b:Array UInt8) | flt (b:UInt64) | ref (a:Addr) | ty (n:String)
 deriving DecidableEq
def E2:V->Value->Prop
 | .non,u=>u=Value.none
 | .bl b,u=>u=Value.bool b
 | .int i,u=>∃t,u=Value.int i t
 | .str x,u=>∃t,u=Value.str x t
 | .byt b,u=>∃t,u=Value.bytes b t
 | .flt b,u=>∃t,u=Value.float b t
 | .ref a,u=>u=Value.ref a
 | .ty n,u=>u=Value.type n
abbrev C4:List V->List Value->Prop:=Paired E2
theorem C4.length {xs:List V} {us:List Value} (r:C4 xs us):xs.length=us.length:=Paired.length r
theorem C4.get:∀{xs:List V} {us:List Value} {i:Nat} {x:V},C4 xs us->xs[i]?=some x->∃u,us[i]?=some u/\E2 x u
 | _,_,_,_,.nil,e=>by simp at e
 | _,_,0,_,.cons r _,e=>by simp at e;subst e;exact⟨_,rfl,r⟩
 | _,_,i + 1,x,.cons _ t,e=>by
  obtain⟨u,h1,h2⟩:=C4.get (i:=i) (x:=x) t (by simpa using e)
  exact⟨u,by simpa using h1,h2⟩
theorem C4.set {x:V} {u:Value} (r:E2 x u):∀{xs:List V} {us:List Value} (i:Nat),C4 xs us->C4 (xs.set i x) (us.set i u)
 | _,_,_,.nil=>.nil
 | _,_,0,.cons _ t=>.cons r t
 | _,_,i + 1,.cons q t=>.cons q (C4.set r i t)
theorem C4.append {xs ys:List V} {us ws:List Value} (h:C4 xs us) (s:C4 ys ws):C4 (xs++ys) (us++ws):=by
 induction h with
 | nil=>exact s
 | cons r t ih=>exact .cons r ih
theorem C4.take:∀{xs:List V} {us:List Value} (n:Nat),C4 xs us->C4 (xs.take n) (us.take n)
 | _,_,0,_=>.nil
 | _,_,_ + 1,.nil=>.nil
 | _,_,n + 1,.cons r t=>.cons r (C4.take n t)
theorem C4.drop:∀{xs:List V} {us:List Value} (n:Nat),C4 xs us->C4 (xs.drop n) (us.drop n)
 | _,_,0,r=>r
 | _,_,_ + 1,.nil=>.nil
 | _,_,n + 1,.cons _ t=>C4.drop n t
def U9:Option V->Option Value->Prop
 | some v,some u=>E2 v u
 | none,none=>True
 | _,_=>False
def KV {κ:Type}:List (κ×V)->List (κ×Value)->Prop:=Paired λ(p:κ×V) (q:κ×Value)=>p.1=q.1/\E2 p.2 q.2
def kV:Key->V
 | .inl i=>.int i
 | .inr x=>.str x
inductive HO where
 | lst (xs:List V)
 | tup (xs:List V)
 | dK (kvs:List (Key×V)) | dT (kvs:List (List Key×V))
 | set (S:Int->Bool) (n:Nat)
 | ins (C dx:Addr) (fs:List (Str×V))
 | own (x:Addr)
 | xd (fs:List (Str×V))
 | met (f x:Addr)
 | rng (lo hi:Int)
 | frz (o:Obj) (u:HO)
 | tbl (ps:Array Value)
 | ext (φ:Heap->Prop)
abbrev Hp:=Addr->Option HO
def upd (H:Hp) (a:Addr) (o:HO):Hp:=λb=>if b=a then some o else H b
theorem B2 {H:Hp} {a:Addr} {o:HO}:upd H a o a=some o:=by unfold upd;rw[if_pos rfl]
theorem B4 {H:Hp} {a b:Addr} {o:HO} (h:b≠a):upd H a o b=H b:=by unfold upd;rw[if_neg h]
theorem B57 {H:Hp} {a b:Addr} {o u:HO} (h:H a=some o) (h':H b=some u) (d:o≠u):a≠b:=by
 intro e;subst e;rw[h] at h';exact d (Option.some.inj h')
theorem Q3 {H:Hp} {a b:Addr} {o:HO} (h:H a=some o) (h':H b=none):a≠b:=by
 intro e;subst e;rw[h] at h';cases h'
section
variable (P:Program) (w:World)
def K3 (H:Hp) (h:Heap) (a:Addr):HO->Prop
 | .lst xs=>xs.length<=sizeLine/\∃(its:List Value) (n:Nat),C4 xs its/\h.get? a=some { cls:=.type "list",data:=.seq its.toArray n }
 | .tup xs=>xs.length<=sizeLine/\∃its:List Value,C4 xs its/\IsTup h a its.toArray
 | .dK kvs=>kvs.length<=sizeLine/\(a == sysModules)=false/\∃vs,KV kvs vs/\h.DictOf (U8 P w) a vs
 | .dT kvs=>kvs.length<=sizeLine/\(a == sysModules)=false/\∃xs:List (List Key×Addr×Value),
   Paired (λ(p:List Key×V) (q:List Key×Addr×Value)=>p.1=q.1/\H q.2.1=some (.tup (p.1.map kV))/\E2 p.2 q.2.2) kvs xs/\
   ∃o es ep,h.get? a=some o/\o.ExactDict/\o.data=.dict es ep/\es.toList=xs.map (entryOfKey (tupleKind (U8 P w)))/\(xs.map (·.1)).Nodup
 | .set S n=>h.SetOf (intKind P w) a S n
 | .ins C dx fs=>H dx=some (.own a)/\fs.length<=1000/\dx≠a/\h.get? a=some (A4h C dx)/\
   ∃mA,h.Ns1 dx mA/\(∀f,U9 (fs.lookup f) (mA f))/\PySem.Within mA (fs.map (·.1))
 | .own _=>∃o,h.get? a=some o
 | .xd fs=>∃mA,h.Ns1 a mA/\∀f,U9 (fs.lookup f) (mA f)
 | .rng lo hi=>∃t u v,h.get? a=some { cls:=.type "range",data:=.fields #[.int lo t,.int hi u,.int 1 v] }
 | .frz o u=>h.get? a=some o/\K3 H h a u
 | .tbl ps=>h.get? a=some { cls:=.none,data:=.fields ps }
 | .met f x=>h.get? a=some (PySem.W.methodObj (.ref f) (.ref x))
 | .ext φ=>φ h/\(∃o,h.get? a=some o)/\∀h1 h2:Heap,φ h1->(∀o,h1.get? a=some o->h2.get? a=some o)->φ h2
def HOk (H:Hp) (h:Heap):Prop:=∀a o,H a=some o->K3 P w H h a o
end
section
variable {P:Program} {w:World} {H H':Hp} {h h':Heap} {a:Addr} {o:HO}
theorem K3.lt (x:K3 P w H h a o):a < h.objs.size:=by
 cases o with
 | lst xs=>obtain⟨_,_,_,_,e⟩:=x;exact G8 e
 | tup xs=>obtain⟨_,_,_,p⟩:=x;exact p.lt
 | dK kvs=>obtain⟨_,_,_,_,o,_,_,e,_⟩:=x;exact G8 e
 | dT kvs=>obtain⟨_,_,_,_,o,_,_,e,_⟩:=x;exact G8 e
 | set S n=>obtain⟨o,_,_,_,e,_⟩:=x;exact G8 e
 | ins C dx fs=>obtain⟨_,_,_,e,_⟩:=x;exact G8 e
 | own y=>obtain⟨_,e⟩:=x;exact G8 e
 | xd fs=>obtain⟨_,⟨_,_,_,e,_⟩,_⟩:=x;exact G8 e
 | rng lo hi=>obtain⟨_,_,_,e⟩:=x;exact G8 e
 | frz ob u=>obtain⟨e,_⟩:=x;exact G8 e
 | tbl ps=>exact G8 (show h.get? a=some _ from x)
 | met f y=>exact G8 (show h.get? a=some _ from x)
 | ext φ=>obtain⟨_,⟨_,e⟩,_⟩:=x;exact G8 e
theorem Paired.mapP {α β:Type} {F G:α->β->Prop} {l₁:List α} {l₂:List β} (h:Paired F l₁ l₂) (f:∀a b,F a b->G a b):Paired G l₁ l₂:=by
 induction h with
 | nil=>exact .nil
 | cons r t ih=>exact .cons (f _ _ r) ih
theorem K3.stay (x:K3 P w H h a o) (k:∀b u,(b=a\/H b=some (.own a))->h.get? b=some u->h'.get? b=some u)
  (ho:∀b,H b=some (.own a)->H' b=some (.own a)) (ht:∀b xs,H b=some (.tup xs)->H' b=some (.tup xs)):K3 P w H' h' a o:=by
 induction o with
 | lst xs=>obtain⟨z,its,n,r,e⟩:=x;exact⟨z,its,n,r,k _ _ (.inl rfl) e⟩
 | tup xs=>obtain⟨z,its,r,ob,e,c⟩:=x;exact⟨z,its,r,ob,k _ _ (.inl rfl) e,c⟩
 | dK kvs=>obtain⟨z,y,vs,r,ob,es,ep,e,c⟩:=x;exact⟨z,y,vs,r,ob,es,ep,k _ _ (.inl rfl) e,c⟩
 | dT kvs=>
  obtain⟨z,y,xs,r,ob,es,ep,e,c⟩:=x
  exact⟨z,y,xs,Paired.mapP r λp q z=>⟨z.1,ht _ _ z.2.1,z.2.2⟩,ob,es,ep,k _ _ (.inl rfl) e,c⟩
 | set S n=>obtain⟨ob,es,ep,t,e,c⟩:=x;exact⟨ob,es,ep,t,k _ _ (.inl rfl) e,c⟩
 | ins C dx fs=>
  obtain⟨d,z,ne,e,mA,⟨od,es,ep,e2,c⟩,r⟩:=x
  exact⟨ho _ d,z,ne,k _ _ (.inl rfl) e,mA,⟨od,es,ep,k _ _ (.inr d) e2,c⟩,r⟩
 | own y=>obtain⟨ob,e⟩:=x;exact⟨ob,k _ _ (.inl rfl) e⟩
 | xd fs=>obtain⟨mA,⟨od,es,ep,e,c⟩,r⟩:=x;exact⟨mA,⟨od,es,ep,k _ _ (.inl rfl) e,c⟩,r⟩
 | rng lo hi=>obtain⟨t,u,v,e⟩:=x;exact⟨t,u,v,k _ _ (.inl rfl) e⟩
 | frz ob u ih=>obtain⟨e,q⟩:=x;exact⟨k _ _ (.inl rfl) e,ih q⟩
 | tbl ps=>
  have e:h.get? a=some { cls:=.none,data:=.fields ps }:=x
  show h'.get? a=some { cls:=.none,data:=.fields ps }
  exact k a _ (.inl rfl) e
 | met f y=>
  have e:h.get? a=some (PySem.W.methodObj (.ref f) (.ref y)):=x
  show h'.get? a=some (PySem.W.methodObj (.ref f) (.ref y))
  exact k a _ (.inl rfl) e
 | ext φ=>obtain⟨p,⟨o,e⟩,st⟩:=x;exact⟨st _ _ p λo q=>k _ _ (.inl rfl) q,⟨o,k _ _ (.inl rfl) e⟩,st⟩
theorem HOk.lt (x:HOk P w H h) (e:H a=some o):a < h.objs.size:=(x a o e).lt
theorem HOk.fresh (x:HOk P w H h) (e:h.objs.size<=a):H a=none:=by
 cases q:H a with
 | none=>rfl
 | some u=>exact absurd (V7 (x.lt q) e) (g7 _)
theorem HOk.kept (x:HOk P w H h) (k:∀b u,h.get? b=some u->h'.get? b=some u):HOk P w H h':=λa o e=>
 (x a o e).stay (λb u _ q=>k b u q) (λ_ q=>q) λ_ _ q=>q
theorem HOk.laid (x:HOk P w H h) (k:∀b u,h.get? b=some u->h'.get? b=some u) (hp:h.objs.size<=a) (new:K3 P w (upd H a o) h' a o):HOk P w (upd H a o) h':=λb u e=>by
 have hn:=x.fresh hp
 by_cases hb:b=a
 ·subst hb;rw[B2] at e;cases e;exact new
 ·rw[B4 hb] at e
  exact (x b u e).stay (λc v _ q=>k c v q) (λc q=>by rw[B4 (Q3 q hn)];exact q) λc xs q=>by rw[B4 (Q3 q hn)];exact q
end
def Rd (H:Hp) (a:Addr) (u:HO):Prop:=H a=some u\/∃o,H a=some (.frz o u)
theorem Rd.ok {P:Program} {w:World} {H:Hp} {h:Heap} {a:Addr} {u:HO} (r:Rd H a u) (x:HOk P w H h):K3 P w H h a u:=by
 rcases r with r | ⟨o,r⟩
 ·exact x a u r
 ·obtain⟨_,q⟩:=x a _ r
  exact q
def Mut:Option HO->Prop
 | some (.lst _)=>True
 | some (.dK _)=>True
 | some (.dT _)=>True
 | some (.set _ _)=>True
 | some (.ins _ _ _)=>True
 | some (.ext _)=>True
 | _=>False
section
variable {P:Program} {w:World} {H:Hp} {h h':Heap} {x e:Addr} {o':HO}
theorem HOk.write (ok:HOk P w H h) (mu:Mut (H x)) (he:e=x\/H e=some (.own x)) (k:∀b u,b≠e->h.get? b=some u->h'.get? b=some u) (heo:∃u,h'.get? e=some u)
  (new:K3 P w (upd H x o') h' x o'):HOk P w (upd H x o') h':=λb u q=>by
 have nown:∀c y,H c=some (.own y)->c≠x:=λc y r z=>by subst z;rw[r] at mu;exact mu
 have ntup:∀c xs,H c=some (.tup xs)->c≠x:=λc xs r z=>by subst z;rw[r] at mu;exact mu
 by_cases hb:b=x
 ·subst hb;rw[B2] at q;cases q;exact new
 ·rw[B4 hb] at q
  by_cases hbe:b=e
  ·have q':H b=some (.own x):=by
    rcases he with z | z
    ·exact absurd (hbe.trans z) hb
    ·rw[hbe];exact z
   rw[q] at q';cases q'
   obtain⟨v,hv⟩:=heo
   exact⟨v,by rw[hbe];exact hv⟩
  ·refine (ok b u q).stay (λc v hc r=>k c v ?_ r) (λc r=>by rw[B4 (nown c b r)];exact r) λc xs r=>by rw[B4 (ntup c xs r)];exact r
   rcases hc with rfl | hc
   ·exact hbe
   ·rintro rfl
    rcases he with z | z
    ·exact nown c b hc z
    ·rw[hc] at z;cases z;exact hb rfl
end
structure Un (fs ex:List Addr) (H H':Hp) (h h':Heap):Prop where
 keep:∀b o,h.get? b=some o->H b=none->b∉fs->b∉ex->h'.get? b=some o
 slot:∀b o,h.get? b=some o->H b=none->b∈fs->b∉ex->∃sl,h'.get? b=some { o with slots:=sl }
 free:∀b o,h.get? b=some o->H b=none->b∉ex->H' b=none
 there:∀b o,h.get? b=some o->b∉ex->∃o',h'.get? b=some o'
 tups:∀b xs,H b=some (.tup xs)->H' b=some (.tup xs)
 frzs:∀b o u,H b=some (.frz o u)->H' b=some (.frz o u)
 tbls:∀b ps,H b=some (.tbl ps)->∃more,H' b=some (.tbl (ps++more))
section
variable {fs fs' ex ex':List Addr} {H H1 H2:Hp} {h h1 h2 h':Heap} {a x e:Addr} {o:HO}
theorem Un.any (u:Un fs ex H H1 h h1) {b:Addr} {ob:Obj} (q:h.get? b=some ob) (n:H b=none) (hx:b∉ex):∃sl,h1.get? b=some { ob with slots:=sl }:=by
 by_cases hb:b∈fs
 ·exact u.slot b ob q n hb hx
 ·exact⟨ob.slots,u.keep b ob q n hb hx⟩
theorem Un.kept (k:∀b u,h.get? b=some u->h'.get? b=some u):Un fs ex H H h h':=
 ⟨λb ob q _ _ _=>k b ob q,λb ob q _ _ _=>⟨ob.slots,k b ob q⟩,λ_ _ _ n _=>n,λb ob q _=>⟨ob,k b ob q⟩,λ_ _ q=>q,λ_ _ _ q=>q,λ_ ps q=>⟨#[],by rw[q];simp⟩⟩
theorem Un.refl:Un fs ex H H h h:=Un.kept λ_ _ q=>q
theorem Un.laid (k:∀b u,h.get? b=some u->h'.get? b=some u) (hp:h.objs.size<=a) (hn:H a=none):Un fs ex H (upd H a o) h h' where
 keep:=λb u q _ _ _=>k b u q
 slot:=λb u q _ _ _=>⟨u.slots,k b u q⟩
 free:=λb u q n _=>by rw[B4 (O4 (V7 (G8 q) hp))];exact n
 there:=λb u q _=>⟨u,k b u q⟩
 tups:=λb xs q=>by rw[B4 (Q3 q hn)];exact q
 frzs:=λb u xs q=>by rw[B4 (Q3 q hn)];exact q
 tbls:=λb ps q=>⟨#[],by rw[B4 (Q3 q hn),q];simp⟩
theorem Un.write (mu:Mut (H x)) (he:e=x\/H e=some (.own x)) (k:∀b u,b≠e->h.get? b=some u->h'.get? b=some u) (heo:∃u,h'.get? e=some u):Un fs ex H (upd H x o) h h':=by
 have hx:∀b,H b=none->b≠x:=λb n z=>by subst z;rw[n] at mu;exact mu
 have hb:∀b,H b=none->b≠e:=λb n z=>by
  subst z
  rcases he with r | r
  ·exact hx b n r
  ·rw[n] at r;cases r
 have hm:∀b u,H b=some u->¬ Mut (some u)->b≠x:=λb u q nm z=>by subst z;rw[q] at mu;exact nm mu
 refine⟨λb u q n _ _=>k b u (hb b n) q,λb u q n _ _=>⟨u.slots,k b u (hb b n) q⟩,λb u q n _=>by rw[B4 (hx b n)];exact n,λb u q _=>?_,
  λb xs q=>by rw[B4 (hm b _ q λz=>z)];exact q,λb u xs q=>by rw[B4 (hm b _ q λz=>z)];exact q,λb ps q=>⟨#[],by rw[B4 (hm b _ q λz=>z),q];simp⟩⟩
 by_cases hbe:b=e
 ·subst hbe;exact heo
 ·exact⟨u,k b u hbe q⟩
end
def trk (h:Heap) (H:Hp):List Addr:=(G9 h.objs.size).filter λa=>(H a).isSome
def A0x (h:Heap) (H:Hp):Heap:=PySem.W.hideAll h (trk h H)
theorem C2z (h:Heap) (H:Hp):(A0x h H).objs.size=h.objs.size:=PySem.W.hideAll_size _ _
theorem C20 {h:Heap} {H:Hp} {b:Addr} {o:Obj} (e:h.get? b=some o) (n:H b=none):(A0x h H).get? b=some o:=
 PySem.W.hideAll_get _ e λhm=>by
  have q:(H b).isSome=true:=(B0z.mp hm).2
  rw[n] at q;simp at q
theorem C21 {h:Heap} {H:Hp} {b:Addr} {o:Obj} (e:(A0x h H).get? b=some o):h.get? b=some o/\H b=none:=by
 have e':h.get? b=some o:=PySem.W.of_hideAll (trk h H) e
 refine⟨e',?_⟩
 cases q:H b with
 | none=>rfl
 | some x=>
  have hm:b∈trk h H:=B0z.mpr ⟨U7.mpr (G8 e'),by simp [q]⟩
  have z:(A0x h H).get? b=none:=PySem.W.hideAll_none (trk h H) hm
  rw[z] at e;cases e
def C22 (g h:Heap) (L:Addr):List (Addr×Obj):=(G9 h.objs.size).filterMap λa=>if a=L\/(g.get? a).isSome=true then none else (h.get? a).map λo=>(a,o)
def P3 (g h:Heap) (L d:Addr):List (Addr×Obj):=(C22 g h L).filter λp=>decide (p.1≠d)
structure Mod (K:B0) (mg:Str->Option Value) (base:Heap):Prop where
 kin:K.In base
 glob:base.Ns mainGlobals mg
 blt:∃mb,base.Ns builtinsNs mb/\∀x:Str,x≠ "__name__" ->mb x=bootBuiltins x
 nolimit:base.NoLimit
structure Cx where
 prog:Program
 w:World
 K:B0
 mg:Str->Option Value
 base:Heap
 A:Around
 N:List Str
 s₀:Shared
 H₀:Hp
 env:Env
 outer:List Env
 stack:List Env
 ex:List Addr
 fn:Str->Bool
 calm:Bool
 pn:List (Addr×Obj)
 xe:Value->Shared->Prop
def frs (l:List Env):List Addr:=l.filterMap (·.frame)
abbrev Cx.fs (X:Cx):List Addr:=frs X.outer
def Vis (sc:Scope) (x:Str):Prop:=sc.names.lookup x=some .local\/sc.names.lookup x=some .cell\/sc.names.lookup x=some .free
def Loc (sc:Scope) (x:Str):Prop:=sc.names.lookup x=some .local\/sc.names.lookup x=some .cell
def B58 (env:Env) (h:Heap) (m:Str->Option Value) (x:Str) (u:Value):Prop:=
 (env.kindOf x=some .local/\m x=some u)\/((env.kindOf x=some .cell\/env.kindOf x=some .free)/\∃c,env.cells.lookup x=some c/\h.IsCell c (some u))
structure Cx.Ok (X:Cx):Prop where
 mod:Mod X.K X.mg X.base
 kind:X.env.scope.kind=.function
 glob:X.env.globals=mainGlobals
 blt:X.env.builtins=builtinsNs
 above:X.s₀.heap.objs.size<=X.env.locals
 inj:∀x y c,X.env.cells.lookup x=some c->X.env.cells.lookup y=some c->x=y
 has:∀x,(X.env.kindOf x=some .cell\/X.env.kindOf x=some .free)->∃c,X.env.cells.lookup x=some c
 cab:∀x c,X.fn x=true->X.env.cells.lookup x=some c->X.s₀.heap.objs.size<=c
 hd:X.calm=true->X.A.handled=none
 frames:X.A.frames=some X.stack
 stk:X.stack=X.outer\/(X.stack=X.env::X.outer/\X.env.frame=some X.env.locals)
 exf:∀b∈X.ex,b≠X.env.locals/\∀x c,X.env.cells.lookup x=some c->c≠b
 bs:∀b o,X.base.get? b=some o->X.s₀.heap.get? b=some o/\X.H₀ b=none
 bsz:X.base.objs.size<=X.s₀.heap.objs.size
 noex:∀b o,X.base.get? b=some o->b∉X.ex
 exfs:∀b∈X.ex,b∉X.fs
 funs:X.s₀.heap.FunFrames X.base X.outer
 frf:∀b∈X.fs,X.H₀ b=none
structure Inv (X:Cx) (pins:List (Addr×Obj)) (σ:List (Option V)) (H:Hp) (s:Shared):Prop where
 ok:X.Ok
 os:s.os=X.s₀.os
 bare:AllBare s.gens
 base:Un X.fs X.ex X.H₀ H X.s₀.heap s.heap
 loc:∃m,s.heap.Ns X.env.locals m/\∀(i:Nat) (x:Str) (v:V),X.N[i]?=some x->σ[i]?=some (some v)->Vis X.env.scope x->∃u,E2 v u/\B58 X.env s.heap m x u
 cell:∀x c,X.env.cells.lookup x=some c->∃v,s.heap.IsCell c v
 free:H X.env.locals=none
 freeC:∀x c,X.env.cells.lookup x=some c->H c=none
 pin:∀p∈X.pn++pins,s.heap.get? p.1=some p.2/\H p.1=none/\p.1≠X.env.locals/\p.1∉X.fs/\∀v,p.2.data≠.cell v
 hok:HOk X.prog X.w H s.heap
 len:σ.length=X.N.length
section
variable {X:Cx} {pins:List (Addr×Obj)} {σ:List (Option V)} {H H':Hp} {s:Shared} {h':Heap}
theorem Cx.Ok.nofr (ok:X.Ok) {b:Addr} {o:Obj} (e:X.base.get? b=some o):b∉X.fs:=λhb=>by
 have:=(ok.funs.mem hb).1
 rw[e] at this;cases this
theorem Inv.bs (I:Inv X pins σ H s):∀b o,X.base.get? b=some o->s.heap.get? b=some o/\H b=none:=λb o e=>
 ⟨I.base.keep b o (I.ok.bs b o e).1 (I.ok.bs b o e).2 (I.ok.nofr e) (I.ok.noex b o e),I.base.free b o (I.ok.bs b o e).1 (I.ok.bs b o e).2 (I.ok.noex b o e)⟩
theorem Inv.bk (I:Inv X pins σ H s):∀b o,X.base.get? b=some o->s.heap.get? b=some o:=λb o e=>(I.bs b o e).1
theorem Inv.mod (I:Inv X pins σ H s):Mod X.K X.mg X.base:=I.ok.mod
theorem Inv.kIn (I:Inv X pins σ H s):X.K.In s.heap:=I.ok.mod.kin.keeps I.bk
theorem Inv.lt (I:Inv X pins σ H s):X.env.locals < s.heap.objs.size:=let ⟨_,hn,_⟩:=I.loc;hn.lt
theorem Inv.sz (I:Inv X pins σ H s):X.s₀.heap.objs.size<=s.heap.objs.size:=T8 I.ok.above (A58 I.lt)
theorem Inv.nofs (I:Inv X pins σ H s) {a:Addr} (h:s.heap.objs.size<=a):a∉X.fs:=λhb=>by
 obtain⟨_,o,ho,_⟩:=I.ok.funs.mem hb
 exact absurd (V7 (G8 ho) (T8 I.sz h)) (g7 _)
theorem Inv.cne (I:Inv X pins σ H s):∀x c,X.env.cells.lookup x=some c->c≠X.env.locals:=λx c e z=>by
 obtain⟨v,o,ho,hd⟩:=I.cell x c e
 obtain⟨m,⟨o',es,ep,ho',hd',_⟩,_⟩:=I.loc
 rw[z,ho'] at ho;cases ho;rw[hd'] at hd;cases hd
theorem Inv.funs (I:Inv X pins σ H s):s.heap.FunFrames X.base X.outer:=by
 have all:∀(l:List Env),(∀b∈frs l,b∈X.fs)->X.s₀.heap.FunFrames X.base l->s.heap.FunFrames X.base l:=by
  intro l
  induction l with
  | nil=>intro _ _;trivial
  | cons env r ih=>
   intro hs hl
   obtain⟨hk,⟨L,o,hf,hn,ho,hd⟩,hr⟩:=hl
   have hL:L∈X.fs:=hs L (by unfold frs;rw[C2c,hf];exact D4)
   obtain⟨sl,e⟩:=I.base.slot L o ho (I.ok.frf L hL) hL λz=>I.ok.exfs L z hL
   exact⟨hk,⟨L,_,hf,hn,e,hd⟩,ih (λb hb=>hs b (by unfold frs;rw[C2c,hf];exact C8 _ hb)) hr⟩
 exact all X.outer (λ_ hb=>hb) I.ok.funs
theorem Inv.stack (I:Inv X pins σ H s):s.heap.FunFrames X.base X.stack:=by
 rcases I.ok.stk with e | ⟨e,hf⟩
 ·rw[e];exact I.funs
 ·rw[e]
  obtain⟨m,hn,_⟩:=I.loc
  refine .cons (by rw[I.ok.kind];decide) hf hn ?_ I.funs
  exact Heap.get?_none_of_le (T8 I.ok.bsz I.ok.above)
theorem Inv.stkSub (I:Inv X pins σ H s):∀b∈frs X.stack,b∈X.env.locals::X.fs:=λb hb=>by
 rcases I.ok.stk with e | ⟨e,hf⟩
 ·rw[e] at hb;exact C8 _ hb
 ·rw[e] at hb
  unfold frs at hb
  rw[C2c,hf] at hb
  exact hb
theorem Inv.stkFree (I:Inv X pins σ H s):∀b∈frs X.stack,H b=none:=λb hb=>by
 rcases J1.mp (I.stkSub b hb) with e | hb
 ·rw[e];exact I.free
 ·obtain⟨_,o,ho,_⟩:=I.ok.funs.mem hb
  exact I.base.free b o ho (I.ok.frf b hb) λz=>I.ok.exfs b z hb
theorem Inv.step {g':Array GenState} {t':Nat} {d':Drawn} {ch:List Addr} (I:Inv X pins σ H s)
  (hch:∀b∈ch,(b∈X.ex\/X.s₀.heap.objs.size<=b)/\b≠X.env.locals/\(∀x c,X.env.cells.lookup x=some c->c≠b)/\∀p∈X.pn++pins,p.1≠b)
  (keep:∀b o,b≠X.env.locals->b∉X.fs->b∉ch->s.heap.get? b=some o->H b=none->h'.get? b=some o)
  (slot:∀b o,b≠X.env.locals->b∈X.fs->b∉ch->s.heap.get? b=some o->H b=none->∃sl,h'.get? b=some { o with slots:=sl }) (free:∀b o,b∉ch->s.heap.get? b=some o->H b=none->H' b=none)
  (there:∀b o,b∉ch->s.heap.get? b=some o->∃o',h'.get? b=some o')
  (tups:∀b xs,H b=some (.tup xs)->H' b=some (.tup xs)) (frzs:∀b o u,H b=some (.frz o u)->H' b=some (.frz o u)) (tbls:∀b ps,H b=some (.tbl ps)->∃more,H' b=some (.tbl (ps++more)))
  (ns:∀m,s.heap.Ns X.env.locals m->h'.Ns X.env.locals m) (hok:HOk X.prog X.w H' h') (hg:AllBare g') :
  Inv X pins σ H' { s with heap:=h',gens:=g',drawn:=d',toks:=t' }:=by
 have neL:∀b o,X.s₀.heap.get? b=some o->b≠X.env.locals:=λb o e=>O4 (V7 (G8 e) I.ok.above)
 have neC:∀b o,X.s₀.heap.get? b=some o->b∉X.ex->b∉ch:=λb o e hx hb=>by
  rcases (hch b hb).1 with z | z
  ·exact hx z
  ·exact absurd (V7 (G8 e) z) (g7 _)
 have cellK:∀x c,X.env.cells.lookup x=some c->∀v,s.heap.IsCell c v->h'.IsCell c v:=λx c e v zz1=>el2 zz1 λo ho hd=>by
  have nch:c∉ch:=λz=>(hch c z).2.2.1 x c e rfl
  by_cases hc:c∈X.fs
  ·obtain⟨sl,q⟩:=slot c o (I.cne x c e) hc nch ho (I.freeC x c e)
   exact⟨_,q,hd⟩
  ·exact⟨o,keep c o (I.cne x c e) hc nch ho (I.freeC x c e),hd⟩
 refine⟨I.ok,I.os,hg,⟨λb o e n hb hx=>?_,λb o e n hb hx=>?_,λb o e n hx=>?_,λb o e hx=>?_,λb xs e=>tups b xs (I.base.tups b xs e),λb o xs e=>frzs b o xs (I.base.frzs b o xs e),λb ps e=>?_⟩,?_,λx c e=>?_,?_,λx c e=>?_,λp hp=>?_,hok,I.len⟩
 ·exact keep b o (neL b o e) hb (neC b o e hx) (I.base.keep b o e n hb hx) (I.base.free b o e n hx)
 ·obtain⟨sl,e1⟩:=I.base.slot b o e n hb hx
  obtain⟨sl',e2⟩:=slot b _ (neL b o e) hb (neC b o e hx) e1 (I.base.free b o e n hx)
  exact⟨sl',e2⟩
 ·obtain⟨o',e1⟩:=I.base.there b o e hx
  exact free b o' (neC b o e hx) e1 (I.base.free b o e n hx)
 ·obtain⟨o',e1⟩:=I.base.there b o e hx
  exact there b o' (neC b o e hx) e1
 ·obtain⟨m1,e1⟩:=I.base.tbls b ps e
  obtain⟨m2,e2⟩:=tbls b _ e1
  exact⟨m1++m2,by rw[e2,Array.append_assoc]⟩
 ·obtain⟨m,hn,hl⟩:=I.loc
  refine⟨m,ns m hn,λi x v e1 e2 e3=>?_⟩
  obtain⟨u,r,l⟩:=hl i x v e1 e2 e3
  refine⟨u,r,?_⟩
  rcases l with l | ⟨k,c,e,z⟩
  ·exact .inl l
  ·exact .inr ⟨k,c,e,cellK x c e _ z⟩
 ·obtain⟨v,z⟩:=I.cell x c e
  exact⟨v,cellK x c e v z⟩
 ·obtain⟨m,⟨o,_,_,ho,_⟩,_⟩:=I.loc
  exact free _ o (λz=>(hch _ z).2.1 rfl) ho I.free
 ·obtain⟨v,o,ho,hd⟩:=I.cell x c e
  exact free c o (λz=>(hch c z).2.2.1 x c e rfl) ho (I.freeC x c e)
 ·obtain⟨e,n,ne,nf,d⟩:=I.pin p hp
  have nch:p.1∉ch:=λz=>(hch p.1 z).2.2.2 p hp rfl
  exact⟨keep p.1 p.2 ne nf nch e n,free p.1 p.2 nch e n,ne,nf,d⟩
theorem Inv.un {t':Nat} (I:Inv X pins σ H s) (u:Un X.fs [] H H' s.heap h') (hok:HOk X.prog X.w H' h'):Inv X pins σ H' { s with heap:=h',toks:=t' }:=by
 obtain⟨m,⟨o,es,ep,ho,r⟩,_⟩:=id I.loc
 obtain⟨sl,hL⟩:=u.any ho I.free (by simp)
 exact I.step (g':=s.gens) (d':=s.drawn) (ch:=[]) (λ_ z=>nomatch z) (λb o _ hb _ e n=>u.keep b o e n hb (by simp)) (λb o _ hb _ e n=>u.slot b o e n hb (by simp)) (λb o _ e n=>u.free b o e n (by simp)) (λb o _ e=>u.there b o e (by simp)) u.tups u.frzs u.tbls (λm' hm=>by
  obtain⟨o',es',ep',ho',r'⟩:=hm
  rw[ho] at ho';cases ho'
  exact⟨_,es',ep',hL,r'⟩) hok I.bare
theorem Inv.call {g':Array GenState} {t':Nat} {d':Drawn} {ch:List Addr} (I:Inv X pins σ H s) (u:Un (frs X.stack) ch H H' s.heap h') (hok:HOk X.prog X.w H' h') (hg:AllBare g')
  (hch:∀b∈ch,(b∈X.ex\/X.s₀.heap.objs.size<=b)/\b≠X.env.locals/\(∀x c,X.env.cells.lookup x=some c->c≠b)/\∀p∈X.pn++pins,p.1≠b) :
  Inv X pins σ H' { s with heap:=h',gens:=g',drawn:=d',toks:=t' }:=by
 obtain⟨m,⟨o,es,ep,ho,r⟩,_⟩:=id I.loc
 obtain⟨sl,hL⟩:=u.any ho I.free λz=>(hch _ z).2.1 rfl
 exact I.step (ch:=ch) hch (λb o hL hb hc e n=>u.keep b o e n (λz=>(J1.mp (I.stkSub b z)).elim hL hb) hc) (λb o _ _ hc e n=>u.any e n hc) (λb o hc e n=>u.free b o e n hc) (λb o hc e=>u.there b o e hc) u.tups u.frzs u.tbls (λm' hm=>by
  obtain⟨o',es',ep',ho',r'⟩:=hm
  rw[ho] at ho';cases ho'
  exact⟨_,es',ep',hL,r'⟩) hok hg
theorem Inv.turned {t':Nat} {it:Addr} (I:Inv X pins σ H s) (k:∀b o,b≠it->s.heap.get? b=some o->h'.get? b=some o) (hn:H it=none) (hL:it≠X.env.locals)
  (h1:it∈X.ex\/X.s₀.heap.objs.size<=it) (h2:∀x c,X.env.cells.lookup x=some c->c≠it) (h3:∀p∈X.pn++pins,p.1≠it):Inv X pins σ H { s with heap:=h',toks:=t' }:=by
 have nit:∀b u,H b=some u->b≠it:=λb u e z=>by rw[z,hn] at e;cases e
 refine I.step (g':=s.gens) (d':=s.drawn) (ch:=[it]) (λb hb=>?_) (λb o _ _ hc e _=>k b o (λz=>hc (by simp [z])) e) (λb o _ _ hc e _=>⟨o.slots,k b o (λz=>hc (by simp [z])) e⟩) (λ_ _ _ _ n=>n)
  (λb o hc e=>⟨o,k b o (λz=>hc (by simp [z])) e⟩) (λ_ _ e=>e) (λ_ _ _ e=>e) (λb ps e=>⟨#[],by rw[e];simp⟩) (λm hm=>?_) (λb u e=>?_) I.bare
 ·have e:b=it:=by simpa using hb
  subst e
  exact⟨h1,hL,h2,h3⟩
 ·obtain⟨o,es,ep,ho,r⟩:=hm
  exact⟨o,es,ep,k _ o (Ne.symm hL) ho,r⟩
 ·refine (I.hok b u e).stay (λc v hc q=>k c v ?_ q) (λ_ q=>q) λ_ _ q=>q
  rcases hc with z | z
  ·rw[z];exact nit b u e
  ·exact nit c _ z
theorem Inv.tok (I:Inv X pins σ H s) (t:Nat):Inv X pins σ H { s with toks:=t }:=I.un (h':=s.heap) (t':=t) Un.refl I.hok
theorem Inv.kept {t':Nat} (I:Inv X pins σ H s) (k:∀b u,s.heap.get? b=some u->h'.get? b=some u):Inv X pins σ H { s with heap:=h',toks:=t' }:=I.un (Un.kept k) (I.hok.kept k)
theorem Inv.laid {a:Addr} {o:HO} {t':Nat} (I:Inv X pins σ H s) (k:∀b u,s.heap.get? b=some u->h'.get? b=some u) (hp:s.heap.objs.size<=a) (new:K3 X.prog X.w (upd H a o) h' a o) :
  Inv X pins σ (upd H a o) { s with heap:=h',toks:=t' }:=I.un (Un.laid k hp (I.hok.fresh hp)) (I.hok.laid k hp new)
theorem Inv.write {x e:Addr} {o:HO} {t':Nat} (I:Inv X pins σ H s) (mu:Mut (H x)) (he:e=x\/H e=some (.own x)) (k:∀b u,b≠e->s.heap.get? b=some u->h'.get? b=some u) (heo:∃u,h'.get? e=some u)
  (new:K3 X.prog X.w (upd H x o) h' x o):Inv X pins σ (upd H x o) { s with heap:=h',toks:=t' }:=I.un (Un.write mu he k heo) (I.hok.write mu he k heo new)
theorem Inv.weak {σ':List (Option V)} (I:Inv X pins σ H s) (hl:σ'.length=σ.length) (w:∀(i:Nat) v,σ'[i]?=some (some v)->σ[i]?=some (some v)):Inv X pins σ' H s:=
 ⟨I.ok,I.os,I.bare,I.base,let ⟨m,hn,hl'⟩:=I.loc;⟨m,hn,λi x v e1 e2 e3=>hl' i x v e1 (w i v e2) e3⟩,I.cell,I.free,I.freeC,I.pin,I.hok,hl.trans I.len⟩
theorem Inv.pins_of {pins':List (Addr×Obj)} (I:Inv X pins σ H s) (h:∀p∈pins',s.heap.get? p.1=some p.2/\H p.1=none/\p.1≠X.env.locals/\p.1∉X.fs/\∀v,p.2.data≠.cell v):Inv X pins' σ H s:=
 ⟨I.ok,I.os,I.bare,I.base,I.loc,I.cell,I.free,I.freeC,λp hp=>(V8.mp hp).elim (λz=>I.pin p (C2d _ z)) (h p),I.hok,I.len⟩
theorem A8k {N:List Str} (hN:N.Nodup) {i j:Nat} {x:Str} (a:N[i]?=some x) (b:N[j]?=some x):i=j:=by
 obtain⟨h1,e1⟩:=V9.mp a
 obtain⟨h2,e2⟩:=V9.mp b
 exact (List.getElem_inj hN).mp (e1.trans e2.symm)
theorem B59 {M:Model} {A:Around} {E:Value->Shared->Prop} {i:Nat} {x:Str} {v:V} {u:Value} {Q:Unit->Shared->Prop} (I:Inv X pins σ H s) (hN:X.N.Nodup) (hi:X.N[i]?=some x) (hx:Loc X.env.scope x) (r:E2 v u)
  (h:∀s',Inv X pins (σ.set i (some v)) H s'->(∃a,Heap.SameBut a s.heap s'.heap/\(a=X.env.locals\/X.env.cells.lookup x=some a))->Q () s') (hf:autoParam (X.fn x=true\/X.env.scope.names.lookup x=some .local) A0P._auto_1):wpAny M A (storeName X.env x u) Q E s:=by
 obtain⟨m,hn,hl⟩:=id I.loc
 have hcls:(X.env.scope.kind == .class||(X.env.scope.kind == .module&&X.env.locals != X.env.globals))=false:=by rw[I.ok.kind];rfl
 have hiσ:i < σ.length:=by rw[I.len];exact (V9.mp hi).1
 have cne:=I.cne
 have tracked:∀{a:Addr} {h':Heap},(∃o,s.heap.get? a=some o/\H a=none)->Heap.SameBut a s.heap h'->HOk X.prog X.w H h':=λ{a h'} ha hs b ob e=>by
  obtain⟨_,_,hfree⟩:=ha
  refine (I.hok b ob e).stay (λc w' hc q=>(hs.2 c ?_).trans q) (λ_ q=>q) λ_ _ q=>q
  rintro rfl
  rcases hc with rfl | hc
  ·rw[hfree] at e;cases e
  ·rw[hfree] at hc;cases hc
 rcases hx with hk | hk
 ·refine wpAny_storeName_local hk hn (λh' hn' hs=>?_) hcls
  obtain⟨oL,_,_,hoL,_⟩:=id hn
  refine h _ ⟨I.ok,I.os,I.bare,⟨λb o e n hb hx=>?_,λb o e n hb hx=>?_,I.base.free,λb o e hx=>?_,I.base.tups,I.base.frzs,I.base.tbls⟩,⟨_,hn',λj y v' e1 e2 e3=>?_⟩,λy c e=>?_,I.free,I.freeC,λp hp=>?_,tracked ⟨oL,hoL,I.free⟩ hs,by simpa using I.len⟩ ⟨_,hs,.inl rfl⟩
  ·exact (hs.2 b (O4 (V7 (G8 e) I.ok.above))).trans (I.base.keep b o e n hb hx)
  ·obtain⟨sl,e1⟩:=I.base.slot b o e n hb hx
   exact⟨sl,(hs.2 b (O4 (V7 (G8 e) I.ok.above))).trans e1⟩
  ·obtain⟨o',e1⟩:=I.base.there b o e hx
   exact⟨o',(hs.2 b (O4 (V7 (G8 e) I.ok.above))).trans e1⟩
  ·by_cases hj:j=i
   ·subst hj
    rw[hi] at e1;cases e1
    rw[List.getElem?_set_self hiσ] at e2
    cases e2
    exact⟨u,r,.inl ⟨hk,by simp⟩⟩
   ·rw[A0o (Ne.symm hj)] at e2
    obtain⟨u',r',q⟩:=hl j y v' e1 e2 e3
    refine⟨u',r',?_⟩
    rcases q with ⟨k,e⟩ | ⟨k,c,e,z⟩
    ·refine .inl ⟨k,?_⟩
     have:y≠x:=λe=>hj (A8k hN e1 (e▸hi))
     simp [this,e]
    ·exact .inr ⟨k,c,e,z.sameBut hs (cne y c e)⟩
  ·obtain⟨w',z⟩:=I.cell y c e
   exact⟨w',z.sameBut hs (cne y c e)⟩
  ·obtain⟨e,n,ne,nf,d⟩:=I.pin p hp
   exact⟨(hs.2 p.1 ne).trans e,n,ne,nf,d⟩
 ·have hfn:X.fn x=true:=by
   rcases hf with z | z
   ·exact z
   ·rw[z] at hk;cases hk
  obtain⟨c,hc⟩:=I.ok.has x (.inl hk)
  obtain⟨w',z⟩:=I.cell x c hc
  refine wpAny_storeName_cell I.ok.kind hk hc z (λh' hc' hs=>?_)
  obtain⟨oc,hoc,hocd⟩:=id z
  refine h { s with heap:=h' } ⟨I.ok,I.os,I.bare,⟨λb o e n hb hx=>?_,λb o e n hb hx=>?_,I.base.free,λb o e hx=>?_,I.base.tups,I.base.frzs,I.base.tbls⟩,⟨m,hn.sameBut hs (Ne.symm (cne x c hc)),λj y v' e1 e2 e3=>?_⟩,λy c' e=>?_,I.free,I.freeC,λp hp=>?_,tracked ⟨oc,hoc,I.freeC x c hc⟩ hs,by simpa using I.len⟩ ⟨c,hs,.inr hc⟩
  ·exact (hs.2 b (O4 (V7 (G8 e) (I.ok.cab x c hfn hc)))).trans (I.base.keep b o e n hb hx)
  ·obtain⟨sl,e1⟩:=I.base.slot b o e n hb hx
   exact⟨sl,(hs.2 b (O4 (V7 (G8 e) (I.ok.cab x c hfn hc)))).trans e1⟩
  ·obtain⟨o',e1⟩:=I.base.there b o e hx
   exact⟨o',(hs.2 b (O4 (V7 (G8 e) (I.ok.cab x c hfn hc)))).trans e1⟩
  ·by_cases hj:j=i
   ·subst hj
    rw[hi] at e1;cases e1
    rw[List.getElem?_set_self hiσ] at e2
    cases e2
    exact⟨u,r,.inr ⟨.inl hk,c,hc,hc'⟩⟩
   ·rw[A0o (Ne.symm hj)] at e2
    obtain⟨u',r',q⟩:=hl j y v' e1 e2 e3
    refine⟨u',r',?_⟩
    rcases q with q | ⟨k,c',e,z'⟩
    ·exact .inl q
    ·refine .inr ⟨k,c',e,z'.sameBut hs ?_⟩
     rintro rfl
     exact hj (A8k hN e1 (I.ok.inj _ _ _ e hc▸hi))
  ·by_cases hcc:c'=c
   ·subst hcc;exact⟨_,hc'⟩
   ·obtain⟨w2,z2⟩:=I.cell y c' e
    exact⟨w2,z2.sameBut hs hcc⟩
  ·obtain⟨e,n,ne,nf,d⟩:=I.pin p hp
   refine⟨(hs.2 p.1 ?_).trans e,n,ne,nf,d⟩
   intro q
   rw[q,hoc] at e
   have q':oc=p.2:=Option.some.inj e
   exact d w' (by rw[<-q'];exact hocd)
theorem B08 {M:Model} {A:Around} {E:Value->Shared->Prop} {i:Nat} {x:Str} {v:V} {u:Value} {Q:Unit->Shared->Prop} (I:Inv X pins σ H s) (hN:X.N.Nodup) (hi:X.N[i]?=some x) (hx:Loc X.env.scope x) (r:E2 v u)
  (h:∀s',Inv X pins (σ.set i (some v)) H s'->Q () s') (hf:autoParam (X.fn x=true\/X.env.scope.names.lookup x=some .local) A0P._auto_1):wpAny M A (storeName X.env x u) Q E s:=
 B59 I hN hi hx r (λs' I' _=>h s' I') hf
theorem Inv.call' {s':Shared} {ch:List Addr} (I:Inv X pins σ H s) (ho:s'.os=s.os) (u:Un (frs X.stack) ch H H' s.heap s'.heap) (hok:HOk X.prog X.w H' s'.heap) (hg:AllBare s'.gens)
  (hch:∀b∈ch,(b∈X.ex\/X.s₀.heap.objs.size<=b)/\b≠X.env.locals/\(∀x c,X.env.cells.lookup x=some c->c≠b)/\∀p∈X.pn++pins,p.1≠b):Inv X pins σ H' s':=by
 obtain⟨h',g',d',t',o'⟩:=s'
 have e:o'=s.os:=ho
 subst e
 exact I.call (g':=g') (t':=t') (d':=d') u hok hg hch
end
abbrev XK:=Value->Option Addr->Hp->Prop
abbrev St:=List (Option V)
abbrev VK:=V->Hp->Prop
abbrev TE:=St->Hp->VK->Prop
abbrev TT:=St->Hp->(Bool->Hp->Prop)->Prop
abbrev TA:=St->Hp->(List V->Hp->Prop)->Prop
structure Y8 where
 nx:St->Hp->Prop
 rt:VK
 bk:St->Hp->Prop:=λ_ _=>False
 ct:St->Hp->Prop:=λ_ _=>False
abbrev TS:=Y8->St->Hp->Prop
def EP (X:Cx) (pins:List (Addr×Obj)) (σ:St) (Q:VK) (u:Value) (s':Shared):Prop:=∃v H',Inv X pins σ H' s'/\E2 v u/\Q v H'
def TP (X:Cx) (pins:List (Addr×Obj)) (σ:St) (Q:Bool->Hp->Prop) (b:Bool) (s':Shared):Prop:=∃H',Inv X pins σ H' s'/\Q b H'
def AP (X:Cx) (pins:List (Addr×Obj)) (σ:St) (Q:List V->Hp->Prop) (us:List Value) (s':Shared):Prop:=∃vs H',Inv X pins σ H' s'/\C4 vs us/\Q vs H'
def SP (X:Cx) (pins:List (Addr×Obj)) (D:Y8) (f:Flow) (s':Shared):Prop:=
 match f with
 | .next=>∃σ' H',Inv X pins σ' H' s'/\D.nx σ' H'
 | .brk=>∃σ' H',Inv X pins σ' H' s'/\D.bk σ' H'
 | .cont=>∃σ' H',Inv X pins σ' H' s'/\D.ct σ' H'
 | .ret u=>∃v σ' H',Inv X pins σ' H' s'/\E2 v u/\D.rt v H'
def PE (X:Cx) (e:Expr) (t:TE):Prop:=
 ∀(pins:List (Addr×Obj)) (s:Shared) (σ:St) (H:Hp) (Q:VK),Inv X pins σ H s->t σ H Q->wpAny (model X.prog X.w) X.A (eval e X.env) (EP X pins σ Q) X.xe s
def PT (X:Cx) (e:Expr) (t:TT):Prop:=
 ∀(pins:List (Addr×Obj)) (s:Shared) (σ:St) (H:Hp) (Q:Bool->Hp->Prop),Inv X pins σ H s->t σ H Q->wpAny (model X.prog X.w) X.A (isTrue e X.env (eval e X.env)) (TP X pins σ Q) X.xe s
def PW (X:Cx) (e:Expr) (t:TT):Prop:=
 ∀(whole:Sem Value) (pins:List (Addr×Obj)) (s:Shared) (σ:St) (H:Hp) (Q:Bool->Hp->Prop),Inv X pins σ H s->t σ H Q->wpAny (model X.prog X.w) X.A (isTrue e X.env whole) (TP X pins σ Q) X.xe s
theorem PW.pt {X:Cx} {e:Expr} {t:TT} (h:PW X e t):PT X e t:=h _
def PA (X:Cx) (es:List Expr) (t:TA):Prop:=
 ∀(pos:Pos) (pins:List (Addr×Obj)) (s:Shared) (σ:St) (H:Hp) (Q:List V->Hp->Prop),Inv X pins σ H s->t σ H Q->wpAny (model X.prog X.w) X.A (spliced (backTo pos (starEach es X.env))) (AP X pins σ Q) X.xe s
def PS (X:Cx) (st:Stmt) (t:TS):Prop:=
 ∀(pins:List (Addr×Obj)) (s:Shared) (σ:St) (H:Hp) (D:Y8),Inv X pins σ H s->t D σ H->wpAny (model X.prog X.w) X.A (exec st X.env) (SP X pins D) X.xe s
def PSs (X:Cx) (st:List Stmt) (t:TS):Prop:=
 ∀(pins:List (Addr×Obj)) (s:Shared) (σ:St) (H:Hp) (D:Y8),Inv X pins σ H s->t D σ H->wpAny (model X.prog X.w) X.A (execs st X.env) (SP X pins D) X.xe s
theorem thn {α:Type} {t:Sem α} {Q Q':α->Shared->Prop} {M:Model} {A:Around} {E:Value->Shared->Prop} {s:Shared} (h:wpAny M A t Q E s) (hQ:∀a s,Q a s->Q' a s):wpAny M A t Q' E s:=wpAny_mono h hQ λ_ _ x=>x
section
variable {X:Cx}
def W1 (i:Nat):TE:=fun σ H Q=>∃v,σ[i]?=some (some v)/\Q v H
def tC (v:V):TE:=λ_ H Q=>Q v H
theorem C23 {i:Nat} {x:Str} {pos:Pos} (hN:X.N[i]?=some x) (hv:Vis X.env.scope x) (hd:autoParam ((x == ("__debug__" : Str))=false) DD._auto_1) (hcd:autoParam ((x == ("__classdict__" : Str))=false) DD._auto_1):PE X (.Name x pos) (W1 i):=by
 intro pins s σ H Q I h
 obtain⟨v,e,h⟩:=h
 obtain⟨m,hn,hl⟩:=I.loc
 obtain⟨u,r,l⟩:=hl i x v hN e hv
 have fin:EP X pins σ Q u s:=⟨v,H,I,r,h⟩
 rcases l with ⟨hk,hm⟩ | ⟨hk,c,hc,hcell⟩
 ·exact wpAny_Name (wpAny_loadName_local I.ok.kind hk hn hm fin) hd
 ·rcases hk with hk | hk
  ·exact wpAny_Name (wpAny_loadName_cell I.ok.kind hk hc hcell fin) hd
  ·exact wpAny_Name (wpAny_loadName_free I.ok.kind hk hc hcell fin hcd) hd
theorem B1 {i j pos}:PE X (.Constant (.int i) j pos) (tC (.int i)):=λ_ _ _ H _ I h=>wpAny_Constant_int ⟨.int i,H,I.tok _,⟨_,rfl⟩,h⟩
theorem j9 {b j pos}:PE X (.Constant (.bool b) j pos) (tC (.bl b)):=λ_ _ _ H _ I h=>Constant_bool ⟨.bl b,H,I,rfl,h⟩
theorem w5 {j pos}:PE X (.Constant .none j pos) (tC .non):=λ_ _ _ H _ I h=>Constant_none ⟨.non,H,I,rfl,h⟩
theorem Y9 {x j pos}:PE X (.Constant (.str x) j pos) (tC (.str x)):=λ_ _ _ H _ I h=>Calls.Constant_str ⟨.str x,H,I.tok _,⟨_,rfl⟩,h⟩
def Gl (X:Cx) (x:Str):Prop:=X.env.kindOf x=some .globalImplicit
theorem B09 {E:Value->Shared->Prop} {pins:List (Addr×Obj)} {s:Shared} {σ:St} {H:Hp} {x:Str} {u:Value} {pos:Pos} {Q:Value->Shared->Prop} (I:Inv X pins σ H s) (hg:Gl X x) (hm:X.mg x=some u) (h:Q u s)
  (hd:autoParam ((x == ("__debug__" : Str))=false) DD._auto_1):wpAny (model X.prog X.w) X.A (eval (.Name x pos) X.env) Q E s:=
 Calls.Name_function_global I.ok.kind hg (Calls.loadGlobal_global (by rw[I.ok.glob];exact I.mod.glob.keeps I.bk) hm h) hd
theorem A0y {E:Value->Shared->Prop} {pins:List (Addr×Obj)} {s:Shared} {σ:St} {H:Hp} {x:Str} {u:Value} {pos:Pos} {Q:Value->Shared->Prop} (I:Inv X pins σ H s) (hg:Gl X x) (hm:X.mg x=none) (hv:bootBuiltins x=some u) (h:Q u s)
  (hn:autoParam (x≠ "__name__" ) DD._auto_1) (hd:autoParam ((x == ("__debug__" : Str))=false) DD._auto_1):wpAny (model X.prog X.w) X.A (eval (.Name x pos) X.env) Q E s:=by
 obtain⟨mb,h1,h2⟩:=I.mod.blt
 exact Calls.Name_function_global I.ok.kind hg (Calls.loadGlobal_builtin (by rw[I.ok.glob];exact I.mod.glob.keeps I.bk) hm (by rw[I.ok.blt];exact h1.keeps I.bk) ((h2 x hn).trans hv) h) hd
theorem C9 {x:Str} {v:V} {u:Value} {pos:Pos} (hg:Gl X x) (hm:X.mg x=some u) (r:E2 v u) (hd:autoParam ((x == ("__debug__" : Str))=false) DD._auto_1):PE X (.Name x pos) (tC v):=
 λ_ _ _ H _ I h=>B09 I hg hm ⟨v,H,I,r,h⟩ hd
theorem A1j {x:Str} {v:V} {u:Value} {pos:Pos} (hg:Gl X x) (hm:X.mg x=none) (hv:bootBuiltins x=some u) (r:E2 v u) (hn:autoParam (x≠ "__name__" ) DD._auto_1) (hd:autoParam ((x == ("__debug__" : Str))=false) DD._auto_1):PE X (.Name x pos) (tC v):=
 λ_ _ _ H _ I h=>A0y I hg hm hv ⟨v,H,I,r,h⟩ hn hd
variable {a b:Expr} {ta tb:TE} {pos:Pos}
def PC (X:Cx) (op:CmpOp) (a b:Expr) (t:TE):Prop:=
 ∀(pins:List (Addr×Obj)) (s:Shared) (σ:St) (H:Hp) (Q:VK),Inv X pins σ H s->t σ H Q->
  wpAny (model X.prog X.w) X.A (eval a X.env) (λv s₁=>wpAny (model X.prog X.w) X.A (eval b X.env) (λu s₂=>wpAny (model X.prog X.w) X.A (compareOp op v u) (EP X pins σ Q) X.xe s₂) X.xe s₁) X.xe s
def tB (t:TE):TT:=fun σ H Q=>t σ H λx H1=>∃c,x=.bl c/\Q c H1
theorem B1a {op:CmpOp} {t:TE} (h:PC X op a b t) (h1:behindInMarks op b=false:=by first | exact nobehind _ DD DD | rfl):PT X (.Compare a [op] [b] pos) (tB t):=by
 intro pins s σ H Q I hw
 refine wpAny_isTrue_Compare1 (thn (h pins s σ H _ I hw) λv s1 h1=>thn h1 λu s2 h2=>thn h2 λc s3 zz6=>el5 zz6 λx H1 I1 r1 q1=>?_) h1
 obtain⟨d,rfl,q⟩:=q1
 cases r1
 exact wpAny_truthy_bool ⟨H1,I1,q⟩
theorem W3 {e:Expr} {t:TE} (h:PE X e t) (he:autoParam (∀whole,isTrue e X.env whole=(do let v <-whole;standAt e.pos;holding [v] (truthy v))) A2P._auto_1):PT X e (tB t):=by
 intro pins s σ H Q I hw
 refine isTrue_plain (thn (h pins s σ H _ I hw) λv s1 zz7=>el5 zz7 λx H1 I1 r1 q1=>?_) (he _)
 obtain⟨d,rfl,q⟩:=q1
 cases r1
 exact wpAny_truthy_bool ⟨H1,I1,q⟩
variable {tA tB':TT} {P3:List Expr}
def B6a (t u:TT):TT:=fun σ H Q=>t σ H λc H1=>if c=true then u σ H1 Q else Q false H1
def tOr (t u:TT):TT:=fun σ H Q=>t σ H λc H1=>if c=true then Q true H1 else u σ H1 Q
def C24 (t:TT):TT:=fun σ H Q=>t σ H λc H1=>Q (!c) H1
theorem A6n (ha:PT X a tA):PW X (.BoolOp .And [a] pos) tA:=by
 intro wh pins s σ H Q I h
 refine isTrue_and (thn (ha pins s σ H Q I h) λc s1 e=>?_)
 cases c with
 | true=>exact isTrue_and_nil e
 | false=>exact e
theorem A6o (ha:PT X a tA):PW X (.BoolOp .Or [a] pos) tA:=by
 intro wh pins s σ H Q I h
 refine isTrue_or (thn (ha pins s σ H Q I h) λc s1 e=>?_)
 cases c with
 | false=>exact isTrue_or_nil e
 | true=>exact e
theorem A6p (ha:PT X a tA) (hb:PW X (.BoolOp .And (b::P3) pos) tB'):PW X (.BoolOp .And (a::b::P3) pos) (B6a tA tB'):=by
 intro wh pins s σ H Q I h
 refine isTrue_and (thn (ha pins s σ H _ I h) λc s1 zz8=>el2 zz8 λH1 I1 q1=>?_)
 cases c with
 | true=>exact hb wh pins s1 σ H1 Q I1 q1
 | false=>exact⟨H1,I1,q1⟩
theorem A6q (ha:PT X a tA) (hb:PW X (.BoolOp .Or (b::P3) pos) tB'):PW X (.BoolOp .Or (a::b::P3) pos) (tOr tA tB'):=by
 intro wh pins s σ H Q I h
 refine isTrue_or (thn (ha pins s σ H _ I h) λc s1 zz9=>el2 zz9 λH1 I1 q1=>?_)
 cases c with
 | true=>exact⟨H1,I1,q1⟩
 | false=>exact hb wh pins s1 σ H1 Q I1 q1
theorem l3 (ha:PT X a tA):PT X (.UnaryOp .Not a pos) (C24 tA):=by
 intro pins s σ H Q I h
 exact isTrue_not (ha pins s σ H (λc H1=>Q (!c) H1) I h)
def C25 (ta tb:TE):TE:=fun σ H Q=>ta σ H λx H1=>∃c,x=.bl c/\if c=true then tb σ H1 Q else Q (.bl false) H1
def C26 (ta tb:TE):TE:=fun σ H Q=>ta σ H λx H1=>∃c,x=.bl c/\if c=true then Q (.bl true) H1 else tb σ H1 Q
def C27 (ta:TE):TE:=fun σ H Q=>ta σ H λx H1=>∃c,x=.bl c/\Q (.bl (!c)) H1
theorem C28 {op} {t:TE} (h:PE X a t):PE X (.BoolOp op [a] pos) t:=λpins s σ H Q I hw=>BoolOp_one (h pins s σ H Q I hw)
theorem C29 (ha:PE X a ta) (hb:PE X (.BoolOp .And (b::P3) pos) tb):PE X (.BoolOp .And (a::b::P3) pos) (C25 ta tb):=by
 intro pins s σ H Q I h
 refine BoolOp_and (thn (ha pins s σ H _ I h) λv s1 zz10=>el5 zz10 λx H1 I1 r1 q1=>?_)
 obtain⟨c,rfl,q1⟩:=q1
 cases r1
 refine wpAny_truthy_bool ?_
 cases c with
 | true=>exact hb pins s1 σ H1 Q I1 q1
 | false=>exact⟨.bl false,H1,I1,rfl,q1⟩
theorem C3a (ha:PE X a ta) (hb:PE X (.BoolOp .Or (b::P3) pos) tb):PE X (.BoolOp .Or (a::b::P3) pos) (C26 ta tb):=by
 intro pins s σ H Q I h
 refine BoolOp_or (thn (ha pins s σ H _ I h) λv s1 zz11=>el5 zz11 λx H1 I1 r1 q1=>?_)
 obtain⟨c,rfl,q1⟩:=q1
 cases r1
 refine wpAny_truthy_bool ?_
 cases c with
 | false=>exact hb pins s1 σ H1 Q I1 q1
 | true=>exact⟨.bl true,H1,I1,rfl,q1⟩
theorem B1b (ha:PE X a ta):PE X (.UnaryOp .Not a pos) (C27 ta):=by
 intro pins s σ H Q I h
 refine UnaryOp_ (thn (ha pins s σ H _ I h) λv s1 zz12=>el5 zz12 λx H1 I1 r1 q1=>?_)
 obtain⟨c,rfl,q1⟩:=q1
 cases r1
 exact not_of (wpAny_truthy_bool ⟨.bl (!c),H1,I1,rfl,q1⟩)
def tIf (t:TT) (ta tb:TE):TE:=fun σ H Q=>t σ H λc H1=>if c=true then ta σ H1 Q else tb σ H1 Q
theorem B1c {c:Expr} (hc:PT X c tA) (ha:PE X a ta) (hb:PE X b tb):PE X (.IfExp c a b pos) (tIf tA ta tb):=by
 intro pins s σ H Q I h
 refine wpAny_IfExp (thn (hc pins s σ H _ I h) λd s1 zz13=>el2 zz13 λH1 I1 q1=>?_)
 cases d with
 | true=>exact ha pins s1 σ H1 Q I1 q1
 | false=>exact hb pins s1 σ H1 Q I1 q1
end
def SqL (K:B0) (H:Hp) (a:Addr) (xs:List V):Prop:=
 Rd H a (.lst xs)\/
  ∃(o:Obj) (its:Array Value) (n:Nat),K.lookup a=some o/\o.cls=.type "list" /\o.dict=none/\o.data=.seq its n/\its.size<=sizeLine/\C4 xs its.toList
def SqT (K:B0) (H:Hp) (a:Addr) (xs:List V):Prop:=
 Rd H a (.tup xs)\/
  ∃(o:Obj) (its:Array Value) (n:Nat),K.lookup a=some o/\o.cls=.type "tuple" /\o.data=.seq its n/\its.size<=sizeLine/\C4 xs its.toList
def C3b:Value->Option V
 | .none=>some .non
 | .bool b=>some (.bl b)
 | .int i _=>some (.int i)
 | .str x _=>some (.str x)
 | .bytes b _=>some (.byt b)
 | .float b _=>some (.flt b)
 | .ref a=>some (.ref a)
 | .type n=>some (.ty n)
 | _=>none
theorem E2.abs {x:V} {u:Value} (r:E2 x u):C3b u=some x:=by
 cases x with
 | non=>cases r;rfl
 | bl _=>cases r;rfl
 | int _=>obtain⟨t,rfl⟩:=r;rfl
 | str _=>obtain⟨t,rfl⟩:=r;rfl
 | byt _=>obtain⟨t,rfl⟩:=r;rfl
 | flt _=>obtain⟨t,rfl⟩:=r;rfl
 | ref _=>cases r;rfl
 | ty _=>cases r;rfl
theorem E2.inj {x y:V} {u:Value} (r:E2 x u) (q:E2 y u):x=y:=Option.some.inj (r.abs.symm.trans q.abs)
theorem C4.inj {xs ys:List V} {us:List Value} (h:C4 xs us) (k:C4 ys us):xs=ys:=by
 induction h generalizing ys with
 | nil=>cases k;rfl
 | cons r t ih=>
  cases k with
  | cons r' t'=>rw[r.inj r',ih t']
section
variable {X:Cx} {pins:List (Addr×Obj)} {σ:St} {H:Hp} {s:Shared} {a:Addr} {xs ys:List V}
theorem SqL.of {K:B0} (h:H a=some (.lst xs)):SqL K H a xs:=.inl (.inl h)
theorem SqT.of {K:B0} (h:H a=some (.tup xs)):SqT K H a xs:=.inl (.inl h)
theorem Inv.list (I:Inv X pins σ H s) (h:SqL X.K H a xs):∃its:List Value,C4 xs its/\PlainL s.heap a its.toArray/\xs.length<=sizeLine:=by
 rcases h with h | ⟨o,its,n,hk,hc,hd,hs,hz,r⟩
 ·obtain⟨z,its,n,r,e⟩:=h.ok I.hok
  exact⟨its,r,⟨_,n,e,rfl,rfl,rfl⟩,z⟩
 ·refine⟨its.toList,r,⟨o,n,I.kIn a o hk,hc,hd,by simpa using hs⟩,?_⟩
  have e:=r.length
  simp only[A1f] at e
  lia
theorem Inv.tuple (I:Inv X pins σ H s) (h:SqT X.K H a xs):∃its:List Value,C4 xs its/\IsTup s.heap a its.toArray/\xs.length<=sizeLine:=by
 rcases h with h | ⟨o,its,n,hk,hc,hs,hz,r⟩
 ·obtain⟨z,its,r,p⟩:=h.ok I.hok
  exact⟨its,r,p,z⟩
 ·refine⟨its.toList,r,⟨o,I.kIn a o hk,hc,n,by simpa using hs⟩,?_⟩
  have e:=r.length
  simp only[A1f] at e
  lia
theorem Inv.list_inj (I:Inv X pins σ H s) (h:SqL X.K H a xs) (h':SqL X.K H a ys):xs=ys:=by
 obtain⟨its,r,⟨o,n,e,_,_,d⟩,_⟩:=I.list h
 obtain⟨its',r',⟨o',n',e',_,_,d'⟩,_⟩:=I.list h'
 rw[e] at e';cases e'
 rw[d] at d'
 injection d' with d1 _
 have:its=its':=by simpa using congrArg Array.toList d1
 subst this
 exact r.inj r'
theorem Inv.tuple_inj (I:Inv X pins σ H s) (h:SqT X.K H a xs) (h':SqT X.K H a ys):xs=ys:=by
 obtain⟨its,r,⟨o,e,_,n,d⟩,_⟩:=I.tuple h
 obtain⟨its',r',⟨o',e',_,n',d'⟩,_⟩:=I.tuple h'
 rw[e] at e';cases e'
 rw[d] at d'
 injection d' with d1 _
 have:its=its':=by simpa using congrArg Array.toList d1
 subst this
 exact r.inj r'
end
abbrev Cx.wish (X:Cx) (E:Value->Shared->Prop):Cx:={ X with xe:=E }
abbrev Cx.nox (X:Cx):Cx:=X.wish λ_ _=>False
theorem Cx.Ok.wish {X:Cx} (ok:X.Ok) (E:Value->Shared->Prop):(X.wish E).Ok:=
 ⟨ok.mod,ok.kind,ok.glob,ok.blt,ok.above,ok.inj,ok.has,ok.cab,ok.hd,ok.frames,ok.stk,ok.exf,ok.bs,ok.bsz,ok.noex,ok.exfs,ok.funs,ok.frf⟩
theorem Cx.Ok.unwish {X:Cx} {E:Value->Shared->Prop} (ok:(X.wish E).Ok):X.Ok:=
 ⟨ok.mod,ok.kind,ok.glob,ok.blt,ok.above,ok.inj,ok.has,ok.cab,ok.hd,ok.frames,ok.stk,ok.exf,ok.bs,ok.bsz,ok.noex,ok.exfs,ok.funs,ok.frf⟩
section
variable {X:Cx} {pins:List (Addr×Obj)} {σ:St} {H:Hp} {s:Shared} {E:Value->Shared->Prop}
theorem Inv.wish (I:Inv X pins σ H s) (E:Value->Shared->Prop):Inv (X.wish E) pins σ H s:=⟨I.ok.wish E,I.os,I.bare,I.base,I.loc,I.cell,I.free,I.freeC,I.pin,I.hok,I.len⟩
theorem Inv.unwish (I:Inv (X.wish E) pins σ H s):Inv X pins σ H s:=⟨I.ok.unwish,I.os,I.bare,I.base,I.loc,I.cell,I.free,I.freeC,I.pin,I.hok,I.len⟩
theorem SP.unwish {D:Y8} {f:Flow} {s':Shared} (h:SP (X.wish E) pins D f s'):SP X pins D f s':=by
 cases f with
 | next=>obtain⟨σ',H',I,q⟩:=h;exact⟨σ',H',I.unwish,q⟩
 | brk=>obtain⟨σ',H',I,q⟩:=h;exact⟨σ',H',I.unwish,q⟩
 | cont=>obtain⟨σ',H',I,q⟩:=h;exact⟨σ',H',I.unwish,q⟩
 | ret u=>obtain⟨v,σ',H',I,r,q⟩:=h;exact⟨v,σ',H',I.unwish,r,q⟩
theorem PSs.nox {st:List Stmt} {t:TS} (h:PSs X.nox st t):PSs X st t:=λpins s σ H D I hw=>
 wpAny_mono (h pins s σ H D (I.wish _) hw) (λ_ _ q=>q.unwish) λ_ _ z=>False.elim z
end
section
variable {X:Cx} {st:Stmt} {P3:List Stmt} {t u:TS} {e:Expr} {te:TE} {pos:Pos}
def C3c:TS:=λD σ H=>D.nx σ H
def A6r (t u:TS):TS:=λD σ H=>t { D with nx:=u D } σ H
theorem G7:PSs X [] C3c:=λ_ _ σ H _ I h=>wpAny_execs_nil ⟨σ,H,I,h⟩
theorem B5 (h1:PS X st t) (h2:PSs X P3 u):PSs X (st::P3) (A6r t u):=by
 intro pins s σ H D I h
 refine wpAny_execs_cons (thn (h1 pins s σ H { D with nx:=u D } I h) λf s1 q=>?_)
 cases f with
 | next=>
  obtain⟨σ',H',I',q⟩:=q
  exact h2 pins s1 σ' H' D I' q
 | ret v=>exact q
 | brk=>exact q
 | cont=>exact q
theorem C5 (h1:PS X st t):PSs X [st] t:=by
 intro pins s σ H D I h
 refine wpAny_execs_cons (thn (h1 pins s σ H D I h) λf s1 q=>?_)
 cases f with
 | next=>exact wpAny_execs_nil q
 | ret v=>exact q
 | brk=>exact q
 | cont=>exact q
theorem Inv.quiet {pins:List (Addr×Obj)} {σ:St} {H:Hp} {s:Shared} (I:Inv X pins σ H s):interactive X.env=false:=by simp [interactive,I.ok.kind]
def B1d (te:TE):TS:=λD σ H=>te σ H λ_ H1=>D.nx σ H1
theorem P8 (he:PE X e te) (hs:autoParam (swapsWith e none pos.line X.env=pure false) RF._auto_1):PS X (.Expr e pos) (B1d te):=by
 intro pins s σ H D I h
 exact wpAny_Expr_any (thn (he pins s σ H _ I h) λv s1 zz20=>el5 zz20 λx H1 I1 r1 q1=>⟨σ,H1,I1,q1⟩) I.quiet hs
def C3d (te:TE):TS:=λD σ H=>te σ H D.rt
theorem F2 (he:PE X e te):PS X (.Return (some e) pos) (C3d te):=by
 intro pins s σ H D I h
 exact wpAny_Return_some (thn (he pins s σ H _ I h) λv s1 zz21=>el5 zz21 λx H1 I1 r1 q1=>⟨x,σ,H1,I1,r1,q1⟩)
def B6b (c:TT) (t u:TS):TS:=λD σ H=>c σ H λb H1=>if b=true then t D σ H1 else u D σ H1
theorem G4 {c:Expr} {a b:List Stmt} {tc:TT} (hc:PT X c tc) (ha:PSs X a t) (hb:PSs X b u):PS X (.If c a b pos) (B6b tc t u):=by
 intro pins s σ H D I h
 refine wpAny_If (thn (hc pins s σ H _ I h) λd s1 zz22=>el2 zz22 λH1 I1 q1=>?_)
 cases d with
 | true=>exact ha pins s1 σ H1 D I1 q1
 | false=>exact hb pins s1 σ H1 D I1 q1
end
abbrev TG:=V->St->Hp->(St->Hp->Prop)->Prop
abbrev TGs:=List V->St->Hp->(St->Hp->Prop)->Prop
def PG (X:Cx) (target:Expr) (t:TG):Prop:=
 ∀(pins:List (Addr×Obj)) (s:Shared) (σ:St) (H:Hp) (v:V) (u:Value) (Q:St->Hp->Prop),Inv X pins σ H s->E2 v u->t v σ H Q->
  wpAny (model X.prog X.w) X.A (assign target X.env u) (λ_ s'=>∃σ' H',Inv X pins σ' H' s'/\Q σ' H') X.xe s
def PGs (X:Cx) (ts:List Expr) (t:TGs):Prop:=
 ∀(pins:List (Addr×Obj)) (s:Shared) (σ:St) (H:Hp) (vs:List V) (us:List Value) (Q:St->Hp->Prop),Inv X pins σ H s->C4 vs us->t vs σ H Q->
  wpAny (model X.prog X.w) X.A (assignInOrder ((assignEach ts X.env).map (·.2)) us) (λ_ s'=>∃σ' H',Inv X pins σ' H' s'/\Q σ' H') X.xe s
abbrev A6s:=V->V->V->Hp->(Hp->Prop)->Prop
def B1e (X:Cx) (t:A6s):Prop:=
 ∀(pins:List (Addr×Obj)) (s:Shared) (σ:St) (H:Hp) (o i v:V) (ov iv u:Value) (Q:Hp->Prop),Inv X pins σ H s->E2 o ov->E2 i iv->E2 v u->t o i v H Q->
  wpAny (model X.prog X.w) X.A (setItem ov iv u) (λ_ s'=>∃H',Inv X pins σ H' s'/\Q H') X.xe s
abbrev TIp:=V->V->Hp->VK->Prop
def PIp (X:Cx) (op:Operator) (t:TIp):Prop:=
 ∀(pins:List (Addr×Obj)) (s:Shared) (σ:St) (H:Hp) (x y:V) (v u:Value) (Q:VK),Inv X pins σ H s->E2 x v->E2 y u->t x y H Q->
  wpAny (model X.prog X.w) X.A (inplaceOp op v u) (EP X pins σ Q) X.xe s
section
variable {X:Cx} {pos:Pos}
def l6 (i:Nat):TG:=λv σ H Q=>Q (σ.set i (some v)) H
theorem P9 {i:Nat} {x:Str} (hN:X.N.Nodup) (hi:X.N[i]?=some x) (hx:Loc X.env.scope x) (hf:autoParam (X.fn x=true\/X.env.scope.names.lookup x=some .local) A0P._auto_1):PG X (.Name x pos) (l6 i):=by
 intro pins s σ H v u Q I r h
 exact wpAny_assign_Name (B08 I hN hi hx r (λs' I'=>⟨_,H,I',h⟩) hf)
def B6c:TGs:=λvs σ H Q=>vs=[]/\Q σ H
def B1f (t:TG) (u:TGs):TGs:=λvs σ H Q=>∃v r,vs=v::r/\t v σ H fun σ' H'=>u r σ' H' Q
theorem A6t:PGs X [] B6c:=by
 intro pins s σ H vs us Q I r h
 obtain⟨e,h⟩:=h
 subst e
 cases r
 exact assignInOrder_nil ⟨σ,H,I,h⟩
theorem w6 {e:Expr} {es:List Expr} {t:TG} {u:TGs} (h1:PG X e t) (h2:PGs X es u)
  (hs:autoParam ((assignEach (e::es) X.env).map (·.2)=assign e X.env::(assignEach es X.env).map (·.2)) RF._auto_1):PGs X (e::es) (B1f t u):=by
 intro pins s σ H vs us Q I r h
 obtain⟨v,vr,e1,h⟩:=h
 subst e1
 cases r with
 | cons r rr=>
  rw[hs]
  refine assignInOrder_cons (thn (h1 pins s σ H _ _ _ I r h) λ_ s1 zz23=>zz23.elim fun σ1 zz24=>zz24.elim λH1 zz25=>zz25.elim λI1 q1=>?_)
  exact h2 pins s1 σ1 H1 _ _ Q I1 rr q1
def B6d (K:B0) (n:Nat) (t:TGs):TG:=λv σ H Q=>∃a xs,v=.ref a/\SqT K H a xs/\xs.length=n/\t xs σ H Q
theorem A6u {es:List Expr} {k:Nat} {t:TGs} {n:Nat} (hc:X.calm=true) (h:PGs X es t)
  (hn:autoParam ((assignEach es X.env).length=n) RF._auto_1) (hst:autoParam ((assignEach es X.env).findIdx? (·.1)=none) RF._auto_1):PG X (.Tuple es k pos) (B6d X.K n t):=by
 intro pins s σ H v u Q I r hw
 obtain⟨a,xs,e1,hq,hl,hw⟩:=hw
 subst e1
 cases r
 obtain⟨its,rv,ht,hz⟩:=I.tuple hq
 refine assign_Tuple_tuple (I.ok.hd hc) ht (by simp [hn,<-hl,rv.length]) hst λh' hx=>?_
 have I1:Inv X pins σ H { s with heap:=h' }:=I.kept (t':=s.toks) λb o e=>hx b o (O4 (G8 e)) e
 exact h pins _ σ H xs _ Q I1 (by simpa using rv) hw
def B6e (to ti:TE) (t:A6s):TG:=λv σ H Q=>to σ H λo H1=>ti σ H1 λi H2=>t o i v H2 λH3=>Q σ H3
theorem W4 {o i:Expr} {to ti:TE} {t:A6s} (ho:PE X o to) (hi:PE X i ti) (hs:B1e X t)
  (ha:∀v,assign (.Subscript o i pos) X.env v=(do
   let ov <-holding [v] (eval o X.env)
   let iv <-holding [v,ov] (eval i X.env)
   standAt pos
   holding [v,ov,iv] (setItem ov iv v)
   release [v,ov,iv] []):=by intro _;rfl):PG X (.Subscript o i pos) (B6e to ti t):=by
 intro pins s σ H v u Q I r h
 rw[ha]
 refine wpAny_bind (wpAny_holding (thn (ho pins s σ H _ I h) λov s1 zz26=>el5 zz26 λx H1 I1 r1 q1=>?_))
 refine wpAny_bind (wpAny_holding (thn (hi pins s1 σ H1 _ I1 q1) λiv s2 zz27=>el5 zz27 λy H2 I2 r2 q2=>?_))
 refine wpAny_bind (wpAny_standAt (wpAny_bind (wpAny_holding (thn (hs pins s2 σ H2 x y v ov iv u _ I2 r1 r2 r q2) λ_ s3 zz28=>el2 zz28 λH3 I3 q3=>?_))))
 exact wpAny_release ⟨σ,H3,I3,q3⟩
def A6v (te:TE) (g:TG):TS:=λD σ H=>te σ H λx H1=>g x σ H1 D.nx
theorem T0 {tg e:Expr} {te:TE} {g:TG} (he:PE X e te) (hg:PG X tg g) (hs:autoParam (swapsWithSole [tg] e pos.line X.env=pure false) RF._auto_1) (hw:autoParam (swappedStores [tg] e X.env=pure none) RF._auto_1)
  (h1:autoParam ((assignEach [tg] X.env).map (·.2)=[assign tg X.env]) RF._auto_1):PS X (.Assign [tg] e pos) (A6v te g):=by
 intro pins s σ H D I h
 refine wpAny_Assign_stores (thn (he pins s σ H _ I h) λv s1 zz29=>el5 zz29 λx H1 I1 r1 q1=>?_) hs hw
 rw[h1]
 exact thn (hg pins s1 σ H1 x v _ I1 r1 q1) λ_ s2 q=>q
theorem C2 {i:Nat} {x:Str} {e:Expr} {te:TE} {pos':Pos} (hN:X.N.Nodup) (hi:X.N[i]?=some x) (hx:Loc X.env.scope x) (he:PE X e te) (hs:autoParam (swapsWith e (some (.Name x pos')) pos.line X.env=pure false) RF._auto_1) (hf:autoParam (X.fn x=true\/X.env.scope.names.lookup x=some .local) A0P._auto_1) :
  PS X (.Assign [.Name x pos'] e pos) (A6v te (l6 i)):=by
 intro pins s σ H D I h
 refine wpAny_Assign_Name (thn (he pins s σ H _ I h) λv s1 zz30=>el5 zz30 λy H1 I1 r1 q1=>?_) hs
 exact B08 I1 hN hi hx r1 (λs2 I2=>⟨_,H1,I2,q1⟩) hf
def C3e (to ti te:TE) (tget:V->V->Hp->VK->Prop) (tip:TIp) (tset:A6s):TS:=λD σ H=>to σ H λo H1=>ti σ H1 λi H2=>tget o i H2 λx H3=>te σ H3 λy H4=>tip x y H4 λz H5=>tset o i z H5 λH6=>D.nx σ H6
def B6f (X:Cx) (t:V->V->Hp->VK->Prop):Prop:=
 ∀(pins:List (Addr×Obj)) (s:Shared) (σ:St) (H:Hp) (o i:V) (ov iv:Value) (Q:VK),Inv X pins σ H s->E2 o ov->E2 i iv->t o i H Q->
  wpAny (model X.prog X.w) X.A (getItem ov iv) (EP X pins σ Q) X.xe s
theorem B6g {o i e:Expr} {to ti te:TE} {tget:V->V->Hp->VK->Prop} {tip:TIp} {tset:A6s} {op:Operator} {tpos:Pos} (ho:PE X o to) (hi:PE X i ti) (hg:B6f X tget) (he:PE X e te) (hp:PIp X op tip) (hs:B1e X tset)
  (ha:∀ov iv new,augStore i ov iv new=(do holding [new,ov,iv] (setItem ov iv new);release [new,ov,iv] [];pure .next):=by intros;rfl):PS X (.AugAssign (.Subscript o i tpos) op e pos) (C3e to ti te tget tip tset):=by
 intro pins s σ H D I h
 refine wpAny_AugAssign_SubscriptAny (thn (ho pins s σ H _ I h) λov s1 zz34=>el5 zz34 λx1 H1 I1 r1 q1=>?_) ha
 refine thn (hi pins s1 σ H1 _ I1 q1) λiv s2 zz35=>el5 zz35 λx2 H2 I2 r2 q2=>?_
 refine thn (hg pins s2 σ H2 x1 x2 ov iv _ I2 r1 r2 q2) λold s3 zz36=>el5 zz36 λx3 H3 I3 r3 q3=>?_
 refine thn (he pins s3 σ H3 _ I3 q3) λv s4 zz37=>el5 zz37 λx4 H4 I4 r4 q4=>?_
 refine thn (hp pins s4 σ H4 x3 x4 old v _ I4 r3 r4 q4) λnew s5 zz38=>el5 zz38 λx5 H5 I5 r5 q5=>?_
 exact thn (hs pins s5 σ H5 x1 x2 x5 ov iv new _ I5 r1 r2 r5 q5) λ_ s6 zz39=>el2 zz39 λH6 I6 q6=>⟨σ,H6,I6,q6⟩
def ipI (f:Int->Int->Int):TIp:=λx y H Q=>∃i j,x=.int i/\y=.int j/\Q (.int (f i j)) H
theorem C3f:PIp X .Add (ipI λi j=>i + j):=by
 intro pins s σ H x y v u Q I r1 r2 h
 obtain⟨i,j,e1,e2,q⟩:=h
 subst e1;subst e2
 obtain⟨t,rfl⟩:=r1
 obtain⟨t',rfl⟩:=r2
 exact iadd_int ⟨.int _,H,I.tok _,⟨_,rfl⟩,q⟩
theorem C3g:PIp X .Sub (ipI λi j=>i - j):=by
 intro pins s σ H x y v u Q I r1 r2 h
 obtain⟨i,j,e1,e2,q⟩:=h
 subst e1;subst e2
 obtain⟨t,rfl⟩:=r1
 obtain⟨t',rfl⟩:=r2
 exact isub_int ⟨.int _,H,I.tok _,⟨_,rfl⟩,q⟩
def B1g (c:TT) (tb:TS):TS:=λD σ H=>∃W:Nat->St->Hp->Prop,(∃m,W m σ H)/\∀m σ H,W m σ H->
 c σ H λb H1=>if b=true then ∃N:St->Hp->Prop,(∀σ' H',N σ' H'->∃m',m' < m/\W m' σ' H')/\tb { D with nx:=N,ct:=N,bk:=D.nx } σ H1 else D.nx σ H1
theorem A4s {c:Expr} {body:List Stmt} {tc:TT} {tb:TS} (hp:PassesOwn (model X.prog X.w) X.A X.env X.xe) (hc:PT X c tc) (hb:PSs X body tb):PS X (.While c body [] pos) (B1g tc tb):=by
 intro pins s σ H D I h
 obtain⟨W,⟨m0,w0⟩,turn⟩:=h
 refine wpAny_While (codeAny_whileLoop (λn s'=>∃σ' H',Inv X pins σ' H' s'/\W n σ' H') ?_ m0 ⟨σ,H,I,w0⟩)
 rintro n s1 ⟨σ1,H1,I1,w1⟩
 refine wpAny_passesOwn hp (thn (hc pins s1 σ1 H1 _ I1 (turn n σ1 H1 w1)) λb s2 zz40=>el2 zz40 λH2 I2 q2=>?_)
 cases b with
 | true=>
  obtain⟨N,hN,q2⟩:=q2
  rw[if_pos rfl]
  refine wpAny_passesOwn hp (thn (hb pins s2 σ1 H2 _ I2 q2) λf s3 q3=>?_)
  cases f with
  | next=>
   obtain⟨σ3,H3,I3,n3⟩:=q3
   obtain⟨m',hm,w3⟩:=hN σ3 H3 n3
   exact⟨m',hm,σ3,H3,I3,w3⟩
  | cont=>
   obtain⟨σ3,H3,I3,n3⟩:=q3
   obtain⟨m',hm,w3⟩:=hN σ3 H3 n3
   exact⟨m',hm,σ3,H3,I3,w3⟩
  | brk=>exact q3
  | ret v=>exact q3
 | false=>
  rw[if_neg Q8]
  exact wpAny_execs_nil ⟨σ1,H2,I2,q2⟩
end
structure It where
 go:Nat->Hp->Prop
 yld:Nat->Hp->V->Hp->Prop
 stop:Nat->Hp->Prop
def i7 (X:Cx) (pins:List (Addr×Obj)) (H:Hp) (b:Addr):Prop:=
 H b=none/\b≠X.env.locals/\b∉X.fs/\(b∈X.ex\/X.s₀.heap.objs.size<=b)/\(∀x c,X.env.cells.lookup x=some c->c≠b)/\∀p∈X.pn++pins,p.1≠b
theorem Inv.fpOk {X:Cx} {pins:List (Addr×Obj)} {σ:St} {H H':Hp} {s:Shared} {b:Addr} (I:Inv X pins σ H s) (hb:s.heap.objs.size<=b) (hn:H' b=none):i7 X pins H' b:=by
 refine⟨hn,A4i (V7 I.lt hb),I.nofs hb,.inr (T8 I.sz hb),λx c e z=>?_,λp hp z=>?_⟩
 ·obtain⟨v,q⟩:=I.cell x c e
  exact absurd (V7 q.lt (by rw[z];exact hb)) (g7 _)
 ·exact absurd (V7 (G8 (I.pin p hp).1) (by rw[z];exact hb)) (g7 _)
structure A2k (P:Program) (w:World) (K:B0) (tg:Expr) (J:It) (fp:List Addr) (it:Addr) (tn:Nat->Heap->Prop):Prop where
 mem:it∈fp
 obj:∀i h,tn i h->∀b∈fp,∃o,h.get? b=some o/\∀v,o.data≠.cell v
 keep:∀i h h',tn i h->(∀b∈fp,∀o,h.get? b=some o->h'.get? b=some o)->tn i h'
 item:∀(X:Cx),X.prog=P->X.w=w->X.K=K->X.calm=true->∀(i:Nat) (pins:List (Addr×Obj)) (s:Shared) (σ:St) (H:Hp) (E:Value->Shared->Prop),Inv X pins σ H s->(∀b∈fp,i7 X pins H b)->tn i s.heap->J.go i H->
  wpAny (model P w) X.A (pyNext (.ref it)) (λr s1=>∃u,r=some u/\
   wpAny (model P w) X.A (letOwnedTupleGo tg (.ref it) u) (λ_ s2=>∃x H',Inv X pins σ H' s2/\E2 x u/\J.yld i H x H'/\tn (i + 1) s2.heap/\∀b∈fp,H' b=none) E s1) E s
 done:∀(X:Cx),X.prog=P->X.w=w->X.K=K->X.calm=true->∀(i:Nat) (pins:List (Addr×Obj)) (s:Shared) (σ:St) (H:Hp) (E:Value->Shared->Prop),Inv X pins σ H s->(∀b∈fp,i7 X pins H b)->tn i s.heap->J.stop i H->
  wpAny (model P w) X.A (pyNext (.ref it)) (λr s1=>r=none/\Inv X pins σ H s1) E s
 self:∀(A:Around) (i:Nat) (s:Shared) (Q:Value->Shared->Prop) (E:Value->Shared->Prop),tn i s.heap->Q (.ref it) s->wpAny (model P w) A (pyIter (.ref it)) Q E s
abbrev TI:=St->Hp->(It->Hp->Prop)->Prop
def PIE (X:Cx) (pins:List (Addr×Obj)) (σ:St) (tg:Expr) (R:It->Hp->Prop) (itv:Value) (s2:Shared):Prop:=
 ∃(it:Addr) (fp:List Addr) (tn:Nat->Heap->Prop) (J:It) (H':Hp),itv=.ref it/\Inv X pins σ H' s2/\A2k X.prog X.w X.K tg J fp it tn/\tn 0 s2.heap/\(∀b∈fp,i7 X pins H' b)/\R J H'
def PI (X:Cx) (tg iter:Expr) (wi:TI):Prop:=
 ∀(pins:List (Addr×Obj)) (s:Shared) (σ:St) (H:Hp) (R:It->Hp->Prop),Inv X pins σ H s->wi σ H R->
  wpAny (model X.prog X.w) X.A (eval iter X.env) (λv s1=>wpAny (model X.prog X.w) X.A (pyIter v) (PIE X pins σ tg R) X.xe s1) X.xe s
theorem A8l {M:Model} {A:Around} {E:Value->Shared->Prop} {s:Shared} {tg:Expr} {it:Addr} {u:Value} {o:Obj} {n:String} {vs:Array Value} {Q:Unit->Shared->Prop} (ho:s.heap.get? it=some o) (hc:o.cls=.type n) (hd:o.data=.fields vs)
  (hn:["enumerate", "zip", "dict_itemiterator", "dict_reverseitemiterator", "odict_iterator", "itertools.zip_longest", "itertools.pairwise"].contains n=false) (hQ:Q () s):wpAny M A (letOwnedTupleGo tg (.ref it) u) Q E s:=by
 unfold letOwnedTupleGo
 cases tg <;> first
  | exact wpAny_pure hQ
  | (cases u <;> first
    | exact wpAny_pure hQ
    | (refine wpAny_bind (wpAny_load ho ?_)
       rw[hc,hd]
       show wpAny M A (if (["enumerate", "zip", "dict_itemiterator", "dict_reverseitemiterator", "odict_iterator", "itertools.zip_longest", "itertools.pairwise"].contains n&&vs[0]? == some (rawInt _))=true then _ else _) Q E s
       rw[if_neg (by intro h;rw[hn,Bool.false_and] at h;cases h)]
       exact wpAny_pure hQ))
def Itl (K:B0) (a:Addr):It:=
 ⟨λi H=>∃xs x,SqL K H a xs/\xs[i]?=some x,λi H x H'=>H'=H/\∀xs,SqL K H a xs->xs[i]?=some x,λi H=>∃xs,SqL K H a xs/\xs.length<=i⟩
def Itt (K:B0) (a:Addr):It:=
 ⟨λi H=>∃xs x,SqT K H a xs/\xs[i]?=some x,λi H x H'=>H'=H/\∀xs,SqT K H a xs->xs[i]?=some x,λi H=>∃xs,SqT K H a xs/\xs.length<=i⟩
def Itr (lo:Int) (n:Nat):It:=⟨λi _=>i < n,λi H x H'=>H'=H/\x=.int (lo + i),λi _=>n<=i⟩
theorem B6h {P:Program} {w:World} {K:B0} {tg:Expr} (a it:Addr):A2k P w K tg (Itl K a) [it] it (λi h=>h.IsListIter it a i) where
 mem:=by simp
 obj:=λi h st b hb=>by
  have e:b=it:=by simpa using hb
  subst e
  obtain⟨o,e,c,d⟩:=st
  exact⟨o,e,λv z=>by rw[d] at z;cases z⟩
 keep:=λi h h' st k=>st.at λo e=>k it (by simp) o e
 item:=by
  intro X hP hw hK hc i pins s σ H E I hf st hg
  subst hP hw hK
  obtain⟨xs,x,hq,hx⟩:=hg
  obtain⟨its,rv,p,hz⟩:=I.list hq
  obtain⟨u,hu,ru⟩:=rv.get hx
  obtain⟨f0,f1,f2,f3,f4,f5⟩:=hf it (by simp)
  refine wpAny_pyNext_list_item st p.isList (x:=u) (by simpa using hu) λh' st' sb=>?_
  have I1:Inv X pins σ H { s with heap:=h' }:=I.turned (t':=s.toks) (λb o hb e=>(sb.2 b hb).trans e) f0 f1 f3 f4 f5
  obtain⟨o,e,c,d⟩:=id st'
  exact⟨u,rfl,A8l (s:={ s with heap:=h' }) e c d DD ⟨x,H,I1,ru,⟨rfl,λys hy=>by rw[I.list_inj hy hq];exact hx⟩,st',λb hb=>(hf b hb).1⟩⟩
 done:=by
  intro X hP hw hK hc i pins s σ H E I hf st hg
  subst hP hw hK
  obtain⟨xs,hq,hx⟩:=hg
  obtain⟨its,rv,p,hz⟩:=I.list hq
  obtain⟨f0,f1,f2,f3,f4,f5⟩:=hf it (by simp)
  have hl:=rv.length
  exact wpAny_pyNext_list_end (I.ok.hd hc) st p.isList (by simp;lia) λh' eb=>⟨rfl,I.turned (t':=s.toks) (λb o hb e=>eb b o hb e) f0 f1 f3 f4 f5⟩
 self:=λ_ _ _ _ _ st h=>wpAny_pyIter_listiter st h
theorem C3h {P:Program} {w:World} {K:B0} {tg:Expr} (a it:Addr):A2k P w K tg (Itt K a) [it] it (λi h=>h.IsTupleIter it a i) where
 mem:=by simp
 obj:=λi h st b hb=>by
  have e:b=it:=by simpa using hb
  subst e
  obtain⟨o,e,c,d⟩:=st
  exact⟨o,e,λv z=>by rw[d] at z;cases z⟩
 keep:=λi h h' st k=>st.at λo e=>k it (by simp) o e
 item:=by
  intro X hP hw hK hc i pins s σ H E I hf st hg
  subst hP hw hK
  obtain⟨xs,x,hq,hx⟩:=hg
  obtain⟨its,rv,p,hz⟩:=I.tuple hq
  obtain⟨u,hu,ru⟩:=rv.get hx
  obtain⟨f0,f1,f2,f3,f4,f5⟩:=hf it (by simp)
  refine wpAny_pyNext_tuple_item st (show s.heap.IsTuple a its.toArray from p) (x:=u) (by simpa using hu) λh' st' sb=>?_
  have I1:Inv X pins σ H { s with heap:=h' }:=I.turned (t':=s.toks) (λb o hb e=>(sb.2 b hb).trans e) f0 f1 f3 f4 f5
  obtain⟨o,e,c,d⟩:=id st'
  exact⟨u,rfl,A8l (s:={ s with heap:=h' }) e c d DD ⟨x,H,I1,ru,⟨rfl,λys hy=>by rw[I.tuple_inj hy hq];exact hx⟩,st',λb hb=>(hf b hb).1⟩⟩
 done:=by
  intro X hP hw hK hc i pins s σ H E I hf st hg
  subst hP hw hK
  obtain⟨xs,hq,hx⟩:=hg
  obtain⟨its,rv,p,hz⟩:=I.tuple hq
  obtain⟨f0,f1,f2,f3,f4,f5⟩:=hf it (by simp)
  have hl:=rv.length
  exact wpAny_pyNext_tuple_end (I.ok.hd hc) st (show s.heap.IsTuple a its.toArray from p) (by simp;lia) λh' eb=>⟨rfl,I.turned (t':=s.toks) (λb o hb e=>eb b o hb e) f0 f1 f3 f4 f5⟩
 self:=λ_ _ _ _ _ st h=>wpAny_pyIter_tupleiter st h
theorem C3i {P:Program} {w:World} {K:B0} {tg:Expr} (it:Addr) (lo:Int) (n:Nat):A2k P w K tg (Itr lo n) [it] it (λi h=>IsRangeIter h it (lo + (i:Nat) * 1) ((n:Int) - (i:Nat)) 1) where
 mem:=by simp
 obj:=λi h st b hb=>by
  have e:b=it:=by simpa using hb
  subst e
  exact⟨_,st,λv z=>by
   have z':Data.fields _=Data.cell v:=z
   cases z'⟩
 keep:=λi h h' st k=>k it (by simp) _ st
 item:=by
  intro X hP hw hK hc i pins s σ H E I hf st hg
  subst hP hw hK
  obtain⟨f0,f1,f2,f3,f4,f5⟩:=hf it (by simp)
  have W:=Walks.range (prog:=X.prog) (w:=X.w) (I.ok.hd hc) it lo 1 n
  refine W.item i s _ _ hg st λv h' tk hv st' kk=>?_
  obtain⟨t,rfl⟩:=hv
  have I1:Inv X pins σ H { s with heap:=h',toks:=tk }:=I.turned (λb o hb e=>kk b o (by simpa using hb) e) f0 f1 f3 f4 f5
  refine⟨_,rfl,A8l (s:={ s with heap:=h',toks:=tk }) (n:= "range_iterator") st' rfl rfl DD ⟨.int (lo + i),H,I1,⟨t,?_⟩,⟨rfl,rfl⟩,st',λb hb=>(hf b hb).1⟩⟩
  rw[Int.mul_one]
 done:=by
  intro X hP hw hK hc i pins s σ H E I hf st hg
  subst hP hw hK
  obtain⟨f0,f1,f2,f3,f4,f5⟩:=hf it (by simp)
  exact wpAny_pyNext_range_end (I.ok.hd hc) st (by have:n<=i:=hg;lia) λh' eb=>⟨rfl,I.turned (t':=s.toks) (λb o hb e=>eb b o hb e) f0 f1 f3 f4 f5⟩
 self:=λ_ _ _ _ _ st h=>wpAny_pyIter_rangeiter st h
section
variable {X:Cx} {tg:Expr}
def C3j (K:B0) (tl:TE):TI:=fun σ H R=>tl σ H λx H1=>∃a,x=.ref a/\(∃xs,SqL K H1 a xs)/\R (Itl K a) H1
theorem Z0 {l:Expr} {tl:TE} (hl:PE X l tl):PI X tg l (C3j X.K tl):=by
 intro pins s σ H R I h
 refine thn (hl pins s σ H _ I h) λv s1 zz41=>el5 zz41 λx H1 I1 r1 q1=>?_
 obtain⟨a,e,⟨xs,hq⟩,q⟩:=q1
 subst e
 cases r1
 obtain⟨its,rv,p,hz⟩:=I1.list hq
 refine wpAny_pyIter_list p.isList ?_
 refine⟨s1.heap.objs.size,[s1.heap.objs.size],_,_,H1,rfl,I1.kept (t':=s1.toks) λb o e=>K2 _ e,B6h a _,⟨_,O5 _ rfl,rfl,rfl⟩,λb hb=>?_,q⟩
 have e:b=s1.heap.objs.size:=by simpa using hb
 subst e
 exact I1.fpOk (E1 _) (I1.hok.fresh (E1 _))
theorem C3k {pins:List (Addr×Obj)} {σ:St} {H:Hp} {s:Shared} {R:It->Hp->Prop} {E:Value->Shared->Prop} {lo hi:Int} {t u v:Tok} {tk:Nat} (I:Inv X pins σ H s) (h1:-(2 ^ 62)<=lo) (h2:lo < 2 ^ 62) (h3:-(2 ^ 62)<=hi) (h4:hi < 2 ^ 62)
  (q:R (Itr lo (hi - lo).toNat) H):wpAny (model X.prog X.w) X.A (pyIter (.ref s.heap.objs.size)) (PIE X pins σ tg R) E { s with heap:=s.heap.push { cls:=.type "range",data:=.fields #[.int lo t,.int hi u,.int 1 v] },toks:=tk }:=by
 refine wpAny_pyIter_range (IsRange.new ..) (small_one h1 h2 h3 h4) ?_
 have I1:Inv X pins σ H { s with heap:=s.heap.push { cls:=.type "range",data:=.fields #[.int lo t,.int hi u,.int 1 v] },toks:=tk }:=I.kept λb o e=>K2 _ e
 refine⟨(s.heap.push { cls:=.type "range",data:=.fields #[.int lo t,.int hi u,.int 1 v] }).objs.size,[(s.heap.push { cls:=.type "range",data:=.fields #[.int lo t,.int hi u,.int 1 v] }).objs.size],_,_,H,rfl,
  I1.kept (t':=tk) λb o e=>K2 _ e,C3i _ lo (hi - lo).toNat,?_,λb hb=>?_,q⟩
 ·have e1:lo + ((0:Nat):Int) * 1=lo:=by simp
  have e2:(((hi - lo).toNat:Nat):Int) - ((0:Nat):Int)=Builtin.Range.rangeSize lo hi 1:=by rw[rangeSize_one];split <;> lia
  show IsRangeIter _ _ (lo + ((0:Nat):Int) * 1) ((((hi - lo).toNat:Nat):Int) - ((0:Nat):Int)) 1
  rw[e1,e2]
  exact O5 _ rfl
 ·have e:b=(s.heap.push { cls:=.type "range",data:=.fields #[.int lo t,.int hi u,.int 1 v] }).objs.size:=by simpa using hb
  subst e
  exact I1.fpOk (E1 _) (I1.hok.fresh (E1 _))
def B6i (ta:TA):TI:=fun σ H R=>ta σ H λvs H1=>∃j:Int,vs=[.int j]/\-(2 ^ 62)<=j/\j < 2 ^ 62/\R (Itr 0 j.toNat) H1
theorem y7 {a:Expr} {ta:TA} {p pos:Pos} (hg:Gl X "range") (hm:X.mg "range" = none) (ha:PA X [a] ta) (hs:autoParam (starEach [a] X.env=[(false,eval a X.env)]) RF._auto_1):PI X tg (.Call (.Name "range" p) [a] [] pos) (B6i ta):=by
 intro pins s σ H R I h
 refine Call_ (A0y I hg hm boot_range (PyProof.Rows.callWith_type1 (thn (ha pos pins s σ H _ I h) λus s1 zz43=>el5 zz43 λvs H1 I1 r1 q1=>?_) hs rfl))
 obtain⟨j,e,q1,q2,q⟩:=q1
 subst e
 cases r1 with
 | cons r rr=>
  cases rr
  obtain⟨t,rfl⟩:=r
  exact call_range_1 (C3k I1 (by lia) (by lia) q1 q2 (by simpa using q))
def B6j (wi:TI) (g:TG) (tb:TS):TS:=λD σ H=>wi σ H λJ H1=>∃W:Nat->Nat->St->Hp->Prop,(∃m,W 0 m σ H1)/\∀i m σ H,W i m σ H->
 (J.stop i H/\D.nx σ H)\/(J.go i H/\∃N:St->Hp->Prop,(∀σ' H',N σ' H'->∃m',m' < m/\W (i + 1) m' σ' H')/\∀x H',J.yld i H x H'->g x σ H' fun σ2 H2=>tb { D with nx:=N,ct:=N,bk:=D.nx } σ2 H2)
def A6w (fp:List Addr) (h:Heap):List (Addr×Obj):=fp.filterMap λb=>(h.get? b).map λo=>(b,o)
theorem A8m {fp:List Addr} {h:Heap} {b:Addr} {o:Obj} (hb:b∈fp) (e:h.get? b=some o):(b,o)∈A6w fp h:=B5q.mpr ⟨b,hb,by rw[e];rfl⟩
theorem C3l {fp:List Addr} {h:Heap} {p:Addr×Obj} (hp:p∈A6w fp h):p.1∈fp/\h.get? p.1=some p.2:=by
 obtain⟨b,hb,e⟩:=B5q.mp hp
 cases q:h.get? b with
 | none=>rw[q] at e;cases e
 | some o=>
  rw[q] at e
  have e':(b,o)=p:=Option.some.inj e
  subst e'
  exact⟨hb,q⟩
theorem Inv.pinned {pins:List (Addr×Obj)} {σ:St} {H:Hp} {s:Shared} {fp:List Addr} (I:Inv X pins σ H s) (hf:∀b∈fp,i7 X pins H b) (ho:∀b∈fp,∃o,s.heap.get? b=some o/\∀v,o.data≠.cell v):Inv X (pins++A6w fp s.heap) σ H s:=
 I.pins_of λp hp=>(V8.mp hp).elim (λz=>I.pin p (A0p _ z)) λz=>by
  obtain⟨hb,e⟩:=C3l z
  obtain⟨f0,f1,f2,_⟩:=hf p.1 hb
  obtain⟨o,e',d⟩:=ho p.1 hb
  rw[e] at e';cases e'
  exact⟨e,f0,f1,f2,d⟩
theorem Inv.unpinned {pins pl:List (Addr×Obj)} {σ:St} {H:Hp} {s:Shared} (I:Inv X (pins++pl) σ H s):Inv X pins σ H s:=I.pins_of λp hp=>I.pin p (A0p _ (C2d _ hp))
theorem X5 {iter:Expr} {body:List Stmt} {wi:TI} {g:TG} {tb:TS} {pos:Pos} (hp:PassesOwn (model X.prog X.w) X.A X.env X.xe) (hc:X.calm=true) (hi:PI X tg iter wi) (hg:PG X tg g) (hb:PSs X body tb)
  (hs:autoParam (∀x,foldedSetIterable iter X.env x=pure x) A2P._auto_1):PS X (.For tg iter body [] pos) (B6j wi g tb):=by
 intro pins s σ H D I h
 refine wpAny_For (thn (hi pins s σ H _ I h) λv s1 h1=>thn h1 λitv s2 h2=>?_) hs
 obtain⟨it,fp,tn,J,H2,e,I2,T,st2,f2,W,⟨m0,w0⟩,turn⟩:=h2
 subst e
 have stat:∀{H':Hp},(∀b∈fp,H' b=none)->∀b∈fp,i7 X pins H' b:=λhn b hb=>⟨hn b hb,(f2 b hb).2⟩
 refine codeAny_forLoop_any (λn s'=>∃i σ' H',Inv X pins σ' H' s'/\tn i s'.heap/\(∀b∈fp,H' b=none)/\W i n σ' H') ?_ m0 ⟨0,σ,H2,I2,st2,λb hb=>(f2 b hb).1,w0⟩
 rintro n s3 ⟨i,σ3,H3,I3,st3,fr3,w3⟩
 rcases turn i n σ3 H3 w3 with ⟨stop,qn⟩ | ⟨go,N,hN,step⟩
 ·refine wpAny_passesOwn hp (thn (T.done X rfl rfl rfl hc i pins s3 σ3 H3 X.xe I3 (stat fr3) st3 stop) λr s4 zz45=>zz45.elim λhr I4=>?_)
  subst hr
  exact wpAny_execs_nil ⟨σ3,H3,I4,qn⟩
 ·refine wpAny_passesOwn hp (thn (T.item X rfl rfl rfl hc i pins s3 σ3 H3 X.xe I3 (stat fr3) st3 go) λr s4 zz46=>el2 zz46 λu hr h4=>?_)
  subst hr
  refine wpAny_passesOwn hp (thn h4 λ_ s5 zz47=>zz47.elim λx zz48=>zz48.elim λH5 zz49=>zz49.elim λI5 zz50=>zz50.elim λr5 zz51=>zz51.elim λy5 zz52=>zz52.elim λst5 fr5=>?_)
  have I5':=I5.pinned (stat fr5) (T.obj _ _ st5)
  refine wpAny_passesOwn hp (thn (hg _ s5 σ3 H5 x u _ I5' r5 (step x H5 y5)) λ_ s6 zz53=>zz53.elim fun σ6 zz54=>zz54.elim λH6 zz55=>zz55.elim λI6 q6=>?_)
  refine wpAny_passesOwn hp (thn (hb _ s6 σ6 H6 _ I6 q6) λf s7 q7=>?_)
  have again:∀{σ7:St} {H7:Hp},Inv X (pins++A6w fp s5.heap) σ7 H7 s7->N σ7 H7->∃m,m < n/\∃i σ' H',Inv X pins σ' H' s7/\tn i s7.heap/\(∀b∈fp,H' b=none)/\W i m σ' H':=λ{σ7 H7} I7 n7=>by
   obtain⟨m',hm,w7⟩:=hN σ7 H7 n7
   refine⟨m',hm,i + 1,σ7,H7,I7.unpinned,T.keep _ _ _ st5 λb hb o e=>(I7.pin (b,o) (A0p _ (A0p _ (A8m hb e)))).1,λb hb=>?_,w7⟩
   obtain⟨o,e,d⟩:=T.obj _ _ st5 b hb
   exact (I7.pin (b,o) (A0p _ (A0p _ (A8m hb e)))).2.1
  cases f with
  | next=>obtain⟨σ7,H7,I7,n7⟩:=q7;exact again I7 n7
  | cont=>obtain⟨σ7,H7,I7,n7⟩:=q7;exact again I7 n7
  | brk=>obtain⟨σ7,H7,I7,q7⟩:=q7;exact⟨σ7,H7,I7.unpinned,q7⟩
  | ret v=>obtain⟨x7,σ7,H7,I7,r7,q7⟩:=q7;exact⟨x7,σ7,H7,I7.unpinned,r7,q7⟩
end
theorem A8n {K:B0} {a:Addr} {xs:List V} {g:TG} {tb:TS} {D:Y8} {σ:St} {H:Hp} (Pv:Nat->St->Hp->Prop) (h0:Pv 0 σ H) (hl:∀i σ H,i<=xs.length->Pv i σ H->SqL K H a xs)
  (hs:∀i x σ H,xs[i]?=some x->Pv i σ H->g x σ H fun σ2 H2=>tb { D with nx:=Pv (i + 1),ct:=Pv (i + 1),bk:=D.nx } σ2 H2) (hd:∀σ H,Pv xs.length σ H->D.nx σ H) :
  ∃W:Nat->Nat->St->Hp->Prop,(∃m,W 0 m σ H)/\∀i m σ H,W i m σ H->
   ((Itl K a).stop i H/\D.nx σ H)\/((Itl K a).go i H/\∃N:St->Hp->Prop,(∀σ' H',N σ' H'->∃m',m' < m/\W (i + 1) m' σ' H')/\∀x H',(Itl K a).yld i H x H'->g x σ H' fun σ2 H2=>tb { D with nx:=N,ct:=N,bk:=D.nx } σ2 H2):=by
 refine⟨λi m σ H=>m=xs.length - i/\i<=xs.length/\Pv i σ H,⟨xs.length,by simp,J7 _,h0⟩,?_⟩
 rintro i m σ H ⟨rfl,hi,p⟩
 have q:=hl i σ H hi p
 by_cases hlt:i < xs.length
 ·refine .inr ⟨⟨xs,xs[i],q,by simp [hlt]⟩,Pv (i + 1),fun σ' H' p'=>⟨xs.length - (i + 1),by lia,rfl,hlt,p'⟩,λx H' y=>?_⟩
  obtain⟨e,y⟩:=y
  subst e
  exact hs i x σ _ (y xs q) p
 ·have e:i=xs.length:=by lia
  subst e
  exact .inl ⟨⟨xs,q,E1 _⟩,hd σ H p⟩
theorem C3m {K:B0} {a:Addr} {xs:List V} {g:TG} {tb:TS} {D:Y8} {σ:St} {H:Hp} (Pv:Nat->St->Hp->Prop) (h0:Pv 0 σ H) (hl:∀i σ H,i<=xs.length->Pv i σ H->SqT K H a xs)
  (hs:∀i x σ H,xs[i]?=some x->Pv i σ H->g x σ H fun σ2 H2=>tb { D with nx:=Pv (i + 1),ct:=Pv (i + 1),bk:=D.nx } σ2 H2) (hd:∀σ H,Pv xs.length σ H->D.nx σ H) :
  ∃W:Nat->Nat->St->Hp->Prop,(∃m,W 0 m σ H)/\∀i m σ H,W i m σ H->
   ((Itt K a).stop i H/\D.nx σ H)\/((Itt K a).go i H/\∃N:St->Hp->Prop,(∀σ' H',N σ' H'->∃m',m' < m/\W (i + 1) m' σ' H')/\∀x H',(Itt K a).yld i H x H'->g x σ H' fun σ2 H2=>tb { D with nx:=N,ct:=N,bk:=D.nx } σ2 H2):=by
 refine⟨λi m σ H=>m=xs.length - i/\i<=xs.length/\Pv i σ H,⟨xs.length,by simp,J7 _,h0⟩,?_⟩
 rintro i m σ H ⟨rfl,hi,p⟩
 have q:=hl i σ H hi p
 by_cases hlt:i < xs.length
 ·refine .inr ⟨⟨xs,xs[i],q,by simp [hlt]⟩,Pv (i + 1),fun σ' H' p'=>⟨xs.length - (i + 1),by lia,rfl,hlt,p'⟩,λx H' y=>?_⟩
  obtain⟨e,y⟩:=y
  subst e
  exact hs i x σ _ (y xs q) p
 ·have e:i=xs.length:=by lia
  subst e
  exact .inl ⟨⟨xs,q,E1 _⟩,hd σ H p⟩
theorem A8o {lo:Int} {n:Nat} {g:TG} {tb:TS} {D:Y8} {σ:St} {H:Hp} (Pv:Nat->St->Hp->Prop) (h0:Pv 0 σ H)
  (hs:∀i σ H,i < n->Pv i σ H->g (.int (lo + i)) σ H fun σ2 H2=>tb { D with nx:=Pv (i + 1),ct:=Pv (i + 1),bk:=D.nx } σ2 H2) (hd:∀σ H,Pv n σ H->D.nx σ H) :
  ∃W:Nat->Nat->St->Hp->Prop,(∃m,W 0 m σ H)/\∀i m σ H,W i m σ H->
   ((Itr lo n).stop i H/\D.nx σ H)\/((Itr lo n).go i H/\∃N:St->Hp->Prop,(∀σ' H',N σ' H'->∃m',m' < m/\W (i + 1) m' σ' H')/\∀x H',(Itr lo n).yld i H x H'->g x σ H' fun σ2 H2=>tb { D with nx:=N,ct:=N,bk:=D.nx } σ2 H2):=by
 refine⟨λi m σ H=>m=n - i/\i<=n/\Pv i σ H,⟨n,by simp,J7 _,h0⟩,?_⟩
 rintro i m σ H ⟨rfl,hi,p⟩
 by_cases hlt:i < n
 ·refine .inr ⟨hlt,Pv (i + 1),fun σ' H' p'=>⟨n - (i + 1),by lia,rfl,hlt,p'⟩,λx H' y=>?_⟩
  obtain⟨e,y⟩:=y
  subst e y
  exact hs i σ _ hlt p
 ·have e:i=n:=by lia
  subst e
  exact .inl ⟨E1 _,hd σ H p⟩
theorem C3n {c:TT} {tb:TS} {D:Y8} {σ:St} {H:Hp} (Pv:St->Hp->Prop) (μ:St->Hp->Nat) (h0:Pv σ H)
  (hs:∀σ H,Pv σ H->c σ H λb H1=>if b=true then tb { D with nx:=fun σ' H'=>Pv σ' H'/\μ σ' H' < μ σ H,ct:=fun σ' H'=>Pv σ' H'/\μ σ' H' < μ σ H,bk:=D.nx } σ H1 else D.nx σ H1)
  (mono:∀σ H Q Q',(∀b H1,Q b H1->Q' b H1)->c σ H Q->c σ H Q'):B1g c tb D σ H:=by
 refine⟨λm σ H=>m=μ σ H/\Pv σ H,⟨_,rfl,h0⟩,?_⟩
 rintro m σ H ⟨rfl,p⟩
 refine mono σ H _ _ (λb H1 q=>?_) (hs σ H p)
 cases b with
 | true=>exact⟨_,fun σ' H' zz56=>zz56.elim λp' l=>⟨_,l,rfl,p'⟩,q⟩
 | false=>exact q
abbrev R2:=V->V->Hp->VK->Prop
def OpR (X:Cx) (f:Value->Value->Sem Value) (r:R2):Prop:=
 ∀(pins:List (Addr×Obj)) (s:Shared) (σ:St) (H:Hp) (x y:V) (v u:Value) (Q:VK),Inv X pins σ H s->E2 x v->E2 y u->r x y H Q->
  wpAny (model X.prog X.w) X.A (f v u) (EP X pins σ Q) X.xe s
def UnR (X:Cx) (f:Value->Sem Value) (r:V->Hp->VK->Prop):Prop:=
 ∀(pins:List (Addr×Obj)) (s:Shared) (σ:St) (H:Hp) (x:V) (v:Value) (Q:VK),Inv X pins σ H s->E2 x v->r x H Q->
  wpAny (model X.prog X.w) X.A (f v) (EP X pins σ Q) X.xe s
def U0 (X:Cx) (f:Value) (r:List V->Hp->VK->Prop):Prop:=
 ∀(pins:List (Addr×Obj)) (s:Shared) (σ:St) (H:Hp) (xs:List V) (us:List Value) (Q:VK),Inv X pins σ H s->C4 xs us->r xs H Q->
  wpAny (model X.prog X.w) X.A (call f us) (EP X pins σ Q) X.xe s
def tOp (r:R2) (ta tb:TE):TE:=fun σ H Q=>ta σ H λx H1=>tb σ H1 λy H2=>r x y H2 Q
def tUn (r:V->Hp->VK->Prop) (ta:TE):TE:=fun σ H Q=>ta σ H λx H1=>r x H1 Q
def rI (C:Int->Int->Prop) (g:Int->Int->V):R2:=λx y H Q=>∃i j,x=.int i/\y=.int j/\C i j/\Q (g i j) H
def rI0 (g:Int->Int->V):R2:=λx y H Q=>∃i j,x=.int i/\y=.int j/\Q (g i j) H
def rU (g:Int->V):V->Hp->VK->Prop:=λx H Q=>∃i,x=.int i/\Q (g i) H
section
variable {X:Cx} {a b c:Expr} {ta tb tc:TE} {pos:Pos}
theorem B1h (ha:PE X a ta) (hb:PE X b tb) {pins:List (Addr×Obj)} {s:Shared} {σ:St} {H:Hp} {R:V->V->Hp->Prop} (I:Inv X pins σ H s)
  (h:ta σ H λx H1=>tb σ H1 λy H2=>R x y H2) {Q:Value->Shared->Prop} {f:Value->Value->Sem Value}
  (hf:∀v u s2 x y H2,Inv X pins σ H2 s2->E2 x v->E2 y u->R x y H2->wpAny (model X.prog X.w) X.A (f v u) Q X.xe s2) :
  wpAny (model X.prog X.w) X.A (eval a X.env) (λv s₁=>wpAny (model X.prog X.w) X.A (eval b X.env) (λu s₂=>wpAny (model X.prog X.w) X.A (f v u) Q X.xe s₂) X.xe s₁) X.xe s:=by
 refine thn (ha pins s σ H _ I h) λv s1 zz57=>el5 zz57 λx H1 I1 r1 q1=>?_
 refine thn (hb pins s1 σ H1 _ I1 q1) λu s2 zz58=>el5 zz58 λy H2 I2 r2 q2=>?_
 exact hf v u s2 x y H2 I2 r1 r2 q2
theorem J5 {op:Operator} {r:R2} (ho:OpR X (binaryOp op) r) (ha:PE X a ta) (hb:PE X b tb):PE X (.BinOp a op b pos) (tOp r ta tb):=by
 intro pins s σ H Q I h
 exact wpAny_BinOp (B1h ha hb I h λv u s2 x y H2 I2 rx ry q=>ho pins s2 σ H2 x y v u Q I2 rx ry q)
theorem B6k {op:UnaryOp} {r:V->Hp->VK->Prop} (ho:UnR X (unaryOp op) r) (ha:PE X a ta):PE X (.UnaryOp op a pos) (tUn r ta):=by
 intro pins s σ H Q I h
 exact UnaryOp_ (thn (ha pins s σ H _ I h) λv s1 zz59=>el5 zz59 λx H1 I1 r1 q1=>ho pins s1 σ H1 x v Q I1 r1 q1)
theorem opI {f:Value->Value->Sem Value} {C:Int->Int->Prop} {g:Int->Int->Int}
  (rule:∀(i j:Int) (t u:Tok) (s:Shared) (Q:Value->Shared->Prop) (E:Value->Shared->Prop),C i j->Q (.int (g i j) s.toks) { s with toks:=s.toks + 1 }->wpAny (model X.prog X.w) X.A (f (.int i t) (.int j u)) Q E s) :
  OpR X f (rI C λi j=>.int (g i j)):=by
 intro pins s σ H x y v u Q I rx ry h
 obtain⟨i,j,rfl,rfl,hc,q⟩:=h
 obtain⟨t,rfl⟩:=rx
 obtain⟨t',rfl⟩:=ry
 exact rule i j t t' s _ _ hc ⟨.int (g i j),H,I.tok _,⟨_,rfl⟩,q⟩
theorem B6l {f:Value->Value->Sem Value} {g:Int->Int->Int}
  (rule:∀(i j:Int) (t u:Tok) (s:Shared) (Q:Value->Shared->Prop) (E:Value->Shared->Prop),Q (.int (g i j) s.toks) { s with toks:=s.toks + 1 }->wpAny (model X.prog X.w) X.A (f (.int i t) (.int j u)) Q E s) :
  OpR X f (rI0 λi j=>.int (g i j)):=by
 intro pins s σ H x y v u Q I rx ry h
 obtain⟨i,j,rfl,rfl,q⟩:=h
 obtain⟨t,rfl⟩:=rx
 obtain⟨t',rfl⟩:=ry
 exact rule i j t t' s _ _ ⟨.int (g i j),H,I.tok _,⟨_,rfl⟩,q⟩
theorem A8p {f:Value->Value->Sem Value} {g:Int->Int->Bool}
  (rule:∀(i j:Int) (t u:Tok) (s:Shared) (Q:Value->Shared->Prop) (E:Value->Shared->Prop),Q (.bool (g i j)) s->wpAny (model X.prog X.w) X.A (f (.int i t) (.int j u)) Q E s) :
  OpR X f (rI0 λi j=>.bl (g i j)):=by
 intro pins s σ H x y v u Q I rx ry h
 obtain⟨i,j,rfl,rfl,q⟩:=h
 obtain⟨t,rfl⟩:=rx
 obtain⟨t',rfl⟩:=ry
 exact rule i j t t' s _ _ ⟨.bl (g i j),H,I,rfl,q⟩
def B1i (i j:Int):Prop:=0<=j/\j<=1000000/\i.natAbs < 2 ^ 64
def A6x (i j:Int):Prop:=(-(2 ^ 64) < i/\i < 2 ^ 64)\/(-(2 ^ 64) < j/\j < 2 ^ 64)
theorem A6x.ok {i j:Int} (h:A6x i j):IntMulOk i j:=by
 rcases h with ⟨h1,h2⟩ | ⟨h1,h2⟩
 ·exact .of_left (intBits_le_64 h1 h2)
 ·exact .of_right (intBits_le_64 h1 h2)
theorem O2:OpR X (binaryOp .Add) (rI0 λi j=>.int (i + j)):=B6l λ_ _ _ _ _ _ _ q=>add_int q
theorem A4t:OpR X (binaryOp .Sub) (rI0 λi j=>.int (i - j)):=B6l λ_ _ _ _ _ _ _ q=>sub_int q
theorem y8:OpR X (binaryOp .Mult) (rI A6x λi j=>.int (i * j)):=opI λ_ _ _ _ _ _ _ hc q=>mul_int q hc.ok
theorem y9:OpR X (binaryOp .Mod) (rI (λ_ j=>0 < j) λi j=>.int (i % j)):=opI λi j _ _ _ _ _ hc q=>by
 have h1:(0:Int) < j:=hc
 exact mod_int' (by lia) (by rw[Int.fmod_eq_emod_of_nonneg i (by lia)];exact q)
theorem b7:OpR X (binaryOp .Pow) (rI B1i λi j=>.int (i ^ j.toNat)):=opI λ_ _ _ _ _ _ _ hc q=>pow_int_small hc.1 hc.2.1 hc.2.2 q
theorem unI {f:Value->Sem Value} {g:Int->Int}
  (rule:∀(i:Int) (t:Tok) (s:Shared) (Q:Value->Shared->Prop) (E:Value->Shared->Prop),Q (.int (g i) s.toks) { s with toks:=s.toks + 1 }->wpAny (model X.prog X.w) X.A (f (.int i t)) Q E s) :
  UnR X f (rU λi=>.int (g i)):=by
 intro pins s σ H x v Q I rx h
 obtain⟨i,rfl,q⟩:=h
 obtain⟨t,rfl⟩:=rx
 exact rule i t s _ _ ⟨.int (g i),H,I.tok _,⟨_,rfl⟩,q⟩
theorem B6m:UnR X (unaryOp .USub) (rU λi=>.int (-i)):=unI λ_ _ _ _ _ q=>neg_int q
end
def C3o:V->V->Bool
 | .non,.non=>true | .non,.int _=>true | .int _,.non=>true | .non,.bl _=>true | .bl _,.non=>true | .non,.str _=>true | .str _,.non=>true
 | .int _,.int _=>true | .bl _,.bl _=>true | .str _,.str _=>true | .byt _,.byt _=>true
 | .int _,.str _=>true | .str _,.int _=>true | .bl _,.str _=>true | .str _,.bl _=>true
 | _,_=>false
def rEq:R2:=λx y H Q=>C3o x y=true/\Q (.bl (decide (x=y))) H
theorem C3p {i j:Int}:decide (V.int i=V.int j)=(i == j):=by
 rw[B5r]
 simp
theorem C3q {i j:Bool}:decide (V.bl i=V.bl j)=(i == j):=by
 rw[B5r]
 simp
theorem C3r {i j:Str}:decide (V.str i=V.str j)=(i == j):=by
 rw[B5r]
 simp
theorem C3s {i j:Array UInt8}:decide (V.byt i=V.byt j)=(i.toList == j.toList):=by
 rw[B5r]
 cases i
 cases j
 simp
section
variable {X:Cx} {a b c:Expr} {ta tb tc:TE} {pos:Pos}
theorem V0 {pins:List (Addr×Obj)} {σ:St} {H:Hp} {s:Shared} {Q:VK} {k k':Bool} (I:Inv X pins σ H s) (q:Q (.bl k) H) (e:k=k'):EP X pins σ Q (.bool k') s:=by
 subst e
 exact⟨.bl k,H,I,rfl,q⟩
theorem Q4:OpR X (compareOp .Eq) rEq:=by
 intro pins s σ H x y v u Q I rx ry h
 obtain⟨hs,q⟩:=h
 cases x with
 | non=>
  cases rx
  cases y with
  | non=>cases ry;exact PySem.EqNone.eq_none_none (V0 I q (by simp))
  | bl j=>cases ry;exact PySem.EqNone.eq_none_bool (V0 I q (by simp))
  | int j=>obtain⟨t',rfl⟩:=ry;exact PySem.EqNone.eq_none_int (V0 I q (by simp))
  | str j=>obtain⟨t',rfl⟩:=ry;exact PySem.EqNone.eq_none_str (V0 I q (by simp))
  | _=>exact absurd (show false=true from hs) Q8
 | bl i=>
  cases rx
  cases y with
  | non=>cases ry;exact PySem.EqNone.eq_bool_none (V0 I q (by simp))
  | bl j=>cases ry;exact eq_bool (V0 I q C3q)
  | str j=>obtain⟨t',rfl⟩:=ry;exact PySem.EqMixed.eq_bool_str (V0 I q (by simp))
  | _=>exact absurd (show false=true from hs) Q8
 | int i=>
  obtain⟨t,rfl⟩:=rx
  cases y with
  | non=>cases ry;exact PySem.EqNone.eq_int_none (V0 I q (by simp))
  | int j=>obtain⟨t',rfl⟩:=ry;exact eq_int (V0 I q C3p)
  | str j=>obtain⟨t',rfl⟩:=ry;exact PySem.EqMixed.eq_int_str (V0 I q (by simp))
  | _=>exact absurd (show false=true from hs) Q8
 | str i=>
  obtain⟨t,rfl⟩:=rx
  cases y with
  | non=>cases ry;exact PySem.EqNone.eq_str_none (V0 I q (by simp))
  | bl j=>cases ry;exact PySem.EqMixed.eq_str_bool (V0 I q (by simp))
  | int j=>obtain⟨t',rfl⟩:=ry;exact PySem.EqMixed.eq_str_int (V0 I q (by simp))
  | str j=>obtain⟨t',rfl⟩:=ry;exact eq_str (V0 I q C3r)
  | _=>exact absurd (show false=true from hs) Q8
 | byt i=>
  obtain⟨t,rfl⟩:=rx
  cases y with
  | byt j=>obtain⟨t',rfl⟩:=ry;exact PySem.W.eq_bytes (V0 I q C3s)
  | _=>exact absurd (show false=true from hs) Q8
 | _=>cases y <;> exact absurd (show false=true from hs) Q8
theorem Z1:OpR X (compareOp .Lt) (rI0 λi j=>.bl (decide (i < j))):=A8p λ_ _ _ _ _ _ _ q=>lt_int q
theorem i8:OpR X (compareOp .LtE) (rI0 λi j=>.bl (decide (i<=j))):=A8p λ_ _ _ _ _ _ _ q=>le_int q
theorem A4u:OpR X (compareOp .Gt) (rI0 λi j=>.bl (decide (j < i))):=A8p λ_ _ _ _ _ _ _ q=>gt_int q
theorem B1j:OpR X (compareOp .GtE) (rI0 λi j=>.bl (decide (j<=i))):=A8p λ_ _ _ _ _ _ _ q=>ge_int q
theorem Z2:OpR X (compareOp .Is) (λx y H Q=>y=.non/\Q (.bl (decide (x=.non))) H):=by
 intro pins s σ H x y v u Q I rx ry h
 obtain⟨rfl,q⟩:=h
 cases ry
 refine is_none_gen (V0 I q ?_)
 cases x <;> first
  | (cases rx;rfl)
  | (obtain⟨t,rfl⟩:=rx;rfl)
theorem A4v:OpR X (compareOp .IsNot) (λx y H Q=>y=.non/\Q (.bl (!decide (x=.non))) H):=by
 intro pins s σ H x y v u Q I rx ry h
 obtain⟨rfl,q⟩:=h
 cases ry
 refine isnot_none_gen (V0 I q ?_)
 cases x <;> first
  | (cases rx;rfl)
  | (obtain⟨t,rfl⟩:=rx;rfl)
theorem D5 (b:Expr) {op:CmpOp} (h:autoParam (op≠.In) DD._auto_1) (h2:autoParam (op≠.NotIn) DD._auto_1):behindInMarks op b=false:=by
 have e1:(op == CmpOp.In)=false:=by cases op <;> first | rfl | exact absurd rfl h
 have e2:(op == CmpOp.NotIn)=false:=by cases op <;> first | rfl | exact absurd rfl h2
 cases b <;> simp [behindInMarks,e1,e2]
theorem A8q {op:CmpOp} {r:R2} (ho:OpR X (compareOp op) r) (ha:PE X a ta) (hb:PE X b tb) (hm:behindInMarks op b=false):PE X (.Compare a [op] [b] pos) (tOp r ta tb):=by
 intro pins s σ H Q I h
 exact wpAny_Compare1 (B1h ha hb I h λv u s2 x y H2 I2 rx ry q=>ho pins s2 σ H2 x y v u Q I2 rx ry q) hm
def A8r (t:TE):TT:=fun σ H Q=>t σ H λx H'=>∃k,x=.bl k/\Q k H'
theorem J2 {op:CmpOp} {r:R2} (ho:OpR X (compareOp op) r) (ha:PE X a ta) (hb:PE X b tb) (hm:behindInMarks op b=false):PT X (.Compare a [op] [b] pos) (A8r (tOp r ta tb)):=by
 intro pins s σ H Q I h
 refine wpAny_isTrue_Compare1 (thn (ha pins s σ H _ I h) λv s1 zz60=>el5 zz60 λx H1 I1 r1 q1=>thn (hb pins s1 σ H1 _ I1 q1) λu s2 zz61=>el5 zz61 λy H2 I2 r2 q2=>
  thn (ho pins s2 σ H2 x y v u _ I2 r1 r2 q2) λc s3 zz62=>zz62.elim λz zz63=>zz63.elim λH3 zz64=>zz64.elim λI3 zz65=>zz65.elim λr3 zz66=>zz66.elim λk zz67=>zz67.elim λe q3=>?_) hm
 subst e
 cases r3
 exact wpAny_truthy_bool ⟨H3,I3,q3⟩
def B1k (r r':R2) (ta tb tc:TE):TE:=fun σ H Q=>ta σ H λx H1=>tb σ H1 λy H2=>r x y H2 λz H3=>∃k,z=.bl k/\
 (if k=true then tc σ H3 λw' H4=>r' y w' H4 Q else Q (.bl false) H3)
theorem C3t {op op':CmpOp} {r r':R2} (ho:OpR X (compareOp op) r) (ho':OpR X (compareOp op') r') (ha:PE X a ta) (hb:PE X b tb) (hc:PE X c tc)
  (hm:autoParam (lastMarks [op,op'] [b,c]=false) A4P._auto_1):PE X (.Compare a [op,op'] [b,c] pos) (B1k r r' ta tb tc):=by
 intro pins s σ H Q I h
 refine Compare_chain (thn (ha pins s σ H _ I h) λv s1 zz68=>el5 zz68 λx H1 I1 r1 q1=>chain_link (thn (hb pins s1 σ H1 _ I1 q1) λu s2 zz69=>el5 zz69 λy H2 I2 r2 q2=>
  thn (ho pins s2 σ H2 x y v u _ I2 r1 r2 q2) λd s3 zz70=>zz70.elim λz zz71=>zz71.elim λH3 zz72=>zz72.elim λI3 zz73=>zz73.elim λr3 zz74=>zz74.elim λk zz75=>zz75.elim λe q3=>?_)) hm
 subst e
 cases r3
 refine wpAny_truthy_bool ?_
 cases k with
 | false=>exact ite_ff ⟨.bl false,H3,I3,rfl,q3⟩
 | true=>exact ite_tt (chain_last (thn (hc pins s3 σ H3 _ I3 q3) λw' s4 zz76=>el5 zz76 λz' H4 I4 r4 q4=>ho' pins s4 σ H4 y z' u w' Q I4 r2 r4 q4))
theorem C3u {op op':CmpOp} {r r':R2} (ho:OpR X (compareOp op) r) (ho':OpR X (compareOp op') r') (ha:PE X a ta) (hb:PE X b tb) (hc:PE X c tc)
  (hm:autoParam (lastMarks [op,op'] [b,c]=false) A4P._auto_1):PT X (.Compare a [op,op'] [b,c] pos) (A8r (B1k r r' ta tb tc)):=by
 intro pins s σ H Q I h
 refine isTrue_chain (thn (ha pins s σ H _ I h) λv s1 zz77=>el5 zz77 λx H1 I1 r1 q1=>test_link (thn (hb pins s1 σ H1 _ I1 q1) λu s2 zz78=>el5 zz78 λy H2 I2 r2 q2=>
  thn (ho pins s2 σ H2 x y v u _ I2 r1 r2 q2) λd s3 zz79=>zz79.elim λz zz80=>zz80.elim λH3 zz81=>zz81.elim λI3 zz82=>zz82.elim λr3 zz83=>zz83.elim λk zz84=>zz84.elim λe q3=>?_)) hm
 subst e
 cases r3
 refine wpAny_truthy_bool ?_
 cases k with
 | false=>
  obtain⟨k',e',q'⟩:=q3
  cases e'
  exact ite_ff ⟨H3,I3,q'⟩
 | true=>
  refine ite_tt (test_last (thn (hc pins s3 σ H3 _ I3 q3) λw' s4 zz85=>el5 zz85 λz' H4 I4 r4 q4=>thn (ho' pins s4 σ H4 y z' u w' _ I4 r2 r4 q4) λd' s5 zz86=>zz86.elim λz2 zz87=>zz87.elim λH5 zz88=>zz88.elim λI5 zz89=>zz89.elim λr5 zz90=>zz90.elim λk2 zz91=>zz91.elim λe2 q5=>?_))
  subst e2
  cases r5
  exact wpAny_truthy_bool ⟨H5,I5,q5⟩
theorem A4w:(sizeLine:Nat) < 2 ^ 63:=by rw[sizeLine_eq];decide
theorem U1 {x:V} {us:List Value} (r:C4 [x] us):∃u,us=[u]/\E2 x u:=by
 cases r with
 | cons r1 r2=>cases r2;exact⟨_,rfl,r1⟩
theorem A8s {x y:V} {us:List Value} (r:C4 [x,y] us):∃u w',us=[u,w']/\E2 x u/\E2 y w':=by
 cases r with
 | cons r1 r2=>
  cases r2 with
  | cons r3 r4=>cases r4;exact⟨_,_,rfl,r1,r3⟩
theorem B6n:U0 X (.builtin "abs") (λxs H Q=>∃i,xs=[.int i]/\Q (.int (if i < 0 then -i else i)) H):=by
 intro pins s σ H xs us Q I r h
 obtain⟨i,rfl,q⟩:=h
 obtain⟨u,rfl,t,rfl⟩:=U1 r
 exact call_abs_int λu tk=>⟨.int (if i < 0 then -i else i),H,I.tok _,⟨_,rfl⟩,q⟩
theorem A6y (hc:X.calm=true):U0 X (.builtin "max") (λxs H Q=>∃i j,xs=[.int i,.int j]/\Q (.int (if j > i then j else i)) H):=by
 intro pins s σ H xs us Q I r h
 obtain⟨i,j,rfl,q⟩:=h
 obtain⟨u,w',rfl,⟨t,rfl⟩,⟨t',rfl⟩⟩:=A8s r
 refine max_two_ints (I.ok.hd hc) λh' tk k=>⟨_,H,I.kept k,?_,q⟩
 by_cases hj:j > i
 ·rw[if_pos hj,if_pos hj];exact⟨_,rfl⟩
 ·rw[if_neg hj,if_neg hj];exact⟨_,rfl⟩
theorem A8t (hc:X.calm=true):U0 X (.builtin "min") (λxs H Q=>∃i j,xs=[.int i,.int j]/\Q (.int (if j < i then j else i)) H):=by
 intro pins s σ H xs us Q I r h
 obtain⟨i,j,rfl,q⟩:=h
 obtain⟨u,w',rfl,⟨t,rfl⟩,⟨t',rfl⟩⟩:=A8s r
 refine min_two_ints (I.ok.hd hc) λh' tk k=>⟨_,H,I.kept k,?_,q⟩
 by_cases hj:j < i
 ·rw[if_pos hj,if_pos hj];exact⟨_,rfl⟩
 ·rw[if_neg hj,if_neg hj];exact⟨_,rfl⟩
theorem C3v:U0 X (.type "int") (λxs H Q=>(∃i,xs=[.int i]/\Q (.int i) H)\/∃k,xs=[.bl k]/\Q (.int (if k then 1 else 0)) H):=by
 intro pins s σ H xs us Q I r h
 rcases h with ⟨i,rfl,q⟩ | ⟨k,rfl,q⟩
 ·obtain⟨u,rfl,t,rfl⟩:=U1 r
  exact call_int_int ⟨.int i,H,I,⟨_,rfl⟩,q⟩
 ·obtain⟨u,rfl,r1⟩:=U1 r
  cases r1
  exact call_int_bool ⟨.int (if k then 1 else 0),H,I.tok _,⟨_,rfl⟩,q⟩
end
structure A2l (h:Heap) (x dx C:Addr) (mA:Str->Option Value):Prop where
 obj:h.get? x=some (A4h C dx)
 ns:h.Ns1 dx mA
 ne:dx≠x
theorem C3w {h:Heap} {dx:Addr} {mA:Str->Option Value} (n:h.Ns1 dx mA):∃od,h.get? dx=some od/\∀name,B5s name od=some (mA name):=by
 obtain⟨o,es,ep,ho,hd,hk,_,hm⟩:=n
 refine⟨o,ho,λname=>?_⟩
 have e:=hm name
 unfold nsFind findBy at e
 rw[<-Array.find?_toList] at e
 unfold B5s
 rw[hd]
 dsimp only
 split
 ·rename_i y q
  rw[q] at e
  exact congrArg some e
 ·rename_i q
  rw[q] at e
  have a:es.toList.any (·.refKey)=false:=by
   rw[List.any_eq_false]
   intro y hy
   obtain⟨z,t,hkey⟩:=hk y (Array.mem_toList_iff.mp hy)
   simp [DictEntry.refKey,hkey]
  have a':¬ es.toList.any (·.refKey)=true:=by rw[a];exact Q8
  rw[if_neg a']
  exact congrArg some e
theorem A2l.look {h:Heap} {x dx C:Addr} {mA:Str->Option Value} (I:A2l h x dx C mA):∃od,PySem.W.InstAt h x (A4h C dx) C (some od)/\∀name,B5s name od=some (mA name):=
 let ⟨od,ho,hl⟩:=C3w I.ns
 ⟨od,⟨I.obj,rfl,rfl,ho⟩,hl⟩
section
variable {prog:Program} {w:World} {A:Around} {E:Value->Shared->Prop} {s:Shared} {K:B0} {x dx C f:Addr} {mA:Str->Option Value} {name:Str} {v:Value}
theorem C3x {expr:Bool} {Q:Value->Shared->Prop} (X:K.In s.heap) (I:A2l s.heap x dx C mA) (hg:B5t K C name=true) (hh:PySem.W.hasDictIn K C=true)
  (ha:p7 K (.ref C) name=some none) (hv:mA name=some v) (hv':PySem.W.handedIn v=true) (h:Q v { s with toks:=s.toks + 1 }) :
  wpAny (model prog w) A (getAttr (.ref x) name expr) Q E s:=by
 obtain⟨od,J,hl⟩:=I.look
 exact PySem.W.get_value X J (C2e hg).1 (PySem.W.findObj_own hh ha rfl (by rw[hl,hv])) hv' h
theorem C3y {pl:Sem Bool} {Q:Value×List Value->Shared->Prop} (X:K.In s.heap) (I:A2l s.heap x dx C mA) (hg:B5t K C name=true)
  (hf:p7 K (.ref C) name=some (some (.ref f))) (ht:PySem.W.isFn K (.ref f)=true) (hv:mA name=none) (h:Q (.ref f,[.ref x]) s) :
  wpAny (model prog w) A (getMethod (.ref x) name pl) Q E s:=by
 obtain⟨od,J,hl⟩:=I.look
 exact PySem.W.method_fn X J (C2e hg).1 (C2e hg).2 hf (beq_iff_eq.mp ht) (by show (B5s name od).map (·.isSome)=some false;rw[hl,hv];rfl) h
theorem C3z {ns:List Str} {Q:Unit->Shared->Prop} (X:K.In s.heap) (I:A2l s.heap x dx C mA)
  (hs:p7 K (.ref C) "__setattr__" = some (some (.builtin "object.__setattr__"))) (hp:PySem.W.plainOver K C=true) (ht:PySem.W.takerIn K C name=some none) (hh:PySem.W.hasDictIn K C=true)
  (hw:PySem.Within mA ns) (hsz:ns.length<=sizeLine)
  (h:∀h',A2l h' x dx C (λy=>if y=name then some v else mA y)->Heap.SameBut dx s.heap h'->Q () { s with heap:=h',toks:=s.toks + 2 }) :
  wpAny (model prog w) A (setAttr (.ref x) name v) Q E s:=by
 obtain⟨od,J,hl⟩:=I.look
 refine PySem.W.set_plain X J hs (PySem.W.osa_open (s:={ s with toks:=s.toks + 1 }) (r:=none) X J hp ht λb=>?_)
 obtain⟨cd,hc,hd'⟩:=PySem.W.any_some hh
 have hx:s.heap.get? x=some ⟨.ref C,some dx,.plain,#[]⟩:=I.obj
 refine wpAny_bind (wpAny_pure (wpAny_bind (wpAny_bind (wpAny_loadPart hx (wpAny_bind (PySem.W.Looks.here (s:={ s with toks:=s.toks + 1 }) (PySem.W.looks_clsIn X hc) ?_))))))
 rw[hd']
 refine wpAny_pure (a:=some dx) (wpAny_bind (wpAny_pure (wpAny_bind ?_)))
 refine wpAny_nsSet1 (s:={ s with toks:=s.toks + 1 }) I.ns λh' hn2 hs2=>?_
 obtain⟨oD,esD,epD,hoD,hdD,hcD⟩:=hn2.count (PySem.Within.cons name v hw)
 refine wpAny_bind (wpAny_lookBehind hoD (by rw[hdD];exact pastItsLine_dict (T8 hcD (by rw[G6];lia))) ?_)
 exact wpAny_pure (h _ ⟨(hs2.2 _ (Ne.symm I.ne)).trans I.obj,hn2,I.ne⟩ hs2)
theorem C30 {R:Result->Shared->Prop} {vs:List Value} {kw:List (Str×Value)} (X:K.In s.heap) (hm:PySem.W.makesIn K C=true)
  (hi:p7 K (.ref C) "__init__" = some (some (.ref f))) (hf:PySem.W.typeIn K (.ref f)=some (.type "function"))
  (h:codeAny (model prog w) (A.under (.builtin "type.__call__" ⟨.ref C::vs,kw⟩)) (.call (.ref f) ⟨.ref (s.heap.objs.size + 1)::vs,kw⟩) (PySem.W.InitBack (s.heap.objs.size + 1) R)
   { s with heap:=(s.heap.push A2c).push (A4h C s.heap.objs.size) }) :
  codeAny (model prog w) A (.call (.ref C) ⟨vs,kw⟩) R s:=by
 obtain⟨hh,g,d,t,os⟩:=s
 exact PySem.W.make_core (PySem.W.makes_of X hm) (PySem.W.looks_findIn X hi) (λself=>PySem.W.bind_fn X self hf) (.inl rfl) h
end
def P4 (f:Str) (v:V):List (Str×V)->List (Str×V)
 | []=>[(f,v)]
 | (g,x)::r=>if g=f then (g,v)::r else (g,x)::P4 f v r
theorem B6o (f g:Str) (v:V):∀fs:List (Str×V),(P4 f v fs).lookup g=if g=f then some v else fs.lookup g
 | []=>by
  show A59 g [(f,v)]=_
  by_cases h:g=f
  ·have hb:(g == f)=true:=beq_iff_eq.mpr h
   simp only[A59,hb,if_pos h]
  ·have hb:(g == f)=false:=beq_eq_false_iff_ne.mpr h
   simp only[A59,hb,if_neg h]
 | (k,x)::r=>by
  have ih:=B6o f g v r
  rw[show P4 f v ((k,x)::r)=(if k=f then (k,v)::r else (k,x)::P4 f v r) from rfl]
  by_cases hk:k=f
  ·rw[if_pos hk]
   by_cases h:g=k
   ·have hb:(g == k)=true:=beq_iff_eq.mpr h
    simp only[A59,hb,if_pos (h.trans hk)]
   ·have hb:(g == k)=false:=beq_eq_false_iff_ne.mpr h
    simp only[A59,hb,if_neg (λe:g=f=>h (e.trans hk.symm))]
  ·rw[if_neg hk]
   by_cases h:g=k
   ·have hb:(g == k)=true:=beq_iff_eq.mpr h
    simp only[A59,hb,if_neg (λe:g=f=>hk (h.symm.trans e))]
   ·have hb:(g == k)=false:=beq_eq_false_iff_ne.mpr h
    simp only[A59,hb]
    exact ih
theorem B1l (f:Str) (v:V):∀fs:List (Str×V),f∈(P4 f v fs).map (·.1)/\∀g,g∈fs.map (·.1)->g∈(P4 f v fs).map (·.1)
 | []=>⟨by simp [P4],λg h=>by simp at h⟩
 | (k,x)::r=>by
  obtain⟨i1,i2⟩:=B1l f v r
  rw[show P4 f v ((k,x)::r)=(if k=f then (k,v)::r else (k,x)::P4 f v r) from rfl]
  by_cases hk:k=f
  ·rw[if_pos hk]
   subst hk
   exact⟨by simp,λg h=>by simpa using h⟩
  ·rw[if_neg hk]
   refine⟨?_,λg h=>?_⟩
   ·rw[O9]
    exact C8 _ i1
   ·rw[O9] at h ⊢
    rcases J1.mp h with e | e
    ·exact J1.mpr (.inl e)
    ·exact C8 _ (i2 g e)
theorem B6p (f:Str) (v:V):∀fs:List (Str×V),(P4 f v fs).length<=fs.length + 1
 | []=>by simp [P4]
 | (k,x)::r=>by
  have ih:=B6p f v r
  rw[show P4 f v ((k,x)::r)=(if k=f then (k,v)::r else (k,x)::P4 f v r) from rfl]
  by_cases hk:k=f
  ·rw[if_pos hk,G6,G6];lia
  ·rw[if_neg hk,G6,G6];lia
theorem U9.some_of {v:V} {o:Option Value} (r:U9 (some v) o):∃u,o=some u/\E2 v u:=by
 cases o with
 | none=>exact (show False from r).elim
 | some u=>exact⟨u,rfl,r⟩
theorem U9.none_of {o:Option Value} (r:U9 none o):o=none:=by
 cases o with
 | none=>rfl
 | some u=>exact (show False from r).elim
theorem C31 {v:V} {u:Value} (r:E2 v u):PySem.W.handedIn u=true:=by
 cases v with
 | non=>cases (show u=Value.none from r);rfl
 | bl b=>cases (show u=Value.bool b from r);rfl
 | int i=>obtain⟨t,e⟩:=(show ∃t,u=Value.int i t from r);cases e;rfl
 | str x=>obtain⟨t,e⟩:=(show ∃t,u=Value.str x t from r);cases e;rfl
 | byt b=>obtain⟨t,e⟩:=(show ∃t,u=Value.bytes b t from r);cases e;rfl
 | flt b=>obtain⟨t,e⟩:=(show ∃t,u=Value.float b t from r);cases e;rfl
 | ref a=>cases (show u=Value.ref a from r);rfl
 | ty n=>cases (show u=Value.type n from r);rfl
section
variable {P:Program} {w:World} {H H':Hp} {h h':Heap} {a C dx:Addr} {fs fs':List (Str×V)}
theorem A8u (hok:HOk P w H h) (e:H a=some (.ins C dx fs)):∃mA,A2l h a dx C mA/\(∀f,U9 (fs.lookup f) (mA f))/\PySem.Within mA (fs.map (·.1))/\fs.length<=1000/\H dx=some (.own a):=by
 obtain⟨d,z,ne,ob,mA,n,r,q⟩:=(show K3 P w H h a (.ins C dx fs) from hok a _ e)
 exact⟨mA,⟨ob,n,ne⟩,r,q,z,d⟩
end
structure Cls (K:B0) (C:Addr):Prop where
 pg:B5t K C Str.empty=true
 hd:PySem.W.hasDictIn K C=true
 po:PySem.W.plainOver K C=true
 sa:p7 K (.ref C) "__setattr__" = some (some (.builtin "object.__setattr__"))
theorem Cls.get {K:B0} {C:Addr} (c:Cls K C) (f:Str):B5t K C f=true:=c.pg
def l7 (K:B0) (C:Addr) (f:Str):Prop:=p7 K (.ref C) f=some none
theorem l7.taker {K:B0} {C:Addr} {f:Str} (n:l7 K C f):PySem.W.takerIn K C f=some none:=by
 unfold PySem.W.takerIn
 rw[show p7 K (.ref C) f=some none from n]
 rfl
structure A8v (K:B0) (C:Addr) (m:Str) (f:Addr):Prop where
 at_:p7 K (.ref C) m=some (some (.ref f))
 fn:PySem.W.isFn K (.ref f)=true
 kp:A6a K (.ref f)=true
section
variable {X:Cx} {pins:List (Addr×Obj)} {σ:St} {H:Hp} {s:Shared} {a C dx:Addr} {fs:List (Str×V)} {f:Str} {v:V} {A:Around} {E:Value->Shared->Prop}
theorem C32 {b:Bool} {Q:Value->Shared->Prop} (I:Inv X pins σ H s) (e:H a=some (.ins C dx fs)) (c:Cls X.K C) (n:l7 X.K C f) (l:fs.lookup f=some v)
  (h:∀u s',Inv X pins σ H s'->E2 v u->Q u s'):wpAny (model X.prog X.w) A (getAttr (.ref a) f b) Q E s:=by
 obtain⟨mA,O,r,_,_,_⟩:=A8u I.hok e
 obtain⟨u,hu,ru⟩:=U9.some_of (v:=v) (o:=mA f) (by rw[<-l];exact r f)
 exact C3x I.kIn O (c.get f) c.hd n hu (C31 ru) (h u _ (I.tok _) ru)
theorem B6q {m:Str} {g:Addr} {pl:Sem Bool} {Q:Value×List Value->Shared->Prop} (I:Inv X pins σ H s) (e:H a=some (.ins C dx fs)) (c:Cls X.K C) (k:A8v X.K C m g) (l:fs.lookup m=none)
  (h:Q (.ref g,[.ref a]) s):wpAny (model X.prog X.w) A (getMethod (.ref a) m pl) Q E s:=by
 obtain⟨mA,O,r,_,_,_⟩:=A8u I.hok e
 have hn:mA m=none:=U9.none_of (by rw[<-l];exact r m)
 exact C3y I.kIn O (c.get m) k.at_ k.fn hn h
theorem C33 {y:V} {u:Value} {Q:Unit->Shared->Prop} (I:Inv X pins σ H s) (e:H a=some (.ins C dx fs)) (c:Cls X.K C) (n:l7 X.K C f) (hl:fs.length < 1000) (ry:E2 y u)
  (h:∀s',Inv X pins σ (upd H a (.ins C dx (P4 f y fs))) s'->Q () s'):wpAny (model X.prog X.w) A (setAttr (.ref a) f u) Q E s:=by
 obtain⟨mA,O,r,wi,_,ho⟩:=A8u I.hok e
 have hz:(fs.map (·.1)).length<=sizeLine:=by rw[C1,sizeLine_eq];lia
 refine C3z I.kIn O c.sa c.po n.taker c.hd wi hz λh' O' sb=>h _ ?_
 have hd:∃o,h'.get? dx=some o:=let ⟨o,_,_,e',_⟩:=O'.ns;⟨o,e'⟩
 refine I.write (x:=a) (e:=dx) (by rw[e];exact True.intro) (.inr ho) (λb q hb z=>(sb.2 b hb).trans z) hd ?_
 refine⟨by rw[B4 O.ne];exact ho,?_,O.ne,O'.obj,_,O'.ns,λg=>?_,λg hg=>?_⟩
 ·have:=B6p f y fs;lia
 ·show U9 ((P4 f y fs).lookup g) (if g=f then some u else mA g)
  rw[B6o]
  by_cases q:g=f
  ·rw[if_pos q,if_pos q];exact ry
  ·rw[if_neg q,if_neg q];exact r g
 ·by_cases q:g=f
  ·rw[q];exact (B1l f y fs).1
  ·refine (B1l f y fs).2 g (wi g λz=>hg ?_)
   show (if g=f then some u else mA g)=none
   rw[if_neg q];exact z
theorem Inv.made (I:Inv X pins σ H s):Inv X pins σ (upd (upd H s.heap.objs.size (.own (s.heap.objs.size + 1))) (s.heap.objs.size + 1) (.ins C s.heap.objs.size []))
  { s with heap:=(s.heap.push A2c).push (A4h C s.heap.objs.size) }:=by
 have e1:(s.heap.push A2c).get? s.heap.objs.size=some A2c:=O5 s.heap rfl
 have e2:((s.heap.push A2c).push (A4h C s.heap.objs.size)).get? (s.heap.objs.size + 1)=some (A4h C s.heap.objs.size):=by
  have:=O5 (s.heap.push A2c) (o:=A4h C s.heap.objs.size) rfl
  rwa [B5u] at this
 have e3:(s.heap.push A2c).Ns s.heap.objs.size (λ_=>none):=⟨A2c,#[],_,e1,rfl,(λe he=>absurd he (by simp)),λ_=>rfl⟩
 have I1:=I.laid (a:=s.heap.objs.size) (o:=.own (s.heap.objs.size + 1)) (h':=s.heap.push A2c) (t':=s.toks) (λb u q=>K2 _ q) (E1 _) ⟨_,e1⟩
 refine I1.laid (a:=s.heap.objs.size + 1) (o:=.ins C s.heap.objs.size []) (t':=s.toks) (λb u q=>K2 _ q) (Nat.le_of_eq (B5u _ _)) ?_
 have ne:s.heap.objs.size≠s.heap.objs.size + 1:=O4 (B5v _)
 refine⟨by rw[B4 ne,B2],J7 _,ne,e2,λ_=>none,(Heap.Ns1.of_empty e3).at λo q=>K2 _ q,λ_=>True.intro,λy hy=>absurd rfl hy⟩
theorem C34 {prog:Program} {w:World} {env:Env} {e:Expr} {f:Str} {pos:Pos} {s:Shared} {Q:Value->Shared->Prop} (hb:attributeBase e f env (eval e env)=eval e env)
  (h:wpAny (model prog w) A (eval e env) (λo s₁=>wpAny (model prog w) A (getAttr o f true) Q E s₁) E s):wpAny (model prog w) A (eval (.Attribute e f pos) env) Q E s:=
 Attribute_any_ h (by rw[arm_eval_Attribute,hb])
end
def C35 (K:B0) (ta:TE) (f:Str):TE:=fun σ H Q=>ta σ H λx H1=>∃a C dx fs v,x=.ref a/\H1 a=some (.ins C dx fs)/\Cls K C/\l7 K C f/\fs.lookup f=some v/\Q v H1
def C36 (K:B0) (ta tv:TE) (f:Str):TS:=λD σ H=>tv σ H λy H1=>ta σ H1 λx H2=>∃a C dx fs,x=.ref a/\H2 a=some (.ins C dx fs)/\Cls K C/\l7 K C f/\fs.length < 1000/\
 D.nx σ (upd H2 a (.ins C dx (P4 f y fs)))
section
variable {X:Cx} {o e value:Expr} {f:Str} {pos pos' tpos:Pos} {ta tv:TE}
theorem N6 (he:PE X e ta) (hb:attributeBase e f X.env (eval e X.env)=eval e X.env):PE X (.Attribute e f pos) (C35 X.K ta f):=by
 intro pins s σ H Q I h
 refine C34 hb (thn (he pins s σ H _ I h) λu s1 zz93=>zz93.elim λx zz94=>zz94.elim λH1 zz95=>zz95.elim λI1 zz96=>zz96.elim λrx zz97=>zz97.elim λa zz98=>zz98.elim λC zz99=>zz99.elim λdx zz100=>zz100.elim λfs zz101=>zz101.elim λv zz102=>zz102.elim λex zz103=>zz103.elim λea zz104=>zz104.elim λc zz105=>zz105.elim λn zz106=>zz106.elim λl q=>?_)
 subst ex
 obtain rfl:u=Value.ref a:=rx
 exact C32 I1 ea c n l λu' s2 I2 ru=>⟨v,H1,I2,ru,q⟩
theorem A1k (ha:PE X o ta) (hv:PE X value tv) (hs:swapsWith value (some (.Attribute o f pos')) pos.line X.env=pure false):PS X (.Assign [.Attribute o f pos'] value pos) (C36 X.K ta tv f):=by
 intro pins s σ H D I h
 refine plainObj_wpAny_Assign_Attribute (thn (hv pins s σ H _ I h) λu s1 zz122=>el5 zz122 λy H1 I1 ry q=>thn (ha pins s1 σ H1 _ I1 q) λov s2 zz123=>zz123.elim λx zz124=>zz124.elim λH2 zz125=>zz125.elim λI2 zz126=>zz126.elim λrx zz127=>zz127.elim λa zz128=>zz128.elim λC zz129=>zz129.elim λdx zz130=>zz130.elim λfs zz131=>zz131.elim λex zz132=>zz132.elim λea zz133=>zz133.elim λc zz134=>zz134.elim λn zz135=>zz135.elim λl q2=>?_) hs
 subst ex
 obtain rfl:ov=Value.ref a:=rx
 exact C33 I2 ea c n l ry λs3 I3=>⟨σ,_,I3,q2⟩
end
section
variable {X:Cx} {pins:List (Addr×Obj)} {σ:St} {H:Hp} {s:Shared} {A:Around} {E:Value->Shared->Prop} {Q:Value->Shared->Prop} {c:Value} {b:Bool}
inductive W5 (K:B0) (H:Hp):V->Value->Prop where
 | non:W5 K H .non (.type "NoneType")
 | bl (x:Bool):W5 K H (.bl x) (.type "bool")
 | int (i:Int):W5 K H (.int i) (.type "int")
 | str (x:Str):W5 K H (.str x) (.type "str")
 | flt (x:UInt64):W5 K H (.flt x) (.type "float")
 | lst {a:Addr} {xs:List V} (e:H a=some (.lst xs)):W5 K H (.ref a) (.type "list")
 | frz {a:Addr} {o:Obj} {xs:List V} (e:H a=some (.frz o (.lst xs))):W5 K H (.ref a) (.type "list")
 | tup {a:Addr} {xs:List V} (e:H a=some (.tup xs)):W5 K H (.ref a) (.type "tuple")
 | dK {a:Addr} {kvs:List (Key×V)} (e:H a=some (.dK kvs)):W5 K H (.ref a) (.type "dict")
 | dT {a:Addr} {kvs:List (List Key×V)} (e:H a=some (.dT kvs)):W5 K H (.ref a) (.type "dict")
 | ins {a C dx:Addr} {fs:List (Str×V)} (e:H a=some (.ins C dx fs)) (cl:Cls K C) (ha:p7 K (.ref C) "__class__" = some (some (.builtin "object.__class__")))
   (hn:PySem.W.specialIn K (.builtin "object.__class__") "__get__" = some (some (.builtin "getset_descriptor.__get__"))) (htk:PySem.W.takesIn K (.builtin "object.__class__")=some true)
   (hm:PySem.W.mroIn K C (.type "object")=some true):W5 K H (.ref a) (.ref C)
theorem B6r {x:V} {u t:Value} (I:Inv X pins σ H s) (rx:E2 x u) (ty:W5 X.K H x t) (e:X4 X.K t c=some b) (h:∀tk,Q (.bool b) { s with toks:=tk }) :
  wpAny (model X.prog X.w) A (call (.builtin "isinstance") [u,c]) Q E s:=by
 cases ty with
 | non=>cases (show u=Value.none from rx);exact p8 PySem.W.kitx_none I.kIn True.intro e (λz=>nomatch z) h
 | bl y=>cases (show u=Value.bool y from rx);exact p8 PySem.W.kitx_bool I.kIn True.intro e (λz=>nomatch z) h
 | int i=>obtain⟨t,q⟩:=(show ∃t,u=Value.int i t from rx);cases q;exact p8 PySem.W.kitx_int I.kIn True.intro e (λz=>nomatch z) h
 | str y=>obtain⟨t,q⟩:=(show ∃t,u=Value.str y t from rx);cases q;exact p8 PySem.W.kitx_str I.kIn True.intro e (λz=>nomatch z) h
 | flt y=>obtain⟨t,q⟩:=(show ∃t,u=Value.float y t from rx);cases q;exact p8 PySem.W.kitx_float I.kIn True.intro e (λz=>nomatch z) h
 | @lst a xs ea=>
  cases (show u=Value.ref a from rx)
  obtain⟨_,_,n,_,h1⟩:=(show K3 X.prog X.w H s.heap a (.lst xs) from I.hok a _ ea)
  exact p8 PySem.W.kitx_list I.kIn ⟨_,h1,rfl⟩ e (λz=>nomatch z) h
 | @frz a ob xs ea=>
  cases (show u=Value.ref a from rx)
  obtain⟨_,_,_,n,_,h1⟩:=(show K3 X.prog X.w H s.heap a (.frz ob (.lst xs)) from I.hok a _ ea)
  exact p8 PySem.W.kitx_list I.kIn ⟨_,h1,rfl⟩ e (λz=>nomatch z) h
 | @tup a xs ea=>
  cases (show u=Value.ref a from rx)
  obtain⟨_,_,_,p⟩:=(show K3 X.prog X.w H s.heap a (.tup xs) from I.hok a _ ea)
  obtain⟨o,h1,h2,_⟩:=p
  exact p8 PySem.W.kitx_tuple I.kIn ⟨o,h1,h2⟩ e (λz=>nomatch z) h
 | @dK a kvs ea=>
  cases (show u=Value.ref a from rx)
  obtain⟨_,_,vs,_,p⟩:=(show K3 X.prog X.w H s.heap a (.dK kvs) from I.hok a _ ea)
  obtain⟨o,es,ep,h1,h2,_⟩:=p
  exact p8 PySem.W.kitx_dict I.kIn ⟨o,h1,h2.1⟩ e (λz=>nomatch z) h
 | @dT a kvs ea=>
  cases (show u=Value.ref a from rx)
  obtain⟨_,_,xs,_,o,es,ep,h1,h2,_⟩:=(show K3 X.prog X.w H s.heap a (.dT kvs) from I.hok a _ ea)
  exact p8 PySem.W.kitx_dict I.kIn ⟨o,h1,h2.1⟩ e (λz=>nomatch z) h
 | @ins a C dx fs ea cl ha hn htk hm=>
  cases (show u=Value.ref a from rx)
  obtain⟨mA,O,_⟩:=A8u I.hok ea
  obtain⟨od,J,_⟩:=O.look
  exact p8 (PySem.W.kitx_own (cl.get _) cl.hd ha hn htk hm) I.kIn J e (λz=>nomatch z) h
end
structure N9 (k:Nat) (A:Around):Prop where
 hd:A.handled=none
 dp:A.depth + 3 * k + 5 < recursionLimit
 un:A.units + 16 * k + 200 < cLine
 gd:A.guards=some []
theorem N9.mono {j k:Nat} {A:Around} (r:N9 k A) (h:j<=k):N9 j A:=⟨r.hd,by have:=r.dp;lia,by have:=r.un;lia,r.gd⟩
theorem N9.deeper {k:Nat} {A:Around} (r:N9 (k + 1) A) (env:Env):N9 k (A.deeper env):=
 ⟨r.hd,by have:=r.dp;show A.depth + 1 + 3 * k + 5 < _;lia,by have:=r.un;show A.units + 3 + 16 * k + 200 < _;lia,r.gd⟩
theorem C37 {A:Around} {C:Addr} {us:List Value} {kw:List (Str×Value)}:(A.under (.builtin "type.__call__" ⟨.ref C::us,kw⟩)).depth=A.depth + 1:=by
 first | rfl | simp [Around.under,Code.weight,Code.isCreation,Code.isGuard,Code.isCaller,Code.frames,Code.isFrame,guardIds]
theorem C38 {A:Around} {C:Addr} {us:List Value} {kw:List (Str×Value)}:(A.under (.builtin "type.__call__" ⟨.ref C::us,kw⟩)).units=A.units + 1:=by
 first | rfl | simp [Around.under,Code.cUnits,Code.frames,Code.isFrame]
theorem N9.make {k:Nat} {A:Around} (r:N9 (k + 1) A) (C:Addr) (us:List Value) (kw:List (Str×Value)):N9 k (A.under (.builtin "type.__call__" ⟨.ref C::us,kw⟩)):=
 ⟨r.hd,by have:=r.dp;rw[C37];lia,by have:=r.un;rw[C38];lia,by first | exact r.gd | (show pushGuards _ A.guards=_;rw[r.gd];rfl)⟩
theorem N9.depth {k:Nat} {A:Around} (r:N9 k A):A.depth < recursionLimit:=by have:=r.dp;lia
theorem N9.units {k:Nat} {A:Around} (r:N9 k A):A.units + 64 < cLine:=by have:=r.un;lia
def V1:TA:=λ_ H Q=>Q [] H
def W6 (ta:TE) (tr:TA):TA:=fun σ H Q=>ta σ H λx H1=>tr σ H1 λxs H2=>Q (x::xs) H2
section
variable {X:Cx} {e:Expr} {es:List Expr} {te:TE} {t:TA} {pos:Pos}
theorem A4:PA X [] V1:=λ_ _ _ _ H Q I h=>Calls.spliced_nil ⟨[],H,I,.nil,h⟩
theorem A2 (ha:PE X e te) (hr:PA X es t) (hs:autoParam (starEach (e::es) X.env=(false,eval e X.env)::starEach es X.env) RF._auto_1):PA X (e::es) (W6 te t):=by
 intro pos pins s σ H Q I h
 rw[hs]
 show wpAny _ _ (spliced ((false,eval e X.env)::backTo pos (starEach es X.env))) _ _ s
 refine Calls.spliced_cons (thn (ha pins s σ H _ I h) λu s1 zz173=>el5 zz173 λx H1 I1 r1 q1=>?_)
 exact thn (hr pos pins s1 σ H1 _ I1 q1) λus s2 zz174=>el5 zz174 λxs H2 I2 r2 q2=>⟨x::xs,H2,I2,.cons r1 r2,q2⟩
def C39 (t:TA):TE:=fun σ H Q=>t σ H λxs H1=>xs.length<=sizeLine/\∀p,H1 p=none->Q (.ref p) (upd H1 p (.tup xs))
def B6s (t:TA):TE:=fun σ H Q=>t σ H λxs H1=>xs.length<=sizeLine/\∀p,H1 p=none->Q (.ref p) (upd H1 p (.lst xs))
theorem Q0 {x1} (h:PA X es t):PE X (.Tuple es x1 pos) (C39 t):=by
 intro pins s σ H Q I hq
 refine wpAny_Tuple_spliced (thn (h pos pins s σ H _ I hq) λus s1 zz175=>zz175.elim λxs zz176=>zz176.elim λH1 zz177=>zz177.elim λI1 zz178=>zz178.elim λr zz179=>zz179.elim λz q=>⟨by rw[<-r.length];exact z,?_⟩)
 have hf:H1 s1.heap.objs.size=none:=I1.hok.fresh (E1 _)
 refine⟨.ref s1.heap.objs.size,upd H1 s1.heap.objs.size (.tup xs),I1.laid (t':=s1.toks) (λb u e=>K2 _ e) (E1 _) ?_,rfl,q _ hf⟩
 exact⟨z,us,r,⟨_,O5 _ rfl,rfl,_,rfl⟩⟩
theorem V2 (h:PA X es t):PE X (.List es pos) (B6s t):=by
 intro pins s σ H Q I hq
 refine wpAny_List_spliced (thn (h pos pins s σ H _ I hq) λus s1 zz180=>zz180.elim λxs zz181=>zz181.elim λH1 zz182=>zz182.elim λI1 zz183=>zz183.elim λr zz184=>zz184.elim λz q=>⟨by rw[<-r.length];exact z,?_⟩)
 have hf:H1 s1.heap.objs.size=none:=I1.hok.fresh (E1 _)
 refine⟨.ref s1.heap.objs.size,upd H1 s1.heap.objs.size (.lst xs),I1.laid (t':=s1.toks) (λb u e=>K2 _ e) (E1 _) ?_,rfl,q _ hf⟩
 exact⟨z,us,0,r,O5 _ rfl⟩
end
abbrev Sp:=List V->Hp->VK->XK->Prop
abbrev CXT:=List Env->Hp->Shared->XK->Value->Shared->Prop
structure A2m (P:Program) (w:World) (K:B0) (mg:Str->Option Value) (base:Heap) (A:Around) (outer:List Env) (s:Shared) (H:Hp):Prop where
 frames:A.frames=some outer
 mod:Mod K mg base
 bs:∀b o,base.get? b=some o->s.heap.get? b=some o/\H b=none
 bsz:base.objs.size<=s.heap.objs.size
 funs:s.heap.FunFrames base outer
 frf:∀b∈frs outer,H b=none
 hok:HOk P w H s.heap
 bare:AllBare s.gens
def CE (outer:List Env) (P:Program) (w:World) (H:Hp) (s:Shared) (Q:VK) (u:Value) (s':Shared):Prop:=
 ∃v H',s'.os=s.os/\AllBare s'.gens/\Un (frs outer) [] H H' s.heap s'.heap/\HOk P w H' s'.heap/\E2 v u/\Q v H'
def CR (CX:CXT) (outer:List Env) (P:Program) (w:World) (H:Hp) (s:Shared) (Q:VK) (E:XK) (r:Result) (s':Shared):Prop:=
 match r with
 | .ok (.ret u)=>CE outer P w H s Q u s'
 | .ok _=>False
 | .error e=>CX outer H s E e s'
structure C0 (P:Program) (w:World) (K:B0) (mg:Str->Option Value) (base:Heap) (CX:CXT) (k:Nat) (f:Addr) (fd:FuncData) (ps:List Str) (sp:Sp):Prop where
 len:∀vs H Q E,sp vs H Q E->vs.length=ps.length
 run:∀(A:Around) (outer:List Env) (s:Shared) (H:Hp) (args:Args) (us:List Value) (vs:List V) (Q:VK) (E:XK),N9 k A->A2m P w K mg base A outer s H->BindsTo s fd args (ps.zip us)->C4 vs us->sp vs H Q E->
  codeAny (model P w) A (.call (.ref f) args) (CR CX outer P w H s Q E) s
theorem C0.imp {P:Program} {w:World} {K:B0} {mg:Str->Option Value} {base:Heap} {CX:CXT} {k:Nat} {f:Addr} {fd:FuncData} {ps:List Str} {sp sp':Sp} (F:C0 P w K mg base CX k f fd ps sp)
  (h:∀vs H Q E,sp' vs H Q E->sp vs H Q E):C0 P w K mg base CX k f fd ps sp':=
 ⟨λvs H Q E q=>F.len vs H Q E (h _ _ _ _ q),λA outer s H args us vs Q E hr he hb hv hs=>F.run A outer s H args us vs Q E hr he hb hv (h _ _ _ _ hs)⟩
theorem A2m.make {P:Program} {w:World} {K:B0} {mg:Str->Option Value} {base:Heap} {A:Around} {outer:List Env} {s:Shared} {H:Hp} (e:A2m P w K mg base A outer s H) (C:Addr) (us:List Value) (kw:List (Str×Value)) :
  A2m P w K mg base (A.under (.builtin "type.__call__" ⟨.ref C::us,kw⟩)) outer s H:=⟨by first | exact e.frames | (simpa [Around.under,Code.envs,Code.isFrame,pushEnvs] using e.frames),e.mod,e.bs,e.bsz,e.funs,e.frf,e.hok,e.bare⟩
section
variable {X:Cx} {pins:List (Addr×Obj)} {σ:St} {H:Hp} {s s':Shared}
theorem Inv.env0 (I:Inv X pins σ H s):A2m X.prog X.w X.K X.mg X.base X.A X.stack s H:=
 ⟨I.ok.frames,I.ok.mod,I.bs,T8 I.ok.bsz I.sz,I.stack,I.stkFree,I.hok,I.bare⟩
theorem Inv.after {Q:VK} {u:Value} (I:Inv X pins σ H s) (h:CE X.stack X.prog X.w H s Q u s'):EP X pins σ Q u s':=by
 obtain⟨v,H',os,bare,un,hok,r,q⟩:=h
 obtain⟨hh,g,d,t,os'⟩:=s'
 obtain rfl:os'=s.os:=os
 exact⟨v,H',I.call (h':=hh) (g':=g) (d':=d) (t':=t) (ch:=[]) un hok bare (λb z=>absurd z (by simp)),r,q⟩
end
def B1m (sp:Sp) (dvs:List V) (E:XK) (t:TA):TE:=fun σ H Q=>t σ H λvs H1=>sp (vs++dvs) H1 Q E
def B6t (C:Addr) (m:Str) (sp:Sp) (dvs:List V) (E:XK) (ta:TE) (t:TA):TE:=fun σ H Q=>ta σ H λx H1=>∃a dx fs,x=.ref a/\H1 a=some (.ins C dx fs)/\fs.lookup m=none/\
 t σ H1 λvs H2=>sp (x::(vs++dvs)) H2 Q E
def C4a (C:Addr) (sp:Sp) (dvs:List V) (E:XK) (t:TA):TE:=fun σ H Q=>t σ H λvs H1=>∀x dx,H1 x=none->H1 dx=none->dx≠x->
 sp (.ref x::(vs++dvs)) (upd (upd H1 dx (.own x)) x (.ins C dx [])) (λv H2=>v=.non/\Q (.ref x) H2) E
def l8 (K:B0) (fd:FuncData) (ps:List Str) (ds:List Value):Prop:=
 ∀(s:Shared) (us:List Value),K.In s.heap->(us++ds).length=ps.length->BindsTo s fd ⟨us,[]⟩ (ps.zip (us++ds))
theorem l8.all {K:B0} {fd:FuncData} {ps:List Str} (h:∀us:List Value,us.length=ps.length->bindArgs fd ⟨us,[]⟩=pure (ps.zip us)):l8 K fd ps []:=λs us _ hl=>by
 rw[Y6] at hl ⊢
 exact .of_eq (h us hl)
def A2n (CX:CXT) (X:Cx) (E:XK):Prop:=∀(pins:List (Addr×Obj)) (σ:St) (H:Hp) (s:Shared) (e:Value) (s':Shared),Inv X pins σ H s->CX X.stack H s E e s'->X.xe e s'
section
variable {X:Cx} {CX:CXT} {k:Nat} {f C:Addr} {fd:FuncData} {ps:List Str} {sp:Sp} {dvs:List V} {ds:List Value} {E:XK} {x m:Str} {p pos apos:Pos} {e o:Expr} {es:List Expr} {ta:TE} {t:TA}
theorem B1n {pins:List (Addr×Obj)} {σ:St} {H:Hp} {s:Shared} {Q:VK} {us:List Value} {vs:List V} (F:C0 X.prog X.w X.K X.mg X.base CX k f fd ps sp) (hr:N9 k X.A) (hb:l8 X.K fd ps ds) (hd:C4 dvs ds) (hx:A2n CX X E)
  (I:Inv X pins σ H s) (r:C4 vs us) (h:sp (vs++dvs) H Q E):wpAny (model X.prog X.w) X.A (call (.ref f) us) (EP X pins σ Q) X.xe s:=by
 have r2:C4 (vs++dvs) (us++ds):=r.append hd
 have hl:(us++ds).length=ps.length:=by rw[<-r2.length];exact F.len _ _ _ _ h
 refine wpAny_call (codeAny_mono (F.run X.A X.stack s H ⟨us,[]⟩ (us++ds) (vs++dvs) Q E hr I.env0 (hb s us I.kIn hl) r2 h) λr s' hq=>?_)
 cases r with
 | error e=>exact hx pins σ H s e s' I hq
 | ok fl=>
  cases fl with
  | ret u=>exact I.after hq
  | next=>exact False.elim hq
  | brk=>exact False.elim hq
  | cont=>exact False.elim hq
theorem B3 (F:C0 X.prog X.w X.K X.mg X.base CX k f fd ps sp) (hr:N9 k X.A) (hg:Gl X x) (hm:X.mg x=some (.ref f)) (hk:A6a X.K (.ref f)=true) (hb:l8 X.K fd ps ds) (hd:C4 dvs ds) (hx:A2n CX X E)
  (ha:PA X (e::es) t) (hdb:autoParam ((x == ("__debug__" : Str))=false) DD._auto_1) (he:autoParam (starEach (e::es) X.env=(false,eval e X.env)::starEach es X.env) RF._auto_1) (hpl:autoParam ((backTo pos (starEach es X.env)).any (·.1)=false) RF._auto_1) :
  PE X (.Call (.Name x p) (e::es) [] pos) (B1m sp dvs E t):=by
 intro pins s σ H Q I h
 refine wpAny_Call_Name_kw (B09 I hg hm ?_ hdb)
 refine C2f (h₀:=X.base) I.ok.mod.kin hk (thn (ha pos pins s σ H _ I h) λus s1 zz185=>el5 zz185 λvs H1 I1 r q=>⟨I1.kIn,?_⟩) he hpl
 exact B1n F hr hb hd hx I1 r q
theorem m5 {pl:Sem Bool} (he:PE X o ta) (c:Cls X.K C) (hm:A8v X.K C m f) (F:C0 X.prog X.w X.K X.mg X.base CX k f fd ps sp) (hr:N9 k X.A) (hb:l8 X.K fd ps ds) (hd:C4 dvs ds) (hx:A2n CX X E) (ha:PA X (e::es) t)
  (hst:autoParam (starEach (e::es) X.env=(false,eval e X.env)::starEach es X.env) RF._auto_1) (hpl:autoParam ((backTo pos (starEach es X.env)).any (·.1)=false) RF._auto_1)
  (ht:eval (.Call (.Attribute o m apos) (e::es) [] pos) X.env=(do
   let ov <-eval o X.env
   standAt apos.atName
   let (f,first) <-holding [ov] (getMethod ov m pl)
   callWith pos f first (backTo pos (starEach (e::es) X.env)) (backToKw pos (keywordEach [] X.env))):=by rfl) :
  PE X (.Call (.Attribute o m apos) (e::es) [] pos) (B6t C m sp dvs E ta t):=by
 intro pins s σ H Q I h
 refine PySem.W.methodCall_KW (pl:=pl) (thn (he pins s σ H _ I h) λu s1 zz186=>zz186.elim λx zz187=>zz187.elim λH1 zz188=>zz188.elim λI1 zz189=>zz189.elim λrx zz190=>zz190.elim λa zz191=>zz191.elim λdx zz192=>zz192.elim λfs zz193=>zz193.elim λex zz194=>zz194.elim λea zz195=>zz195.elim λl q=>?_) ht
 subst ex
 obtain rfl:u=Value.ref a:=rx
 refine B6q I1 ea c hm l ?_
 refine C2f (first:=[.ref a]) (h₀:=X.base) I.ok.mod.kin hm.kp (thn (ha pos pins s1 σ H1 _ I1 q) λus s2 zz196=>el5 zz196 λvs H2 I2 r q2=>⟨I2.kIn,?_⟩) hst hpl
 exact B1n (us:=.ref a::us) (vs:=.ref a::vs) F hr hb hd hx I2 (.cons rfl r) q2
theorem Z3 {pl:Sem Bool} (he:PE X o ta) (c:Cls X.K C) (hm:A8v X.K C m f) (F:C0 X.prog X.w X.K X.mg X.base CX k f fd ps sp) (hr:N9 k X.A) (hb:l8 X.K fd ps ds) (hd:C4 dvs ds) (hx:A2n CX X E)
  (ht:eval (.Call (.Attribute o m apos) [] [] pos) X.env=(do
   let ov <-eval o X.env
   standAt apos.atName
   let (f,first) <-holding [ov] (getMethod ov m pl)
   callWith pos f first (backTo pos (starEach [] X.env)) (backToKw pos (keywordEach [] X.env))):=by rfl) :
  PE X (.Call (.Attribute o m apos) [] [] pos) (B6t C m sp dvs E ta V1):=by
 intro pins s σ H Q I h
 refine PySem.W.methodCall_KW (pl:=pl) (thn (he pins s σ H _ I h) λu s1 zz197=>zz197.elim λx zz198=>zz198.elim λH1 zz199=>zz199.elim λI1 zz200=>zz200.elim λrx zz201=>zz201.elim λa zz202=>zz202.elim λdx zz203=>zz203.elim λfs zz204=>zz204.elim λex zz205=>zz205.elim λea zz206=>zz206.elim λl q=>?_) ht
 subst ex
 obtain rfl:u=Value.ref a:=rx
 refine B6q I1 ea c hm l ?_
 exact PySem.W.callWith_K0 (first:=[.ref a]) I1.kIn hm.kp (B1n (us:=[.ref a]) (vs:=[.ref a]) F hr hb hd hx I1 (.cons rfl .nil) q)
structure Mk (K:B0) (C f:Addr):Prop where
 makes:PySem.W.makesIn K C=true
 init:p7 K (.ref C) "__init__" = some (some (.ref f))
 fn:PySem.W.isFn K (.ref f)=true
 kp:A6a K (.ref C)=true
theorem C4b {pins:List (Addr×Obj)} {σ:St} {H:Hp} {s:Shared} {Q:VK} {us:List Value} {vs:List V} (M:Mk X.K C f) (F:C0 X.prog X.w X.K X.mg X.base CX k f fd ps sp) (hr:N9 (k + 1) X.A) (hb:l8 X.K fd ps ds) (hd:C4 dvs ds)
  (hx:A2n CX X E) (I:Inv X pins σ H s) (r:C4 vs us)
  (h:∀x dx,H x=none->H dx=none->dx≠x->sp (.ref x::(vs++dvs)) (upd (upd H dx (.own x)) x (.ins C dx [])) (λv H2=>v=.non/\Q (.ref x) H2) E) :
  wpAny (model X.prog X.w) X.A (call (.ref C) us) (EP X pins σ Q) X.xe s:=by
 have hq:=h (s.heap.objs.size + 1) s.heap.objs.size (I.hok.fresh (A0q _)) (I.hok.fresh (E1 _)) (O4 (B5v _))
 have I2:=Inv.made (C:=C) I
 have r2:C4 (V.ref (s.heap.objs.size + 1)::(vs++dvs)) (Value.ref (s.heap.objs.size + 1)::(us++ds)):=.cons rfl (r.append hd)
 have hl:(Value.ref (s.heap.objs.size + 1)::us++ds).length=ps.length:=by
  have e:=r2.length
  rw[F.len _ _ _ _ hq] at e
  exact e.symm
 refine wpAny_call (C30 (f:=f) I.kIn M.makes M.init (beq_iff_eq.mp M.fn) (codeAny_mono (F.run _ X.stack _ _ ⟨Value.ref (s.heap.objs.size + 1)::us,[]⟩ (Value.ref (s.heap.objs.size + 1)::(us++ds)) _ _ E (hr.make C us [])
  (I2.env0.make C us []) (hb _ (Value.ref (s.heap.objs.size + 1)::us) I2.kIn hl) r2 hq) λr s' hq'=>?_))
 cases r with
 | error e=>exact hx pins σ _ _ e s' I2 hq'
 | ok fl=>
  cases fl with
  | ret u=>
   obtain⟨v,H',I3,rv,ev,q3⟩:=I2.after hq'
   subst ev
   exact⟨rv,⟨V.ref (s.heap.objs.size + 1),H',I3,rfl,q3⟩⟩
  | next=>exact False.elim hq'
  | brk=>exact False.elim hq'
  | cont=>exact False.elim hq'
theorem B6u (M:Mk X.K C f) (F:C0 X.prog X.w X.K X.mg X.base CX k f fd ps sp) (hr:N9 (k + 1) X.A) (hg:Gl X x) (hm:X.mg x=some (.ref C)) (hb:l8 X.K fd ps ds) (hd:C4 dvs ds) (hx:A2n CX X E)
  (ha:PA X (e::es) t) (hdb:autoParam ((x == ("__debug__" : Str))=false) DD._auto_1) (he:autoParam (starEach (e::es) X.env=(false,eval e X.env)::starEach es X.env) RF._auto_1) (hpl:autoParam ((backTo pos (starEach es X.env)).any (·.1)=false) RF._auto_1) :
  PE X (.Call (.Name x p) (e::es) [] pos) (C4a C sp dvs E t):=by
 intro pins s σ H Q I h
 refine wpAny_Call_Name_kw (B09 I hg hm ?_ hdb)
 refine C2f (h₀:=X.base) I.ok.mod.kin M.kp (thn (ha pos pins s σ H _ I h) λus s1 zz207=>el5 zz207 λvs H1 I1 r q=>⟨I1.kIn,?_⟩) he hpl
 exact C4b M F hr hb hd hx I1 r q
end
section
variable {X:Cx} {CX:CXT} {k:Nat} {f C:Addr} {fd:FuncData} {ps ks:List Str} {sp:Sp} {E:XK} {x m:Str} {p pos apos kpos:Pos} {e o:Expr} {es:List Expr} {kws:List Keyword} {te ta:TE} {t tk:TA} {nm:Option Str}
variable {g:List Value->List Value->List Value} {gV:List V->List V->List V}
end
structure D2 (N P:List Str) (sc:Scope):Prop where
 kind:sc.kind=.function
 co:sc.isCoroutine=false
 gen:sc.isGenerator=false
 nd:N.Nodup
 pre:N.take P.length=P
 par:∀x∈P,sc.names.lookup x=some .local\/sc.names.lookup x=some .cell
 nofree:∀y∈sc.names,y.2≠.free
theorem B6v {kindOf:Str->Option NameKind} {x:Str}:∀{binds:List (Str×Value)} {m:Str->Option Value},(∀v,(x,v)∉binds)->bindL kindOf binds m x=m x
 | [],_,_=>rfl
 | (n,v)::r,m,h=>by
  unfold bindL
  rw[B6v λw hw=>h w (C8 _ hw)]
  split
  ·have:x≠n:=by rintro rfl;exact h v D4
   simp [this]
  ·rfl
theorem B6w {kindOf:Str->Option NameKind} {x:Str}:∀{binds:List (Str×Value)} {m:Str->Option Value},(∀v,(x,v)∉binds)->bindC kindOf binds m x=m x
 | [],_,_=>rfl
 | (n,v)::r,m,h=>by
  unfold bindC
  rw[B6w λw hw=>h w (C8 _ hw)]
  split
  ·rfl
  ·have:x≠n:=by rintro rfl;exact h v D4
   simp [this]
theorem B6x {kindOf:Str->Option NameKind} {x:Str} {v:Value}:∀{P:List Str} {vs:List Value} {i:Nat} {m:Str->Option Value},P.Nodup->P[i]?=some x->vs[i]?=some v->kindOf x=some .local->
  bindL kindOf (P.zip vs) m x=some v
 | [],_,_,_,_,h,_,_=>by simp at h
 | _::_,[],_,_,_,_,h,_=>by simp at h
 | p::P,w::vs,0,m,nd,h1,h2,hk=>by
  simp at h1 h2;subst h1;subst h2
  show bindL kindOf ((p,w)::P.zip vs) m p=_
  unfold bindL
  rw[B6v λv hv=>(g8.mp nd).1 (List.of_mem_zip hv).1,if_pos hk]
  simp
 | p::P,w::vs,i + 1,m,nd,h1,h2,hk=>by
  show bindL kindOf ((p,w)::P.zip vs) m x=_
  unfold bindL
  exact B6x (i:=i) (g8.mp nd).2 (by simpa using h1) (by simpa using h2) hk
theorem B6y {kindOf:Str->Option NameKind} {x:Str} {v:Value}:∀{P:List Str} {vs:List Value} {i:Nat} {m:Str->Option Value},P.Nodup->P[i]?=some x->vs[i]?=some v->kindOf x≠some .local->
  bindC kindOf (P.zip vs) m x=some v
 | [],_,_,_,_,h,_,_=>by simp at h
 | _::_,[],_,_,_,_,h,_=>by simp at h
 | p::P,w::vs,0,m,nd,h1,h2,hk=>by
  simp at h1 h2;subst h1;subst h2
  show bindC kindOf ((p,w)::P.zip vs) m p=_
  unfold bindC
  rw[B6w λv hv=>(g8.mp nd).1 (List.of_mem_zip hv).1,if_neg hk]
  simp
 | p::P,w::vs,i + 1,m,nd,h1,h2,hk=>by
  show bindC kindOf ((p,w)::P.zip vs) m x=_
  unfold bindC
  exact B6y (i:=i) (g8.mp nd).2 (by simpa using h1) (by simpa using h2) hk
def start (N:List Str) (vs:List V):St:=vs.map some++E5 (N.length - vs.length) none
def N1 (CX:CXT) (P:Program) (w:World) (K:B0) (mg:Str->Option Value) (base:Heap) (N:List Str) (qual:Str) (scope:Scope) (f:Addr) (cd:Value) (A:Around) (outer:List Env) (s:Shared) (H:Hp) (E:XK):Cx where
 prog:=P
 w:=w
 K:=K
 mg:=mg
 base:=base
 A:=A.deeper (envOfC qual scope s.heap.objs.size f cd)
 N:=N
 s₀:=s
 H₀:=H
 env:=envOfC qual scope s.heap.objs.size f cd
 outer:=outer
 stack:=envOfC qual scope s.heap.objs.size f cd::outer
 ex:=[]
 calm:=true
 fn:=λ_=>true
 pn:=[]
 xe:=λe s'=>wpAny (model P w) (A.deeper (envOfC qual scope s.heap.objs.size f cd)) (leaving (envOfC qual scope s.heap.objs.size f cd) e) (λ_ s''=>CX outer H s E e s'') (λe' s''=>CX outer H s E e' s'') s'
theorem B6z {sc:Scope} {n:Nat} {x:Str} (h:sc.names.lookup x=some .cell):∃c,(cellsFrom n sc.names []).lookup x=some c:=by
 have q:=PySem.W.cellsFrom_some sc.names n [] (.inl h)
 exact Option.isSome_iff_exists.mp q
theorem C4c {CX:CXT} {P:Program} {w:World} {K:B0} {mg:Str->Option Value} {base:Heap} {N ps:List Str} {qual:Str} {scope:Scope} {f:Addr} {cd:Value} {A:Around} {outer:List Env} {s s1:Shared} {H:Hp} {E:XK} {us:List Value} {vs:List V}
  (S:D2 N ps scope) (hd:A.handled=none) (e0:A2m P w K mg base A outer s H) (hl:vs.length=ps.length) (r:C4 vs us)
  (x:InCallC s s.heap.objs.size (bindL (envOfC qual scope s.heap.objs.size f cd).kindOf (ps.zip us) λ_=>none) (cellsFrom (s.heap.objs.size + 1) scope.names []) (bindC (envOfC qual scope s.heap.objs.size f cd).kindOf (ps.zip us) λ_=>none) s1) :
  Inv (N1 CX P w K mg base N qual scope f cd A outer s H E) [] (start N vs) H s1:=by
 have hpl:ps.length<=N.length:=by have:=congrArg A6b S.pre;rw[b4] at this;lia
 obtain⟨h1,tk,rfl,hk⟩:=x.done
 have noA:∀b:Addr,b∉(N1 CX P w K mg base N qual scope f cd A outer s H E).ex:=λb z=>absurd (show b∈([]:List Addr) from z) (by simp)
 refine⟨⟨e0.mod,S.kind,rfl,rfl,E1 _,λy z c h1 h2=>?_,λy hy=>?_,λy c _ h=>?_,λ_=>hd,Around.frames_deeper e0.frames,.inr ⟨rfl,rfl⟩,λb z=>absurd z (noA b),e0.bs,e0.bsz,λb _ _=>noA b,λb z=>absurd z (noA b),e0.funs,e0.frf⟩,
  rfl,e0.bare,Un.kept hk,⟨_,x.toInCall.ns,λi y v h1 h2 h3=>?_⟩,λy c h=>⟨_,x.cell y c h⟩,e0.hok.fresh (E1 _),λy c h=>?_,λp hp=>absurd (show p∈([]:List (Addr×Obj)) from hp) (by simp),e0.hok.kept hk,?_⟩
 ·exact name_of_addr x.apart (B00 h1) (B00 h2)
 ·have hy:scope.names.lookup y=some .cell\/scope.names.lookup y=some .free:=hy
  rcases hy with hy | hy
  ·exact B6z hy
  ·exact absurd rfl (S.nofree _ (B00 hy))
 ·exact A58 (x.above y c (B00 h))
 ·have hi:i < vs.length:=by
   unfold start at h2
   by_cases hi:i < vs.length
   ·exact hi
   ·rw[A6c (by simpa using hi)] at h2
    rw[B5w] at h2
    split at h2 <;> cases h2
  have ha:vs[i]?=some v:=by
   unfold start at h2
   rw[A4j (by simpa using hi),L8] at h2
   cases e:vs[i]? with
   | none=>rw[e] at h2;cases h2
   | some a=>rw[e] at h2;cases h2;rfl
  obtain⟨u,hu,rv⟩:=r.get ha
  have hp:ps[i]?=some y:=by
   rw[<-S.pre,List.getElem?_take_of_lt (by lia)];exact h1
  have ndP:ps.Nodup:=by rw[<-S.pre];exact S.nd.sublist (List.take_sublist _ _)
  refine⟨u,rv,?_⟩
  rcases S.par y (Q9 hp) with k | k
  ·exact .inl ⟨k,B6x ndP hp hu k⟩
  ·obtain⟨c,e⟩:=B6z (n:=s.heap.objs.size + 1) k
   refine .inr ⟨.inl k,c,e,?_⟩
   have q:=x.cell y c e
   rw[B6y ndP hp hu (by show scope.names.lookup y≠_;rw[k];decide)] at q
   exact q
 ·exact e0.hok.fresh (A58 (x.above y c (B00 h)))
 ·unfold start
  show _=N.length
  rw[P0,C1,A1g]
  lia
theorem C4d {CX:CXT} {P:Program} {w:World} {K:B0} {mg:Str->Option Value} {base:Heap} {k:Nat} {f:Addr} {name qual:Str} {params:Arguments} {body:List Stmt} {scope:Scope} {dV kV doc pm cdv ct oc:Value} {an od:Option Addr}
  {osl:Array (Option Value)} {N ps:List Str} {sp:Sp} (lk:K.lookup f=some ⟨oc,od,.func (A2d name qual params body scope dV kV doc pm an cdv ct),osl⟩) (hcd:B5x K cdv qual=true) (S:D2 N ps scope)
  (len:∀vs H Q E,sp vs H Q E->vs.length=ps.length)
  (hbody:∀(A:Around) (outer:List Env) (s:Shared) (H:Hp) (vs:List V) (Q:VK) (E:XK),N9 k (A.deeper (envOfC qual scope s.heap.objs.size f cdv))->sp vs H Q E->
   ∃t,PSs (N1 CX P w K mg base N qual scope f cdv A outer s H E) body t/\t { nx:=λ_ H'=>Q .non H',rt:=Q } (start N vs) H) :
  C0 P w K mg base CX (k + 1) f (A2d name qual params body scope dV kV doc pm an cdv ct) ps sp:=by
 refine⟨len,λA outer s H args us vs Q E hr e0 hb r hsp=>?_⟩
 have hl:=len _ _ _ _ hsp
 have KX:K.In s.heap:=e0.mod.kin.keeps λb o e=>(e0.bs b o e).1
 have lim:s.heap.NoLimit:=e0.mod.nolimit.keeps λb o e=>(e0.bs b o e).1
 have hkind:∀y∈ps.zip us,scope.names.lookup y.1=some .local\/(scope.names.lookup y.1=some .cell/\((cellsFrom (s.heap.objs.size + 1) scope.names []).lookup y.1).isSome=true):=λ⟨n,v⟩ hy=>by
  rcases S.par n (List.of_mem_zip hy).1 with q | q
  ·exact .inl q
  ·exact .inr ⟨q,PySem.W.cellsFrom_some _ _ _ (.inl q)⟩
 refine codeAny_call_function hr.depth (KX _ _ lk) rfl S.co S.gen rfl (PySem.W.codeRec_of KX hcd) (hb _ _ _ _ ?_)
 refine wpAny_newFunctionEnv_cells S.kind hkind λenv he s1 x=>?_
 subst he
 refine⟨lim.keeps x.toInCall.keep,codeAny_func ?_⟩
 obtain⟨t,ht,hq⟩:=hbody A outer s H vs Q E (hr.deeper _) hsp
 have I:Inv (N1 CX P w K mg base N qual scope f cdv A outer s H E) [] (start N vs) H s1:=C4c S hr.hd e0 hl r x
 refine wpAny_mono (ht [] s1 (start N vs) H _ I hq) (λfl s' hs=>?_) λe s' hs=>hs
 have fin:∀{σ':St} {H':Hp} {v:V} {u:Value},Inv (N1 CX P w K mg base N qual scope f cdv A outer s H E) [] σ' H' s'->E2 v u->Q v H'->CE outer P w H s Q u s':=
  λ{σ' H' v u} J rv q=>⟨v,H',J.os,J.bare,J.base,J.hok,rv,q⟩
 cases fl with
 | ret u=>
  obtain⟨v,σ',H',J,rv,q⟩:=hs
  exact fin J rv q
 | next=>
  obtain⟨σ',H',J,q⟩:=hs
  exact fin (v:=V.non) (u:=Value.none) J rfl q
 | brk=>
  obtain⟨_,_,_,q⟩:=hs
  exact False.elim q
 | cont=>
  obtain⟨_,_,_,q⟩:=hs
  exact False.elim q
section
variable {X:Cx} {x:Str} {p pos:Pos} {e:Expr} {es:List Expr} {t:TA} {id T:String} {r:List V->Hp->VK->Prop}
def tCB (r:List V->Hp->VK->Prop) (t:TA):TE:=fun σ H Q=>t σ H λvs H1=>r vs H1 Q
theorem J8 (hc:U0 X (.builtin id) r) (hg:Gl X x) (hm:X.mg x=none) (hv:bootBuiltins x=some (.builtin id)) (ha:PA X (e::es) t) (hn:autoParam (x≠ "__name__" ) DD._auto_1) (hdb:autoParam ((x == ("__debug__" : Str))=false) DD._auto_1)
  (he:autoParam (starEach (e::es) X.env=(false,eval e X.env)::starEach es X.env) RF._auto_1) (hpl:autoParam ((backTo pos (starEach es X.env)).any (·.1)=false) RF._auto_1):PE X (.Call (.Name x p) (e::es) [] pos) (tCB r t):=by
 intro pins s σ H Q I h
 refine wpAny_Call_Name_kw (A0y I hg hm hv ?_ hn hdb)
 exact PyProof.Rows.callWith_builtin1 (thn (ha pos pins s σ H _ I h) λus s1 zz213=>el5 zz213 λvs H1 I1 r1 q1=>hc pins s1 σ H1 vs us Q I1 r1 q1) he hpl
theorem R8 (hc:U0 X (.type T) r) (hg:Gl X x) (hm:X.mg x=none) (hv:bootBuiltins x=some (.type T)) (ha:PA X (e::es) t) (hn:autoParam (x≠ "__name__" ) DD._auto_1) (hdb:autoParam ((x == ("__debug__" : Str))=false) DD._auto_1)
  (he:autoParam (starEach (e::es) X.env=(false,eval e X.env)::starEach es X.env) RF._auto_1) (hpl:autoParam ((backTo pos (starEach es X.env)).any (·.1)=false) RF._auto_1):PE X (.Call (.Name x p) (e::es) [] pos) (tCB r t):=by
 intro pins s σ H Q I h
 refine wpAny_Call_Name_kw (A0y I hg hm hv ?_ hn hdb)
 exact PyProof.Rows.callWith_type1 (thn (ha pos pins s σ H _ I h) λus s1 zz214=>el5 zz214 λvs H1 I1 r1 q1=>hc pins s1 σ H1 vs us Q I1 r1 q1) he hpl
end
end L2
namespace HT
open PySem PyProof.Rows
section
open PySem.SeqAt
open PySem.AutoSeq1 (wpAny_loadPart')
open PySem.MeetsSeq PySem.MeetsSeq2 PySem.MeetsSeq3
end
section
variable {prog:Program} {w:World} {A:Around} {E:Value->Shared->Prop} {s:Shared}
def sIx (n d:Nat):Option Int->Nat
 | none=>d
 | some v=>if v < 0 then (v + (n:Int)).toNat else min v.toNat n
theorem sIx_none (n d:Nat):sIx n d none=d:=rfl
theorem sIx_nat (n d k:Nat):sIx n d (some (k:Int))=min k n:=by
 show (if (k:Int) < 0 then ((k:Int) + (n:Int)).toNat else min (k:Int).toNat n)=min k n
 rw[if_neg (by lia),Int.toNat_natCast]
end
end HT
namespace L2
open PySem PySem.Spec PyProof.Rows
abbrev TO:=St->Hp->(Option Int->Hp->Prop)->Prop
def PO (X:Cx) (e:Option Expr) (t:TO):Prop:=
 ∀(pins:List (Addr×Obj)) (s:Shared) (σ:St) (H:Hp) (Q:Option Int->Hp->Prop),Inv X pins σ H s->t σ H Q->
  wpAny (model X.prog X.w) X.A (evalPart e X.env) (λu s'=>∃o H',Inv X pins σ H' s'/\IsPart u o/\Q o H') X.xe s
def C4e:TO:=λ_ H Q=>Q none H
def C4f (t:TE):TO:=fun σ H Q=>t σ H λx H1=>∃i,x=.int i/\Q (some i) H1
theorem B60 {ns:List Int}:∀{us:List Value},C4 (ns.map V.int) us->IntsAre us ns:=by
 induction ns with
 | nil=>intro us r;rw[A6d] at r;cases r;exact .nil
 | cons n ns ih=>
  intro us r
  rw[O9] at r
  cases r with
  | cons r1 r2=>
   obtain⟨t,e⟩:=r1
   subst e
   exact .cons n t (ih r2)
section
variable {X:Cx} {e:Expr} {te:TE} {lo hi:Option Expr} {tl th:TO} {pos p2:Pos}
theorem B61:PO X none C4e:=by
 intro pins s σ H Q I h
 rw[evalPart_none]
 exact wpAny_pure ⟨none,H,I,.none,h⟩
theorem B1o (h:PE X e te):PO X (some e) (C4f te):=by
 intro pins s σ H Q I hw
 rw[evalPart_some]
 refine thn (h pins s σ H _ I hw) λu s1 zz215=>el5 zz215 λx H1 I1 r1 q1=>?_
 obtain⟨i,rfl,q⟩:=q1
 obtain⟨t,rfl⟩:=r1
 exact⟨some i,H1,I1,.int i t,q⟩
def SlR (X:Cx) (r:V->Option Int->Option Int->Hp->VK->Prop):Prop:=
 ∀(pins:List (Addr×Obj)) (s:Shared) (σ:St) (H:Hp) (x:V) (v vl vu:Value) (lo hi:Option Int) (sl:Addr) (Q:VK),Inv X pins σ H s->E2 x v->s.heap.IsSliceOf sl vl vu .none->IsPart vl lo->IsPart vu hi->r x lo hi H Q->
  ∃T id,typeLookup (.type T) "__getitem__" = pure (some (.builtin id))/\s.TypeIs v T/\wpAny (model X.prog X.w) X.A (getItem v (.ref sl)) (EP X pins σ Q) X.xe s
def tSl (r:V->Option Int->Option Int->Hp->VK->Prop) (te:TE) (tl th:TO):TE:=fun σ H Q=>te σ H λx H1=>tl σ H1 λl H2=>th σ H2 λu H3=>r x l u H3 Q
theorem B1p {r:V->Option Int->Option Int->Hp->VK->Prop} (hr:SlR X r) (he:PE X e te) (hl:PO X lo tl) (hu:PO X hi th):PE X (.Subscript e (.Slice lo hi none p2) pos) (tSl r te tl th):=by
 intro pins s σ H Q I h
 refine Subscript_ (thn (he pins s σ H _ I h) λv s1 zz216=>el5 zz216 λx H1 I1 r1 q1=>?_)
 refine wpAny_Slice (thn (hl pins s1 σ H1 _ I1 q1) λvl s2 zz217=>el5 zz217 λl H2 I2 pl q2=>thn (hu pins s2 σ H2 _ I2 q2) λvu s3 zz218=>el5 zz218 λu H3 I3 pu q3=>?_)
 rw[evalPart_none]
 refine wpAny_pure ?_
 have I4:Inv X pins σ H3 { s3 with heap:=s3.heap.push { cls:=.type "slice",data:=.fields #[vl,vu,.none] } }:=I3.kept (t':=s3.toks) λb ob q=>K2 _ q
 obtain⟨T,id,hT,ht,hg⟩:=hr pins { s3 with heap:=s3.heap.push { cls:=.type "slice",data:=.fields #[vl,vu,.none] } } σ H3 x v vl vu l u s3.heap.objs.size Q I4 r1 (Heap.IsSliceOf.new ..) pl pu q3
 show wpAny (model X.prog X.w) X.A (subscriptTail e (.Slice lo hi none p2) v (.ref s3.heap.objs.size)) (EP X pins σ Q) X.xe { s3 with heap:=s3.heap.push { cls:=.type "slice",data:=.fields #[vl,vu,.none] } }
 exact tail_any (ops:=[.ref s3.heap.objs.size,v]) ht hT hg (by with_unfolding_all rfl)
def A2o (xs:List V) (lo hi:Option Int):List V:=(xs.drop (HT.sIx xs.length 0 lo)).take (HT.sIx xs.length xs.length hi - HT.sIx xs.length 0 lo)
theorem C4g (xs:List V) (lo hi:Option Int):(A2o xs lo hi).length<=xs.length:=by
 unfold A2o
 rw[b4,List.length_drop]
 lia
end
def ixN (n:Nat) (i:Int):Option Nat:=if 0<=i then (if i < n then some i.toNat else none) else if -(n:Int)<=i then some (i + n).toNat else none
def atI {α:Type} (xs:List α) (i:Int):Option α:=(ixN xs.length i).bind λj=>xs[j]?
theorem B62 {n:Nat} {i:Int} {j:Nat} (h:ixN n i=some j):seqIndex? i n=some j/\j < n/\-(n:Int)<=i/\i < n:=by
 unfold ixN at h
 by_cases h0:0<=i
 ·rw[if_pos h0] at h
  by_cases h1:i < n
  ·rw[if_pos h1] at h
   have e:i.toNat=j:=Option.some.inj h
   exact⟨by rw[seqIndex_of h0 h1,e],by lia,by lia,h1⟩
  ·rw[if_neg h1] at h;cases h
 ·rw[if_neg h0] at h
  by_cases h1:-(n:Int)<=i
  ·rw[if_pos h1] at h
   have e:(i + n).toNat=j:=Option.some.inj h
   exact⟨by rw[seqIndex_neg (by lia) h1,e],by lia,h1,by lia⟩
  ·rw[if_neg h1] at h;cases h
theorem A8w {α:Type} {xs:List α} {i:Int} {v:α} (h:atI xs i=some v):∃j,seqIndex? i xs.length=some j/\xs[j]?=some v/\j < xs.length/\-(xs.length:Int)<=i/\i < xs.length:=by
 unfold atI at h
 cases e:ixN xs.length i with
 | none=>rw[e] at h;cases h
 | some j=>
  rw[e] at h
  obtain⟨h1,h2,h3,h4⟩:=B62 e
  exact⟨j,h1,h,h2,h3,h4⟩
theorem z4 {α:Type} {xs:List α} {j:Nat} {v:α} (h:xs[j]?=some v):atI xs (j:Int)=some v:=by
 have hj:j < xs.length:=(V9.mp h).1
 have e:ixN xs.length (j:Int)=some j:=by
  unfold ixN
  rw[if_pos (by lia),if_pos (by lia)];simp
 unfold atI;rw[e];exact h
theorem B63 {α:Type} (xs:List α) (v:α):atI (xs++[v]) (-1)=some v:=by
 have hl:(xs++[v]).length=xs.length + 1:=by simp
 have e:ixN (xs++[v]).length (-1)=some xs.length:=by
  unfold ixN
  rw[hl,if_neg DD,if_pos (by lia)]
  congr 1
  lia
 unfold atI
 rw[e]
 show (xs++[v])[xs.length]?=some v
 simp
def B1q (b:Expr):Prop:=∀o i,subscripted b false o i=operate [o,i] (getItem o i)
def IxR (X:Cx) (r:R2):Prop:=
 ∀(value slice:Expr) (pins:List (Addr×Obj)) (s:Shared) (σ:St) (H:Hp) (x y:V) (v u:Value) (Q:VK),Inv X pins σ H s->E2 x v->E2 y u->r x y H Q->
  subscripted slice false v u=operate [v,u] (getItem v u)->wpAny (model X.prog X.w) X.A (subscriptTail value slice v u) (EP X pins σ Q) X.xe s
def MtR (X:Cx) (id:String) (r:V->List V->Hp->VK->Prop):Prop:=
 ∀(pins:List (Addr×Obj)) (s:Shared) (σ:St) (H:Hp) (x:V) (xs:List V) (v:Value) (us:List Value) (Q:VK),Inv X pins σ H s->E2 x v->C4 xs us->r x xs H Q->
  wpAny (model X.prog X.w) X.A (call (.builtin id) (v::us)) (EP X pins σ Q) X.xe s
section
variable {X:Cx} {a b:Expr} {ta tb:TE} {pos:Pos}
theorem IxR.or {r r':R2} (h:IxR X r) (h':IxR X r'):IxR X (λx y H Q=>r x y H Q\/r' x y H Q):=by
 intro value slice pins s σ H x y v u Q I rx ry q hs
 rcases q with q | q
 ·exact h value slice pins s σ H x y v u Q I rx ry q hs
 ·exact h' value slice pins s σ H x y v u Q I rx ry q hs
theorem C6 {r:R2} (hr:IxR X r) (ha:PE X a ta) (hb:PE X b tb) (hs:B1q b):PE X (.Subscript a b pos) (tOp r ta tb):=by
 intro pins s σ H Q I h
 exact Subscript_ (B1h ha hb I h λv u s2 x y H2 I2 rx ry q=>hr a b pins s2 σ H2 x y v u Q I2 rx ry q (hs _ _))
def B64 (K:B0):R2:=λx y H Q=>∃p xs i v,x=.ref p/\y=.int i/\SqL K H p xs/\atI xs i=some v/\Q v H
def B65 (K:B0):R2:=λx y H Q=>∃p xs i v,x=.ref p/\y=.int i/\SqT K H p xs/\atI xs i=some v/\Q v H
def B66:R2:=λx y H Q=>∃z i c,x=.str z/\y=.int i/\z.length<=sizeLine/\atI z.cps.toList i=some c/\Q (.str ⟨#[c]⟩) H
theorem D6:IxR X (B64 X.K):=by
 intro value slice pins s σ H x y v u Q I rx ry h hs
 obtain⟨p,xs,i,z,rfl,rfl,hq,he,q⟩:=h
 cases rx
 obtain⟨t,rfl⟩:=ry
 obtain⟨its,r,pl,hz⟩:=I.list hq
 obtain⟨j,h1,h2,h3,h4,h5⟩:=A8w he
 obtain⟨w,ew,rw'⟩:=r.get h2
 have hl:=r.length
 have hn:=A4w
 have fin:EP X pins σ Q w s:=⟨z,H,I,rw',q⟩
 by_cases h0:0<=i
 ·have hj:i.toNat=j:=by
   rw[seqIndex_of h0 h5] at h1
   exact Option.some.inj h1
  exact item_listR pl.isList h0 (by lia) (by rw[hj];simpa using ew) fin hs
 ·have hj:(i + (its.toArray.size:Int)).toNat=j:=by
   rw[seqIndex_neg (by lia) h4] at h1
   rw[M5,<-hl]
   exact Option.some.inj h1
  exact subscriptTail_builtinR (x:=w) pl.isList.typeIs slot_list_getitem.lookup
   (wpAny_getItem_list_neg (Q:=λr s'=>r=w/\EP X pins σ Q r s') pl.isList (by lia) (by rw[M5] <;> lia) (by lia) (by rw[hj];simpa using ew) ⟨rfl,fin⟩) hs
theorem C4h:IxR X (B65 X.K):=by
 intro value slice pins s σ H x y v u Q I rx ry h hs
 obtain⟨p,xs,i,z,rfl,rfl,hq,he,q⟩:=h
 cases rx
 obtain⟨t,rfl⟩:=ry
 obtain⟨its,r,pl,hz⟩:=I.tuple hq
 obtain⟨j,h1,h2,h3,h4,h5⟩:=A8w he
 obtain⟨w,ew,rw'⟩:=r.get h2
 have hl:=r.length
 have hn:=A4w
 have fin:EP X pins σ Q w s:=⟨z,H,I,rw',q⟩
 exact subscriptTail_builtinR (x:=w) pl.typeIs slot_tuple_getitem.lookup
  (getItem_tuple (j:=j) (Q:=λr s'=>r=w/\EP X pins σ Q r s') pl (by lia) (by lia) (by rw[M5,<-hl];exact h1) (by simpa using ew) ⟨rfl,fin⟩) hs
theorem C4i:IxR X B66:=by
 intro value slice pins s σ H x y v u Q I rx ry h hs
 obtain⟨z,i,c,rfl,rfl,hz,he,q⟩:=h
 obtain⟨t,rfl⟩:=rx
 obtain⟨t',rfl⟩:=ry
 obtain⟨j,h1,h2,h3,h4,h5⟩:=A8w he
 have hl:z.cps.toList.length=z.length:=by simp [Str.length]
 rw[hl] at h1 h4 h5
 have hn:=A4w
 exact tail_any (typeIs_str s z t) slot_str_getitem.lookup (getItem_str (c:=c) (by
  have e1:decide (i < -(2 ^ 63:Int))=false:=decide_eq_false (by lia)
  have e2:decide (i ≥ 2 ^ 63)=false:=decide_eq_false (by lia)
  rw[e1,e2,Bool.or_false]) (by rw[h1];simpa using h2) ⟨.str ⟨#[c]⟩,H,I.tok _,⟨_,rfl⟩,q⟩) hs
def rIx (K:B0):R2:=λx y H Q=>B64 K x y H Q\/B65 K x y H Q\/B66 x y H Q
theorem X6:IxR X (rIx X.K):=D6.or (C4h.or C4i)
theorem C4j (its:List Value) (n j:Nat) (u:Value):A4k (·.setIfInBounds j u) { cls:=.type "list",data:=.seq its.toArray n }={ cls:=.type "list",data:=.seq (its.set j u).toArray n }:=by
 simp [A4k]
theorem Inv.lst {pins:List (Addr×Obj)} {σ:St} {H:Hp} {s:Shared} {p:Addr} {xs:List V} (I:Inv X pins σ H s) (h:H p=some (.lst xs)) :
  ∃(its:List Value) (n:Nat),C4 xs its/\s.heap.get? p=some { cls:=.type "list",data:=.seq its.toArray n }/\xs.length<=sizeLine:=by
 obtain⟨z,its,n,r,e⟩:=I.hok p _ h
 exact⟨its,n,r,e,z⟩
theorem Inv.lstUpd {pins:List (Addr×Obj)} {σ:St} {H:Hp} {s:Shared} {p:Addr} {xs ys:List V} {its its':List Value} {n n':Nat} {f:Obj->Obj} (I:Inv X pins σ H s) (h:H p=some (.lst xs))
  (ho:s.heap.get? p=some { cls:=.type "list",data:=.seq its.toArray n }) (hf:f { cls:=.type "list",data:=.seq its.toArray n }={ cls:=.type "list",data:=.seq its'.toArray n' }) (r:C4 ys its') (hz:ys.length<=sizeLine) (t:Nat) :
  Inv X pins σ (upd H p (.lst ys)) { s with heap:=s.heap.update p f,toks:=t }:=by
 have e:(s.heap.update p f).get? p=some { cls:=.type "list",data:=.seq its'.toArray n' }:=by
  rw[B5y f ho (by rw[hf] <;> rfl),hf]
 refine I.write (x:=p) (e:=p) (by rw[h];trivial) (.inl rfl) (λb u hb q=>(A4l _ _ (Ne.symm hb)).trans q) ⟨_,e⟩ ?_
 exact⟨hz,its',n',r,e⟩
def B67:V->V->V->Hp->(Hp->Prop)->Prop:=λo i v H Q=>∃p xs k j,o=.ref p/\i=.int k/\H p=some (.lst xs)/\ixN xs.length k=some j/\Q (upd H p (.lst (xs.set j v)))
theorem U2:B1e X B67:=by
 intro pins s σ H o i v ov iv u Q I ro ri rv h
 obtain⟨p,xs,k,j,rfl,rfl,hp,hj,q⟩:=h
 cases ro
 obtain⟨t,rfl⟩:=ri
 obtain⟨its,n,r,ho,hz⟩:=I.lst hp
 obtain⟨h1,h2,h3,h4⟩:=B62 hj
 have hl:=r.length
 have hn:=A4w
 have I':Inv X pins σ (upd H p (.lst (xs.set j v))) { s with heap:=s.heap.update p (A4k (·.setIfInBounds j u)) }:=
  I.lstUpd hp ho (C4j its n j u) (r.set rv j) (by rw[W0];exact hz) s.toks
 by_cases h0:0<=k
 ·have hk:k.toNat=j:=by
   rw[seqIndex_of h0 h4] at h1
   exact Option.some.inj h1
  exact PySem.W.ki_setAt ho h0 (by lia) (by rw[M5,<-hl];exact h4) (by rw[hk];exact⟨_,I',q⟩)
 ·have hk:(k + (its.toArray.size:Int)).toNat=j:=by
   rw[seqIndex_neg (by lia) h3] at h1
   rw[M5,<-hl]
   exact Option.some.inj h1
  exact PySem.W.ki_setBack ho (by lia) (by rw[M5,<-hl];exact h3) (by lia) (by rw[hk];exact⟨_,I',q⟩)
theorem C4k (lo hi:Option Int) (n:Nat):(sliceBounds lo hi none n).1=((HT.sIx n 0 lo:Nat):Int)/\(sliceBounds lo hi none n).2.1=((HT.sIx n n hi:Nat):Int)/\(sliceBounds lo hi none n).2.2=1:=by
 refine⟨?_,?_,rfl⟩
 ·cases lo with
  | none=>simp [sliceBounds,HT.sIx]
  | some i=>
   simp only[sliceBounds,HT.sIx,Option.getD_none,show (1:Int) > 0 by decide,if_true]
   by_cases h:i < 0
   ·simp only[h,if_true] <;> lia
   ·simp only[h,if_false] <;> lia
 ·cases hi with
  | none=>simp [sliceBounds,HT.sIx]
  | some i=>
   simp only[sliceBounds,HT.sIx,Option.getD_none,show (1:Int) > 0 by decide,if_true]
   by_cases h:i < 0
   ·simp only[h,if_true] <;> lia
   ·simp only[h,if_false] <;> lia
theorem C4l (its:List Value) (lo hi:Option Int):slicePick its.toArray lo hi none=((its.drop (HT.sIx its.length 0 lo)).take (HT.sIx its.length its.length hi - HT.sIx its.length 0 lo)).toArray:=by
 obtain⟨h1,h2,h3⟩:=C4k lo hi its.toArray.size
 unfold slicePick
 rw[h1,h2,h3]
 simp only[sliceRange_one,pick_run,M5] <;> rfl
def C4m (K:B0):V->Option Int->Option Int->Hp->VK->Prop:=λx lo hi H Q=>∃a xs,x=.ref a/\SqL K H a xs/\∀p,H p=none->Q (.ref p) (upd H p (.lst (A2o xs lo hi)))
theorem B1r:SlR X (C4m X.K):=by
 intro pins s σ H x v vl vu lo hi sl Q I rx hs pl pu h
 obtain⟨a,xs,rfl,hx,q⟩:=h
 cases rx
 obtain⟨its,r,ht,hz⟩:=I.list hx
 have hlen:=r.length
 refine⟨"list",_,slot_list_getitem.lookup,ht.isList.typeIs,?_⟩
 refine wpAny_getItem_list_slice ht.isList hs pl pu .none (by simp) ?_ (by rw[M5] <;> lia)
 rw[C4l,<-hlen]
 refine⟨.ref s.heap.objs.size,_,I.laid (t':=s.toks) (o:=.lst (A2o xs lo hi)) (λb ob q=>K2 _ q) (E1 _) ?_,rfl,q _ (I.hok.fresh (E1 _))⟩
 exact⟨T8 (C4g xs lo hi) hz,_,0,(r.drop (HT.sIx xs.length 0 lo)).take (HT.sIx xs.length xs.length hi - HT.sIx xs.length 0 lo),O5 _ rfl⟩
def A0z:V->Bool
 | .non=>true
 | .bl _=>true
 | .int _=>true
 | .str _=>true
 | _=>false
def eqV:V->V->Bool
 | .non,.non=>true
 | .bl a,.bl b=>a == b
 | .bl a,.int b=>(if a then 1 else 0) == b
 | .int a,.bl b=>a == (if b then 1 else 0)
 | .int a,.int b=>a == b
 | .str a,.str b=>a == b
 | _,_=>false
theorem C4n {A:Around} {s:Shared} {y x:V} {u v:Value} (ry:E2 y u) (rx:E2 x v) (fy:A0z y=true) (fx:A0z x=true):SeqAt.EqAt A s u v (eqV y x):=by
 cases y with
 | non=>
  cases ry
  cases x with
  | non=>cases rx;exact SeqAt.EqAt.same _
  | bl b=>cases rx;exact SeqAt.EqAt.none_bool b
  | int b=>obtain⟨t,rfl⟩:=rx;exact SeqAt.EqAt.none_int b t
  | str b=>obtain⟨t,rfl⟩:=rx;exact SeqAt.EqAt.none_str b t
  | _=>exact absurd (show false=true from fx) Q8
 | bl a=>
  cases ry
  cases x with
  | non=>cases rx;exact SeqAt.EqAt.bool_none a
  | bl b=>cases rx;exact SeqAt.EqAt.bool_bool a b
  | int b=>obtain⟨t,rfl⟩:=rx;exact SeqAt.EqAt.bool_int a b t
  | str b=>obtain⟨t,rfl⟩:=rx;exact SeqAt.EqAt.bool_str a b t
  | _=>exact absurd (show false=true from fx) Q8
 | int a=>
  obtain⟨t',rfl⟩:=ry
  cases x with
  | non=>cases rx;exact SeqAt.EqAt.int_none a t'
  | bl b=>cases rx;exact SeqAt.EqAt.int_bool a t' b
  | int b=>obtain⟨t,rfl⟩:=rx;exact SeqAt.EqAt.int_int a t' b t
  | str b=>obtain⟨t,rfl⟩:=rx;exact SeqAt.EqAt.int_str a t' b t
  | _=>exact absurd (show false=true from fx) Q8
 | str a=>
  obtain⟨t',rfl⟩:=ry
  cases x with
  | non=>cases rx;exact SeqAt.EqAt.str_none a t'
  | bl b=>cases rx;exact SeqAt.EqAt.str_bool a t' b
  | int b=>obtain⟨t,rfl⟩:=rx;exact SeqAt.EqAt.str_int a t' b t
  | str b=>obtain⟨t,rfl⟩:=rx;exact SeqAt.EqAt.str_str a t' b t
  | _=>exact absurd (show false=true from fx) Q8
 | _=>exact absurd (show false=true from fy) Q8
def eqU (x:V) (u:Value):Bool:=match u with
 | .none=>eqV .non x
 | .bool b=>eqV (.bl b) x
 | .int i _=>eqV (.int i) x
 | .str z _=>eqV (.str z) x
 | _=>false
theorem B68 {x y:V} {u:Value} (r:E2 y u) (f:A0z y=true):eqU x u=eqV y x:=by
 cases y with
 | non=>cases r;rfl
 | bl b=>cases r;rfl
 | int i=>obtain⟨t,rfl⟩:=r;rfl
 | str z=>obtain⟨t,rfl⟩:=r;rfl
 | _=>exact absurd (show false=true from f) Q8
theorem B1s {x:V}:∀{xs:List V} {us:List Value},C4 xs us->xs.all A0z=true->us.any (eqU x)=xs.any λy=>eqV y x
 | _,_,.nil,_=>rfl
 | y::xs,u::us,.cons r t,f=>by
  rw[List.all_cons,A0r] at f
  rw[A2e,A2e,B68 r f.1,B1s t f.2]
theorem B1t {A:Around} {s:Shared} {x:V} {v:Value} (rx:E2 x v) (fx:A0z x=true):∀{xs:List V} {us:List Value},C4 xs us->xs.all A0z=true->∀u∈us,SeqAt.EqAt A s u v (eqU x u)
 | _,_,.nil,_=>λu hu=>by cases hu
 | y::xs,u::us,.cons r t,f=>λu' hu=>by
  rw[List.all_cons,A0r] at f
  rcases J1.mp hu with rfl | hu
  ·rw[B68 r f.1];exact C4n r rx f.1 fx
  ·exact B1t rx fx t f.2 u' hu
def inV (x:V) (xs:List V):Bool:=xs.any λy=>eqV y x
def rIn (K:B0) (neg:Bool):R2:=λx y H Q=>∃p xs,y=.ref p/\(SqL K H p xs\/SqT K H p xs)/\A0z x=true/\xs.all A0z=true/\Q (.bl (if neg then !inV x xs else inV x xs)) H
theorem C4o:OpR X (compareOp .NotIn) (rIn X.K true):=by
 intro pins s σ H x y v u Q I rx ry h
 obtain⟨p,xs,rfl,hq,fx,fs,q⟩:=h
 cases ry
 rcases hq with hq | hq
 ·obtain⟨its,r,pl,hz⟩:=I.list hq
  refine SeqAt.notIn_listAt (eqU x) pl.isList (λw hw=>B1t rx fx r fs w (by simpa using hw)) ⟨.bl _,H,I,rfl,?_⟩
  rw[show its.toArray.any (eqU x)=its.any (eqU x) by simp,B1s r fs]
  exact q
 ·obtain⟨its,r,pl,hz⟩:=I.tuple hq
  refine SeqAt.notIn_tupleAt (eqU x) pl (λw hw=>B1t rx fx r fs w (by simpa using hw)) ⟨.bl _,H,I,rfl,?_⟩
  rw[show its.toArray.any (eqU x)=its.any (eqU x) by simp,B1s r fs]
  exact q
theorem b8:U0 X (.builtin "len") (λxs H Q=>∃p ys,xs=[.ref p]/\(SqL X.K H p ys\/SqT X.K H p ys)/\Q (.int ys.length) H):=by
 intro pins s σ H xs us Q I r h
 obtain⟨p,ys,rfl,hq,q⟩:=h
 obtain⟨u,rfl,rx⟩:=U1 r
 cases rx
 have hn:=A4w
 rcases hq with hq | hq
 ·obtain⟨its,r',pl,hz⟩:=I.list hq
  have hlen:=r'.length
  exact Calls.call_len_list pl.isList (by simp only[M5] <;> lia) ⟨.int ys.length,H,I.tok _,⟨s.toks + 1,by rw[M5,hlen]⟩,q⟩
 ·obtain⟨its,r',pl,hz⟩:=I.tuple hq
  have hlen:=r'.length
  exact len_tuple pl (by simp only[M5] <;> lia) ⟨.int ys.length,H,I.tok _,⟨s.toks + 1,by rw[M5,hlen]⟩,q⟩
theorem W7:U0 X (.type "list") (λxs H Q=>∃p ys,xs=[.ref p]/\(SqL X.K H p ys\/SqT X.K H p ys)/\∀l,H l=none->Q (.ref l) (upd H l (.lst ys))):=by
 intro pins s σ H xs us Q I r h
 obtain⟨p,ys,rfl,hq,q⟩:=h
 obtain⟨u,rfl,rx⟩:=U1 r
 cases rx
 have fin:∀(its:List Value),C4 ys its->ys.length<=sizeLine->∀(h':Heap) (c':Nat),(∀b o',s.heap.get? b=some o'->h'.get? b=some o')->
   h'.get? s.heap.objs.size=some { cls:=.type "list",dict:=none,data:=.seq its.toArray c',slots:=#[] }->EP X pins σ Q (.ref s.heap.objs.size) { s with heap:=h' }:=λits r' hz h' c' kp e=>
  ⟨.ref s.heap.objs.size,_,I.laid (t':=s.toks) kp (E1 _) (show K3 X.prog X.w _ h' _ (.lst ys) from ⟨hz,its,c',r',e⟩),rfl,q _ (I.hok.fresh (E1 _))⟩
 rcases hq with hq | hq
 ·obtain⟨its,r',pl,hz⟩:=I.list hq
  have hlen:=r'.length
  obtain⟨o,ho,hc,n,hd⟩:=pl.isList
  exact call_list_seq p (.inl rfl) ho hc hd (λh' c' kp e=>fin its r' hz h' c' kp e) (by simp only[M5] <;> lia)
 ·obtain⟨its,r',pl,hz⟩:=I.tuple hq
  have hlen:=r'.length
  obtain⟨o,ho,hc,n,hd⟩:=pl
  exact call_list_seq p (.inr rfl) ho hc hd (λh' c' kp e=>fin its r' hz h' c' kp e) (by simp only[M5] <;> lia)
theorem C4p:U0 X (.type "tuple") (λxs H Q=>∃p ys,xs=[.ref p]/\((SqL X.K H p ys/\∀l,H l=none->Q (.ref l) (upd H l (.tup ys)))\/(SqT X.K H p ys/\Q (.ref p) H))):=by
 intro pins s σ H xs us Q I r h
 obtain⟨p,ys,rfl,h⟩:=h
 obtain⟨u,rfl,rx⟩:=U1 r
 cases rx
 rcases h with ⟨hq,q⟩ | ⟨hq,q⟩
 ·obtain⟨its,r',pl,hz⟩:=I.list hq
  have hlen:=r'.length
  refine call_tuple_list pl.isList (λh' kp=>?_) (by simp only[M5] <;> lia)
  have I1:Inv X pins σ H { s with heap:=h' }:=I.kept (t':=s.toks) kp
  have I2:Inv X pins σ (upd H h'.objs.size (.tup ys)) { s with heap:=h'.push { cls:=.type "tuple",data:=.seq its.toArray } }:=
   I1.laid (t':=s.toks) (λb o e=>K2 _ e) (E1 _) (show K3 X.prog X.w _ _ _ (.tup ys) from ⟨hz,its,r',IsTup.new _ _⟩)
  exact⟨.ref h'.objs.size,_,I2,rfl,q _ (I1.hok.fresh (E1 _))⟩
 ·obtain⟨its,r',pl,hz⟩:=I.tuple hq
  exact call_tuple_same pl ⟨.ref p,H,I,rfl,q⟩
def tyV (K:B0) (T:String) (x:V) (H:Hp):Prop:=match x with
 | .str _=>T = "str"
 | .int _=>T = "int"
 | .ref p=>(T = "list" /\∃xs,SqL K H p xs)\/(T = "tuple" /\∃o,K.lookup p=some o/\o.cls=.type "tuple" /\o.dict=none)\/
   (T = "dict" /\((∃kvs,H p=some (.dK kvs))\/∃kvs,H p=some (.dT kvs)))\/(T = "set" /\∃S n,H p=some (.set S n))
 | _=>False
theorem B69 {pins:List (Addr×Obj)} {σ:St} {H:Hp} {s:Shared} {T:String} {x:V} {v:Value} (I:Inv X pins σ H s) (r:E2 x v) (ty:tyV X.K T x H) :
  s.TypeIs v T/\∀a,v=.ref a->∃ob,s.heap.get? a=some ob/\ob.dict=none:=by
 cases x with
 | str z=>
  obtain⟨t,rfl⟩:=r
  cases (show T = "str" from ty)
  exact⟨typeIs_str s z t,λ_ e=>nomatch e⟩
 | int i=>
  obtain⟨t,rfl⟩:=r
  cases (show T = "int" from ty)
  exact⟨typeIs_int s i t,λ_ e=>nomatch e⟩
 | ref p=>
  cases r
  rcases ty with ⟨rfl,xs,hq⟩ | ⟨rfl,o,hk,hc,hd⟩ | ⟨rfl,hk⟩ | ⟨rfl,S,n,hk⟩
  ·obtain⟨its,_,pl,_⟩:=I.list hq
   refine⟨pl.isList.typeIs,λa e=>?_⟩
   cases e
   obtain⟨o,n,e,c,hd,_⟩:=pl
   exact⟨o,e,hd⟩
  ·refine⟨⟨o,I.kIn p o hk,hc⟩,λa e=>?_⟩
   cases e
   exact⟨o,I.kIn _ o hk,hd⟩
  ·have z:∃o,s.heap.get? p=some o/\o.ExactDict:=by
    rcases hk with ⟨kvs,hk⟩ | ⟨kvs,hk⟩
    ·obtain⟨_,_,_,_,o,_,_,e,ex,_⟩:=I.hok p _ hk
     exact⟨o,e,ex⟩
    ·obtain⟨_,_,_,_,o,_,_,e,ex,_⟩:=I.hok p _ hk
     exact⟨o,e,ex⟩
   obtain⟨o,e,ex⟩:=z
   refine⟨⟨o,e,ex.1⟩,λa e2=>?_⟩
   cases e2
   exact⟨o,e,ex.2.1⟩
  ·obtain⟨o,_,_,_,e,ex,_⟩:=I.hok p _ hk
   refine⟨⟨o,e,ex.1⟩,λa e2=>?_⟩
   cases e2
   exact⟨o,e,ex.2.1⟩
 | _=>exact False.elim ty
def C4q (K:B0) (T:String) (r:V->List V->Hp->VK->Prop) (to:TE):TE:=fun σ H Q=>to σ H λx H1=>tyV K T x H1/\r x [] H1 Q
def tBM (K:B0) (T:String) (r:V->List V->Hp->VK->Prop) (to:TE) (t:TA):TE:=fun σ H Q=>to σ H λx H1=>tyV K T x H1/\t σ H1 λxs H2=>r x xs H2 Q
variable {o e:Expr} {es:List Expr} {to:TE} {t:TA} {name:Str} {apos cpos:Pos} {T id:String} {r:V->List V->Hp->VK->Prop}
theorem B7a (pa:PlainAttrs T) (slot:Slot T name id) (hty:typeOf (.builtin id)=pure (.type "method_descriptor")) (hm:MtR X id r) (ho:PE X o to)
  (hbase:autoParam (attributeBase o name X.env (eval o X.env)=eval o X.env) RF._auto_1) (hline:autoParam ((apos.endLine == cpos.line)=true) RF._auto_1):PE X (.Call (.Attribute o name apos) [] [] cpos) (C4q X.K T r to):=by
 intro pins s σ H Q I h
 refine wpAny_Call_method0_late hbase hline (thn (ho pins s σ H _ I h) λv s1 zz219=>zz219.elim λx zz220=>zz220.elim λH1 zz221=>zz221.elim λI1 zz222=>zz222.elim λr1 zz223=>zz223.elim λty q1=>?_)
 obtain⟨h1,h2⟩:=B69 I1 r1 ty
 exact⟨T,id,pa,slot,hty,h1,h2,Calls.callWith_builtin rfl (PySem.evalArgs_none (hm pins s1 σ H1 x [] v [] Q I1 r1 .nil q1))⟩
theorem z5 (pa:PlainAttrs T) (slot:Slot T name id) (hty:typeOf (.builtin id)=pure (.type "method_descriptor")) (hm:MtR X id r) (ho:PE X o to) (ha:PA X (e::es) t)
  (hbase:autoParam (attributeBase o name X.env (eval o X.env)=eval o X.env) RF._auto_1)
  (hfew:((backTo cpos (starEach (e::es) X.env)).all (λx=>!x.1)&&(backToKw cpos (keywordEach [] X.env)).all (λx=>x.1.isSome)
   &&decide ((e::es).length + ([]:List Keyword).length + (if ([]:List Keyword).isEmpty then 0 else 1) < 30))=true:=by rfl)
  (hline:autoParam ((apos.endLine == cpos.line)=true) RF._auto_1) (hs:autoParam (starEach (e::es) X.env=(false,eval e X.env)::starEach es X.env) RF._auto_1) (hplain:autoParam ((backTo cpos (starEach es X.env)).any (·.1)=false) RF._auto_1) :
  PE X (.Call (.Attribute o name apos) (e::es) [] cpos) (tBM X.K T r to t):=by
 intro pins s σ H Q I h
 refine wpAny_Call_method_late hbase hfew hline rfl (thn (ho pins s σ H _ I h) λv s1 zz224=>zz224.elim λx zz225=>zz225.elim λH1 zz226=>zz226.elim λI1 zz227=>zz227.elim λr1 zz228=>zz228.elim λty q1=>?_)
 obtain⟨h1,h2⟩:=B69 I1 r1 ty
 refine⟨T,id,pa,slot,hty,h1,h2,?_⟩
 have hA:=ha cpos pins s1 σ H1 _ I1 q1
 rw[hs] at hA ⊢
 refine Calls.callWith_builtin (by show (false||(backTo cpos (starEach es X.env)).any (·.1))=false;rw[hplain] <;> rfl) (Calls.evalArgs_plain ?_)
 exact thn hA λus s2 zz229=>el5 zz229 λvs H2 I2 r2 q2=>hm pins s2 σ H2 x vs v us Q I2 r1 r2 q2
end
def MtM (X:Cx) (id:String) (r:V->List V->Hp->VK->Prop):Prop:=
 ∀(pins:List (Addr×Obj)) (s:Shared) (σ:St) (H:Hp) (x:V) (xs:List V) (v:Value) (us:List Value) (Q:VK),Inv X pins σ H s->E2 x v->C4 xs us->r x xs H Q->
  wpAny (model X.prog X.w) X.A (call (.builtin id) (v::us)) (EP X pins σ Q) X.xe s
theorem C4.one {x:V} {us:List Value} (h:C4 [x] us):∃u,us=[u]/\E2 x u:=by
 cases h with
 | cons r t=>cases t;exact⟨_,rfl,r⟩
theorem C4.zero:∀{us:List Value},C4 [] us->us=[]
 | _,.nil=>rfl
theorem C4.reverse {xs:List V} {us:List Value} (h:C4 xs us):C4 xs.reverse us.reverse:=by
 induction h with
 | nil=>exact .nil
 | cons r t ih=>rw[A78,A78];exact C4.append ih (.cons r .nil)
theorem C4.rep {xs:List V} {us:List Value} (h:C4 xs us):∀k:Nat,C4 (E5 k xs).flatten (E5 k us).flatten
 | 0=>.nil
 | k + 1=>by
  rw[A0s,A0s,A4m,A4m]
  exact C4.append h (C4.rep h k)
theorem B7b (its:List Value):∀(k:Nat) (acc:List Value),
  List.foldl (λx1 x2=>x1++x2) acc.toArray (E5 k its.toArray)=(acc++(E5 k its).flatten).toArray
 | 0,acc=>by simp
 | k + 1,acc=>by
  have e:acc.toArray++its.toArray=(acc++its).toArray:=by simp
  have e2:(acc++its)++(E5 k its).flatten=acc++(E5 (k + 1) its).flatten:=by
   rw[A0s,A4m,A6e]
  rw[<-e2,<-B7b its k (acc++its),<-e,A0s,List.foldl_cons]
section
variable {X:Cx} {pins:List (Addr×Obj)} {σ:St} {H:Hp} {s:Shared} {l b:Addr} {xs ys zs:List V}
theorem Inv.lset {its its':List Value} {n:Nat} {f:Array Value->Array Value} {t':Nat} (I:Inv X pins σ H s) (hH:H l=some (.lst xs))
  (e:s.heap.get? l=some { cls:=.type "list",data:=.seq its.toArray n }) (hf:f its.toArray=its'.toArray) (hv:C4 ys its') (hz:ys.length<=sizeLine) :
  Inv X pins σ (upd H l (.lst ys)) { s with heap:=s.heap.update l (A4k f),toks:=t' }:=by
 have q:=PySem.IsL.update e f
 rw[hf] at q
 refine I.write (x:=l) (e:=l) (by rw[hH];exact trivial) (.inl rfl) (λb' u hb hu=>(A4l s.heap (A4k f) (Ne.symm hb)).trans hu) ⟨_,q⟩ ?_
 exact⟨hz,its',_,hv,q⟩
theorem Inv.lnew {its:List Value} {t':Nat} (I:Inv X pins σ H s) (hv:C4 ys its) (hz:ys.length<=sizeLine) :
  Inv X pins σ (upd H s.heap.objs.size (.lst ys)) { s with heap:=s.heap.push { cls:=.type "list",data:=.seq its.toArray },toks:=t' }:=
 I.laid (λ_ _ q=>K2 _ q) (E1 _) ⟨hz,its,0,hv,O5 _ rfl⟩
theorem Inv.fresh (I:Inv X pins σ H s):H s.heap.objs.size=none:=I.hok.fresh (E1 _)
theorem Inv.lstM (I:Inv X pins σ H s) (hH:H l=some (.lst xs)):xs.length<=sizeLine/\∃(its:List Value) (n:Nat),C4 xs its/\xs.length=its.length/\s.heap.get? l=some { cls:=.type "list",data:=.seq its.toArray n }:=by
 obtain⟨z,its,n,r,e⟩:=I.hok l _ hH
 exact⟨z,its,n,r,r.length,e⟩
theorem C4r {n:Nat} (h:n<=sizeLine):Builtin.List.listTooLong n=false:=by
 unfold Builtin.List.listTooLong
 exact decide_eq_false (by lia)
end
section
variable {X:Cx}
def B7c:V->List V->Hp->VK->Prop:=λx vs H Q=>∃l xs y,x=.ref l/\vs=[y]/\H l=some (.lst xs)/\xs.length < sizeLine/\Q .non (upd H l (.lst (xs++[y])))
theorem A1l:MtM X "list.append" B7c:=by
 intro pins s σ H x vs v us Q I rx rv h
 obtain⟨l,xs,y,rfl,rfl,hH,hz,q⟩:=h
 cases rx
 obtain⟨u,rfl,ru⟩:=rv.one
 obtain⟨z,its,n,r,hl,e⟩:=I.lstM hH
 refine call_meets F.slot_list_append ⟨_,e,rfl⟩ F.entry_list_append (F.args_list_append_2 _ _) (PySem.list_append l its.toArray n u (by rw[M5];lia)) ⟨e,?_⟩
 refine⟨.non,_,I.lset (its':=its++[u]) hH e (by simp) (r.append (.cons ru .nil)) ?_,rfl,q⟩
 rw[P0,C2g]
 lia
def C4s:V->List V->Hp->VK->Prop:=λx vs H Q=>∃l xs,x=.ref l/\vs=[]/\H l=some (.lst xs)/\Q .non (upd H l (.lst xs.reverse))
theorem C4t:MtM X "list.reverse" C4s:=by
 intro pins s σ H x vs v us Q I rx rv h
 obtain⟨l,xs,rfl,rfl,hH,q⟩:=h
 cases rx
 have hus:=rv.zero
 subst hus
 obtain⟨z,its,n,r,hl,e⟩:=I.lstM hH
 refine call_meets F.slot_list_reverse ⟨_,e,rfl⟩ F.entry_list_reverse (F.args_list_reverse_1 _) (AutoSeq1.list_reverse_list_0 l its.toArray n (by rw[M5];lia)) ⟨e,?_⟩
 refine⟨.non,_,I.lset (its':=its.reverse) hH e (by simp) r.reverse ?_,rfl,q⟩
 rw[b5]
 lia
def C4u:V->List V->Hp->VK->Prop:=λx vs H Q=>∃l xs,x=.ref l/\vs=[]/\H l=some (.lst xs)/\Q .non (upd H l (.lst []))
theorem C4v:MtM X "list.clear" C4u:=by
 intro pins s σ H x vs v us Q I rx rv h
 obtain⟨l,xs,rfl,rfl,hH,q⟩:=h
 cases rx
 have hus:=rv.zero
 subst hus
 obtain⟨z,its,n,r,hl,e⟩:=I.lstM hH
 refine call_meets F.slot_list_clear ⟨_,e,rfl⟩ F.entry_list_clear (F.args_list_clear_1 _) (AutoSeq1.list_clear_list_0 l its.toArray n (by rw[M5];lia)) ⟨e,?_⟩
 exact⟨.non,_,I.lset (its':=[]) (ys:=[]) hH e rfl .nil (J7 _),rfl,q⟩
def C4w:R2:=λx y H Q=>∃l b xs zs,x=.ref l/\y=.ref b/\H l=some (.lst xs)/\H b=some (.lst zs)/\xs.length + zs.length<=sizeLine/\∀p,H p=none->Q (.ref p) (upd H p (.lst (xs++zs)))
theorem B7d:OpR X (binaryOp .Add) C4w:=by
 intro pins s σ H x y v u Q I rx ry h
 obtain⟨l,b,xs,zs,rfl,rfl,hH,hB,hz,q⟩:=h
 cases rx
 cases ry
 obtain⟨z,its,n,r,hl,e⟩:=I.lstM hH
 obtain⟨z2,its2,n2,r2,hl2,e2⟩:=I.lstM hB
 refine PySem.P.add_list e e2 ?_ (by rw[M5,M5];lia)
 have ea:its.toArray++its2.toArray=(its++its2).toArray:=by simp
 rw[ea]
 exact⟨.ref _,_,I.lnew (t':=s.toks) (r.append r2) (by rw[P0];lia),rfl,q _ I.fresh⟩
def C4x:R2:=λx y H Q=>∃l k xs,x=.ref l/\y=.int k/\H l=some (.lst xs)/\-(2 ^ 63)<=k/\k < 2 ^ 63/\xs.length * k.toNat<=sizeLine/\
 ∀p,H p=none->Q (.ref p) (upd H p (.lst (E5 k.toNat xs).flatten))
theorem C4y {α:Type} (xs:List α) (k:Nat):(E5 k xs).flatten.length=k * xs.length:=by
 induction k with
 | zero=>simp
 | succ k ih=>rw[A0s,A4m,P0,ih,Nat.succ_mul,Nat.add_comm]
theorem C4z:OpR X (binaryOp .Mult) C4x:=by
 intro pins s σ H x y v u Q I rx ry h
 obtain⟨l,k,xs,rfl,rfl,hH,h1,h2,hz,q⟩:=h
 cases rx
 obtain⟨t,rfl⟩:=ry
 obtain⟨z,its,n,r,hl,e⟩:=I.lstM hH
 have hlen:its.toArray.size * k.toNat<=sizeLine:=by rw[M5,<-hl];exact hz
 have hcap:¬ its.toArray.size * k.toNat > (2 ^ 63 - 1) / 8:=by
  have:(sizeLine:Nat)<=(2 ^ 63 - 1) / 8:=by decide
  lia
 have hfit:¬ (!Builtin.List.listFitsIndex k)=true:=by
  rw[fitsIndex_both h1 h2]
  exact Q8
 have hlong:¬ Builtin.List.listTooLong (its.toArray.size * k.toNat)=true:=by
  rw[C4r hlen]
  exact Q8
 have hnew:List.foldl (λx1 x2=>x1++x2) #[] (E5 (if its.toArray.isEmpty=true then 0 else k.toNat) its.toArray)=(E5 k.toNat its).flatten.toArray:=by
  have f0:∀m:Nat,List.foldl (λx1 x2=>x1++x2) #[] (E5 m its.toArray)=(E5 m its).flatten.toArray:=λm=>by
   have:=B7b its m []
   rw[T9] at this
   exact this
  rw[f0]
  cases its with
  | nil=>simp
  | cons a r'=>rw[if_neg (by simp)]
 refine wpAny_binaryOp_repeat_ref (T:= "list") (U:= "int") DD ⟨_,e,rfl⟩ (λs'=>typeIs_int s' k t) noFill_list_mul F.fills_int_mul F.slot_int_rmul repeat_list F.slot_int_index.lookup
  (call_meets F.slot_int_rmul (typeIs_int s k t) F.entry_int_rmul (F.args_int_rmul_2 _ _) (int___rmul___int_list k t l its.toArray n)
   ⟨e,rfl,⟨_,e,rfl⟩,call_meets F.slot_list_mul ⟨_,e,rfl⟩ F.entry_list_mul (F.args_list_mul_2 _ _) (AutoListH.list___mul___list_int_3 l its.toArray n k t hfit hcap hlong) ⟨e,?_⟩⟩)
 rw[hnew]
 exact⟨.ref _,_,I.lnew (t':=s.toks) (r.rep k.toNat) (by rw[C4y,Nat.mul_comm];exact hz),rfl,q _ I.fresh⟩
end
section
variable {prog:Program} {w:World} {A:Around} {E:Value->Shared->Prop} {s:Shared}
set_option maxRecDepth 100000 in
end
section
variable {X:Cx}
end
end L2
namespace Att
open PySem PySem.W PySem.Calls PyProof.Rows
theorem C40 {P:Params} {h:Heap}:∀(ns:List Int) (vs:List Value),WellAll P h vs (ns.map WData.int)->IntsAre vs ns:=by
 intro ns
 induction ns with
 | nil=>
  intro vs w
  rw[A6d] at w
  cases w
  exact .nil
 | cons n ns ih=>
  intro vs w
  rw[O9] at w
  cases w with
  | cons a b=>
   cases a
   exact .cons _ _ (ih _ b)
theorem C41 {l:OpenLaw} {n:Nat} (hn:l.most=some n) {P:Params} {h:Heap} {args:List WData} {vals:List Value}
  (hpre:l.row.toRowW.claim.pre args=true) (hwl:WellAll P h vals args) :
  ∃a vs ns,vals=[Value.ref a]/\args=[WData.list (ns.map WData.int)]/\h.get? a=some { cls:=.type "list",data:=.seq vs.toArray }/\IntsAre vs ns/\ns.length<=n:=by
 have hsh:WShape.hasAll [] args [.list .int]=true:=(pre_splitW hpre).1
 have hc:l.pre.holds [] { args:=args }=true:=(pre_splitW hpre).2
 obtain⟨d,r,rfl,h1,h2⟩:=hasAllW_cons hsh
 obtain rfl:=hasAllW_nil h2
 obtain⟨xs,rfl,h3⟩:=hasW_list h1
 obtain⟨ns,rfl⟩:=items_int h3
 have hlen:ns.length<=n:=by
  unfold OpenLaw.pre at hc
  have h4:(WTm.not (.lt (.lit (.int (n:Int))) (.len (.arg 0)))).holds [] { args:=[.list (ns.map .int)] }=true:=by
   have h4:=(holds_andW hc).1
   rw[hn] at h4
   exact h4
  have h5:=condW_of h4 (w_not (w_lt w_lit (w_len_list (w_arg rfl))))
  rw[C1] at h5
  refine Nat.le_of_not_lt λq=>?_
  have q':(n:Int) < ((ns.length:Nat):Int):=by lia
  first
   | (rw[decide_eq_true q'] at h5;exact absurd h5 DD)
   | (simp at h5;lia)
 cases hwl with
 | cons w1 w2=>
  cases w2
  cases w1 with
  | list ho hall=>exact⟨_,_,ns,rfl,rfl,ho,C40 ns _ hall,hlen⟩
theorem C42 (l:OpenLaw) (args:List WData):l.row.toRowW.claim.post args (.bool true) args=true:=
 postW_of (r:=l.row.toRowW) (X:=(true == true))
  (show WShape.has [] (.bool true) .bool=true by first | rfl | decide | simp [WShape.has,WShape.arms,WShape.armsAll])
  (show (WTm.eq .res (.lit (.bool true))).value [] { args:=args,res:=some (.bool true),after:=args }=some (.bool (true == true)) from w_eq_bool (w_res rfl) w_lit) rfl
theorem attach_call {l:OpenLaw} {n:Nat} {q:Program} {loose:List Str} {XP:(Str->Option Value)->Heap->Prop} {YP:World->Heap->Prop} {d:DefRec}
  (hn:l.most=some n) (hdf:d.params.defaults=[])
  (call:∀(w:World) (s₀ s₁:Shared) (mg mb:Str->Option Value) (fa:Addr) (o:Obj) (pm cd doc:Value) (a:Addr) (vs:List Value) (ns:List Int),
   Ground q loose [] XP w s₀ mg mb s₁.heap->YP w s₁.heap->
   s₁.heap.get? fa=some o->o.data=.func (docDef d.name d.params d.body d.scope pm cd doc)->s₁.heap.CodeRec cd d.name->mg d.name=some (.ref fa)->
   s₁.heap.get? a=some { cls:=.type "list",data:=.seq vs.toArray }->IntsAre vs ns->ns.length<=n->s₁.gens=#[]->
   codeAny (model l.prog w) callerA (.call (.ref fa) ⟨[.ref a],[]⟩) (λr s'=>r=.ok (.ret (.bool true))/\OldK s₁.heap s'.heap/\s'.os=s₁.os/\AllBare s'.gens) s₁) :
  WalkO q loose XP YP l.row.toRowW d [] (λf vs=>PySem.call f vs):=by
 intro w s₀ s₁ mg mb G Y fa o pm cd doc dV kV ho hd hcd hD hmg hg args vals as hpre hlay hrd hwl hlo
 obtain rfl:dV=.none:=Dflts.none hD hdf
 obtain rfl:kV=.none:=Dflts.noKw hD
 obtain⟨a,vs,ns,rfl,rfl,hobj,hints,hlen⟩:=C41 hn hpre hwl
 refine enter_call (codeAny_mono (call w s₀ s₁ mg mb fa o pm cd doc a vs ns G Y ho (fd_plain hd) hcd hmg hobj hints hlen hg) λr s' hq=>?_)
 obtain⟨rfl,h2,h3,h4⟩:=hq
 exact⟨.inl ⟨.bool true,.bool true,[],rfl,λ_=>rfl,.bool true,C42 l _,λ_=>⟨List.Pairwise.nil,λ_ hm=>(nomatch hm)⟩⟩,h2,h3,h4⟩
section
variable {prog:Program} {w:World} {A:Around} {E:Value->Shared->Prop} {s:Shared} {K:Frag}
def D6a (h:Heap) (L d:Addr):List (Addr×Obj):=(G9 h.objs.size).filterMap λa=>if a=L\/a=d then none else (h.get? a).map λo=>(a,o)
end
end Att
namespace L2
open PySem PySem.Spec PyProof.Rows
theorem B1u:∀{vs:List Value} {ns:List Int},IntsAre vs ns->C4 (ns.map V.int) vs
 | _,_,.nil=>.nil
 | _,_,.cons n t h=>.cons ⟨t,rfl⟩ (B1u h)
def B1v (H:Hp):Prop:=∀b,H b=none\/∃o xs,H b=some (.frz o (.lst xs))
theorem C43 {P:Program} {w:World} {K:B0} {mg mb:Str->Option Value} {CX:CXT} {k:Nat} {fa a:Addr} {fd:FuncData} {x:Str} {sp:Sp} {s₁:Shared} {vs:List Value} {ns:List Int}
  (KX:K.In s₁.heap) (hns:s₁.heap.Ns mainGlobals mg) (hb:s₁.heap.Ns builtinsNs mb) (hbb:∀x:Str,x≠ "__name__" ->mb x=bootBuiltins x) (hlim:s₁.heap.NoLimit) (hg:s₁.gens=#[])
  (ha:s₁.heap.get? a=some { cls:=.type "list",data:=.seq vs.toArray }) (hi:IntsAre vs ns) (hl:ns.length<=sizeLine) (hr:N9 k callerA)
  (F:∀base:Heap,K.In base->base.Ns mainGlobals mg->C0 P w K mg base CX k fa fd [x] sp) (hbind:∀(s:Shared) (u:Value),BindsTo s fd ⟨[u],[]⟩ [(x,u)])
  (hsp:∀H:Hp,B1v H->SqL K H a (ns.map V.int)->sp [.ref a] H (λv _=>v=.bl true) λ_ _ _=>False)
  (hCX:∀H e s',CX [] H s₁ (λ_ _ _=>False) e s'->False) :
  codeAny (model P w) callerA (.call (.ref fa) ⟨[.ref a],[]⟩) (λr s'=>r=.ok (.ret (.bool true))/\OldK s₁.heap s'.heap/\s'.os=s₁.os/\AllBare s'.gens) s₁:=by
 have rv:=B1u hi
 have lenV:=hi.length
 have core:∀H:Hp,B1v H->SqL K H a (ns.map V.int)->HOk P w H s₁.heap->(∀b,H b≠none->b=a)->(H a≠none->K.lookup a=none)->
   codeAny (model P w) callerA (.call (.ref fa) ⟨[.ref a],[]⟩) (λr s'=>r=.ok (.ret (.bool true))/\OldK s₁.heap s'.heap/\s'.os=s₁.os/\AllBare s'.gens) s₁:=by
  intro H hO hS hok hA hK
  have base_of:∀{b:Addr} {o:Obj},s₁.heap.get? b=some o->H b=none->(A0x s₁.heap H).get? b=some o:=λe n=>C20 e n
  have noA:∀{b:Addr} {o:Obj} {es:Array DictEntry} {ep:Nat},s₁.heap.get? b=some o->o.data=.dict es ep->H b=none:=λ{b o es ep} e d=>by
   cases q:H b with
   | none=>rfl
   | some u=>
    have e':b=a:=hA b (by rw[q];simp)
    subst e'
    rw[ha] at e;cases e
    have d':Data.seq vs.toArray _=Data.dict es ep:=d
    cases d'
  have nsK:∀{b:Addr} {m:Str->Option Value},s₁.heap.Ns b m->(A0x s₁.heap H).Ns b m:=λ{b m} ⟨o,es,ep,e,d,r⟩=>⟨o,es,ep,base_of e (noA e d),d,r⟩
  have hKb:K.In (A0x s₁.heap H):=λb o e=>base_of (KX b o e) (by
   cases q:H b with
   | none=>rfl
   | some u=>
    have e':b=a:=hA b (by rw[q];simp)
    subst e'
    rw[hK (by rw[q];simp)] at e;cases e)
  have hM:Mod K mg (A0x s₁.heap H):=⟨hKb,nsK hns,⟨mb,nsK hb,hbb⟩,let ⟨mc,h1,h2⟩:=hlim;⟨mc,nsK h1,h2⟩⟩
  have e0:A2m P w K mg (A0x s₁.heap H) callerA [] s₁ H:=⟨rfl,hM,λb o e=>C21 e,Nat.le_of_eq (C2z _ _),trivial,λb hb=>absurd (show b∈([]:List Addr) from hb) (by simp),hok,.of_eq hg⟩
  refine codeAny_mono ((F _ hKb (nsK hns)).run callerA [] s₁ H ⟨[.ref a],[]⟩ [.ref a] [.ref a] _ _ hr e0 (hbind s₁ (.ref a)) (.cons rfl .nil) (hsp H hO hS)) λr s' h=>?_
  cases r with
  | error e=>exact (hCX H e s' h).elim
  | ok fl=>
   cases fl with
   | next=>exact False.elim h
   | brk=>exact False.elim h
   | cont=>exact False.elim h
   | ret u=>
    obtain⟨v,H',os,bare,un,hok',r',q⟩:=h
    have q':v=.bl true:=q
    subst q'
    obtain rfl:u=Value.bool true:=r'
    refine⟨rfl,OldK.of_keep λb o e=>?_,os,bare⟩
    cases q:H b with
    | none=>exact un.keep b o e q (by intro z;exact absurd (show b∈([]:List Addr) from z) (by simp)) (by simp)
    | some u=>
     rcases hO b with z | ⟨ob,xs,z⟩
     ·rw[q] at z;cases z
     ·have z2:=un.frzs b ob _ z
      obtain⟨e1,_⟩:=hok b _ z
      obtain⟨e2,_⟩:=hok' b _ z2
      rw[e] at e1;cases e1
      exact e2
 cases hk:K.lookup a with
 | some o=>
  have e:=KX a o hk
  rw[ha] at e
  cases e
  refine core (λ_=>none) (λ_=>.inl rfl) (.inr ⟨_,vs.toArray,_,hk,rfl,rfl,rfl,by rw[M5,lenV];exact hl,by simpa using rv⟩) (λb u z=>by have z':(none:Option HO)=some u:=z;cases z') (λb z=>absurd rfl z) λz=>absurd rfl z
 | none=>
  refine core (λb=>if b=a then some (.frz { cls:=.type "list",data:=.seq vs.toArray } (.lst (ns.map V.int))) else none) (λb=>?_) (.inl (.inr ⟨{ cls:=.type "list",data:=.seq vs.toArray },if_pos rfl⟩)) (λb u z=>?_) (λb z=>?_) λ_=>hk
  ·by_cases hb:b=a
   ·exact .inr ⟨_,_,if_pos hb⟩
   ·exact .inl (if_neg hb)
  ·by_cases hb:b=a
   ·have z':=(if_pos hb).symm.trans z
    cases z'
    subst hb
    exact⟨ha,by rw[C1];exact hl,vs,_,rv,ha⟩
   ·have z':=(if_neg hb).symm.trans z
    cases z'
  ·by_cases hb:b=a
   ·exact hb
   ·exact absurd (if_neg hb) z
theorem walk_of {l:PySem.W.OpenLaw} {n k:Nat} {q:Program} {loose:List Str} {XP:(Str->Option Value)->Heap->Prop} {YP:World->Heap->Prop} {d:DefRec} {K:Params->B0} {CX:World->CXT} {sp:World->Sp} {x:Str}
  (hn:l.most=some n) (hn2:n<=sizeLine) (hdf:d.params.defaults=[]) (hr:N9 k callerA)
  (hY:∀(w:World) (h:Heap),YP w h->(K w.params).In h)
  (F:∀(w:World) (mg:Str->Option Value) (fa:Addr) (h:Heap),(K w.params).In h->h.Ns mainGlobals mg->mg d.name=some (.ref fa)->
   ∃fd:FuncData,(∀(s:Shared) (u:Value),BindsTo s fd ⟨[u],[]⟩ [(x,u)])/\
    ∀base:Heap,(K w.params).In base->base.Ns mainGlobals mg->C0 l.prog w (K w.params) mg base (CX w) k fa fd [x] (sp w))
  (hsp:∀(w:World) (H:Hp) (a:Addr) (ns:List Int),ns.length<=n->B1v H->SqL (K w.params) H a (ns.map V.int)->sp w [.ref a] H (λv _=>v=.bl true) λ_ _ _=>False)
  (hCX:∀(w:World) (H:Hp) (s:Shared) (e:Value) (s':Shared),CX w [] H s (λ_ _ _=>False) e s'->False) :
  PySem.W.WalkO q loose XP YP l.row.toRowW d [] (λf vs=>PySem.call f vs):=by
 refine Att.attach_call hn hdf λw s₀ s₁ mg mb fa o pm cd doc a vs ns G Y ho hd hcd hmg hobj hints hlen hg=>?_
 have KX:=hY w _ Y
 obtain⟨fd,hb,hF⟩:=F w mg fa _ KX G.T.g hmg
 exact C43 KX G.T.g G.T.b G.T.builtins G.T.nolimit hg hobj hints (T8 hlen hn2) hr hF hb (λH hO hS=>hsp w H a ns hlen hO hS) λH e s'=>hCX w H s₁ e s'
def W8 (s:Stmt) (j:Nat):Stmt:=match s with
 | .ClassDef _ _ _ body _ _ _ _ _ _ _=>body.getD j (.Pass ⟨0,0,0,0⟩)
 | _=>.Pass ⟨0,0,0,0⟩
def A2p (s:Stmt):Arguments:=match s with
 | .FunctionDef _ a _ _ _ _ _ _ _ _=>a
 | _=>{ posonlyargs:=[],args:=[],vararg:=none,kwonlyargs:=[],kw_defaults:=[],kwarg:=none,defaults:=[] }
def A00 (s:Stmt):List Stmt:=match s with
 | .FunctionDef _ _ b _ _ _ _ _ _ _=>b
 | _=>[]
def B6 (s:Stmt):Scope:=match s with
 | .FunctionDef _ _ _ _ _ _ sc _ _ _=>sc
 | _=>{ kind:=.function,names:=[],isGenerator:=false,isCoroutine:=false }
abbrev CX0:CXT:=λ_ _ _ _ _ _=>False
abbrev E0:XK:=λ_ _ _=>False
theorem A8 {X:Cx}:A2n CX0 X E0:=λ_ _ _ _ _ _ _ h=>h.elim
structure Fun (K:B0) (x qual:Str) (st:Stmt) (f:Addr) (fd:FuncData):Prop where
 ex:∃(oc:Value) (od:Option Addr) (kV doc pm:Value) (an:Option Addr) (cdv ct:Value) (osl:Array (Option Value)),
  fd=A2d x qual (A2p st) (A00 st) (B6 st) .none kV doc pm an cdv ct/\K.lookup f=some ⟨oc,od,.func fd,osl⟩/\B5x K cdv qual=true
 kp:A6a K (.ref f)=true
section
variable {P:Program} {w:World} {K:B0} {mg:Str->Option Value} {base:Heap}
theorem Fun.ok {x qual:Str} {st:Stmt} {f:Addr} {fd:FuncData} {N ps:List Str} {k:Nat} {sp:Sp} (F:Fun K x qual st f fd) (S:D2 N ps (B6 st)) (len:∀vs H Q E,sp vs H Q E->vs.length=ps.length)
  (hbody:∀(cdv:Value) (A:Around) (outer:List Env) (s:Shared) (H:Hp) (vs:List V) (Q:VK) (E:XK),N9 k (A.deeper (envOfC qual (B6 st) s.heap.objs.size f cdv))->sp vs H Q E->
   ∃t,PSs (N1 CX0 P w K mg base N qual (B6 st) f cdv A outer s H E).nox (A00 st) t/\t { nx:=λ_ H'=>Q .non H',rt:=Q } (start N vs) H):C0 P w K mg base CX0 (k + 1) f fd ps sp:=by
 obtain⟨oc,od,kV,doc,pm,an,cdv,ct,osl,rfl,lk,hcd⟩:=F.ex
 refine C4d lk hcd S len λA outer s H vs Q E hr hsp=>?_
 obtain⟨t,h,q⟩:=hbody cdv A outer s H vs Q E hr hsp
 exact⟨t,h.nox,q⟩
theorem Fun.binds {x qual:Str} {st:Stmt} {f:Addr} {fd:FuncData} {ps:List Str} (F:Fun K x qual st f fd)
  (h:∀(kV doc pm:Value) (an:Option Addr) (cdv ct:Value) (us:List Value),us.length=ps.length->bindArgs (A2d x qual (A2p st) (A00 st) (B6 st) .none kV doc pm an cdv ct) ⟨us,[]⟩=pure (ps.zip us)):l8 K fd ps []:=by
 obtain⟨oc,od,kV,doc,pm,an,cdv,ct,osl,rfl,lk,hcd⟩:=F.ex
 exact .all (h kV doc pm an cdv ct)
theorem C44 {x qual:Str} {st:Stmt} {f:Addr} {oc:Value} {od an:Option Addr} {osl:Array (Option Value)} {kV doc pm cdv ct:Value} (l:K.lookup f=some ⟨oc,od,.func (A2d x qual (A2p st) (A00 st) (B6 st) .none kV doc pm an cdv ct),osl⟩)
  (c:B5x K cdv qual=true) (k:A6a K (.ref f)=true):Fun K x qual st f (A2d x qual (A2p st) (A00 st) (B6 st) .none kV doc pm an cdv ct):=⟨⟨oc,od,kV,doc,pm,an,cdv,ct,osl,rfl,l,c⟩,k⟩
end
theorem A8x {n:Nat} (h:n<=1000):n < sizeLine:=C2h h (DD)
section
variable {X:Cx}
theorem pv (i:Nat) {x:Str} {pos:Pos} (hN:autoParam (X.N[i]?=some x) RF._auto_1) (hv:Vis X.env.scope x:=by first | exact B9 rfl | exact p9 (B9 rfl) | exact p9 (p9 rfl)) (hd:autoParam ((x == ("__debug__" : Str))=false) DD._auto_1)
  (hcd:autoParam ((x == ("__classdict__" : Str))=false) DD._auto_1):PE X (.Name x pos) (W1 i):=C23 hN hv hd hcd
end
theorem D0 {A B:Prop} (h:B):if false=true then A else B:=by
 rw[if_neg Q8]
 exact h
theorem F5 {A B:Prop} (h:A):if true=true then A else B:=by
 rw[if_pos rfl]
 exact h
theorem A4x {c A B:Prop} [Decidable c] (h1:c->A) (h2:¬ c->B):if c then A else B:=by
 by_cases h:c
 ·rw[if_pos h]
  exact h1 h
 ·rw[if_neg h]
  exact h2 h
def Same (H H':Hp):Prop:=∀b o,H b=some o->H' b=some o
theorem Same.refl (H:Hp):Same H H:=λ_ _ h=>h
end L2
set_option maxHeartbeats 4000000
namespace L2
open PySem PySem.Spec PyProof.Rows
def W9 (cells:List (Str×Addr)):List (Str×NameKind)->List (Str×Addr)->List (Str×Addr)
 | [],cs=>cs
 | (n,k)::r,cs=>W9 cells r (if k == .free then (n,(cells.lookup n).getD 0)::cs else cs)
theorem B7e {scope:Scope} {env:Env} (h:∀y∈scope.names,y.2=.free->∃c,env.cells.lookup y.1=some c):closureFor scope env=pure (W9 env.cells scope.names []):=by
 have key:∀(l:List (Str×NameKind)) (cs:List (Str×Addr)),(∀y∈l,y.2=.free->∃c,env.cells.lookup y.1=some c)->
   (forIn l cs λ(x:Str×NameKind) (r:List (Str×Addr))=>if (x.2 == NameKind.free)=true then do let a <-cellOf env x.1;pure (ForInStep.yield ((x.1,a)::r)) else pure (ForInStep.yield r):Sem (List (Str×Addr)))=pure (W9 env.cells l cs):=by
  intro l
  induction l with
  | nil=>intro cs _;rfl
  | cons y r ih=>
   intro cs hl
   obtain⟨n,k⟩:=y
   rw[List.forIn_cons]
   by_cases hk:k=.free
   ·subst hk
    obtain⟨c,hc⟩:=hl (n,.free) D4 rfl
    have hc':env.cells.lookup n=some c:=hc
    have e1:cellOf env n=pure c:=by unfold cellOf;rw[hc']
    simp only[beq_self_eq_true,if_true,e1,pure_bind]
    rw[ih _ λz hz=>hl z (C8 _ hz)]
    show _=pure (W9 env.cells r (if (NameKind.free == NameKind.free)=true then (n,(env.cells.lookup n).getD 0)::cs else cs))
    rw[hc']
    rfl
   ·have hb:(k == NameKind.free)=false:=by simpa using hk
    simp only[hb,A6f,if_false,pure_bind]
    rw[ih _ λz hz=>hl z (C8 _ hz)]
    show _=pure (W9 env.cells r (if (k == NameKind.free)=true then (n,(env.cells.lookup n).getD 0)::cs else cs))
    rw[hb]
    rfl
 have k2:=key scope.names [] h
 have e:closureFor scope env=((forIn scope.names [] λ(x:Str×NameKind) (r:List (Str×Addr))=>if (x.2 == NameKind.free)=true then do let a <-cellOf env x.1;pure (ForInStep.yield ((x.1,a)::r)) else pure (ForInStep.yield r):Sem (List (Str×Addr))) >>= λcs=>pure cs):=rfl
 rw[e,k2]
 rfl
theorem B7f {cells:List (Str×Addr)}:∀{l:List (Str×NameKind)} {cs:List (Str×Addr)},(∀y∈l,y.2=.free->∃c,cells.lookup y.1=some c)->(∀x c,cs.lookup x=some c->cells.lookup x=some c)->
  ∀x c,(W9 cells l cs).lookup x=some c->cells.lookup x=some c
 | [],_,_,h,x,c,e=>h x c e
 | (n,k)::r,cs,hl,h,x,c,e=>by
  unfold W9 at e
  refine B7f (l:=r) (λz hz=>hl z (C8 _ hz)) (λy d q=>?_) x c e
  split at q
  ·rename_i hk
   obtain⟨c0,hc0⟩:=hl (n,k) D4 (by simpa using hk)
   have hc0':cells.lookup n=some c0:=hc0
   rw[hc0'] at q
   rw[r8] at q
   split at q
   ·rename_i hb
    have:=eq_of_beq hb
    subst this
    rw[hc0']
    exact q
   ·exact h y d q
  ·exact h y d q
theorem B7g {cells:List (Str×Addr)} {x:Str}:∀{l:List (Str×NameKind)} {cs:List (Str×Addr)},(∃c,cs.lookup x=some c)->∃c,(W9 cells l cs).lookup x=some c
 | [],_,h=>h
 | (n,k)::r,cs,h=>by
  unfold W9
  refine B7g (l:=r) ?_
  split
  ·rw[r8]
   split
   ·exact⟨_,rfl⟩
   ·exact h
  ·exact h
theorem B1w {cells:List (Str×Addr)} {x:Str}:∀{l:List (Str×NameKind)} {cs:List (Str×Addr)},(x,NameKind.free)∈l->∃c,(W9 cells l cs).lookup x=some c
 | (n,k)::r,cs,h=>by
  unfold W9
  rcases J1.mp h with e | h
  ·injection e with e1 e2
   subst e1 e2
   refine B7g (l:=r) ?_
   simp only[beq_self_eq_true,if_true]
   rw[r8]
   simp
  ·exact B1w (l:=r) h
structure CA where
 s:Shared
 H:Hp
 C:Addr
 fp:List Addr
abbrev V3 (X:Cx) (scope:Scope) (N':List Str) (a:CA):Cx where
 prog:=X.prog
 w:=X.w
 K:=X.K
 mg:=X.mg
 base:=X.base
 A:=X.A
 N:=N'
 s₀:=a.s
 H₀:=a.H
 env:=compEnvC scope (W9 X.env.cells scope.names []) a.C X.env
 outer:=X.stack
 stack:=X.stack
 ex:=a.fp
 fn:=λ_=>false
 calm:=X.calm
 pn:=[]
 xe:=λ_ _=>False
structure M2 (N N':List Str) (osc scope:Scope) (j:Nat) (x:Str):Prop where
 nd:N'.Nodup
 at_:N'[j]?=some x
 sub:∀(i:Nat) y,i≠j->N'[i]?=some y->N[i]?=some y
 len:N'.length<=N.length + 1
 kind:scope.kind=.function
 cell:∀y∈scope.names,y.2≠.cell
 names:∀y∈scope.names,y.2=.local->scope.names.lookup y.1=some .local
 only:∀y∈scope.names,y.2=.local->y.1=x\/y.1∉N'
 loc:scope.names.lookup x=some .local
 okind:osc.kind=.function
 free:∀y∈scope.names,y.2=.free->osc.names.lookup y.1=some .cell
def B7h (N:List Str) (osc scope:Scope) (x:Str):Bool:=
 decide (N++[x]).Nodup&&decide (scope.kind=.function)&&decide (osc.kind=.function)&&(scope.names.lookup x == some .local)&&
  scope.names.all λy=>match y.2 with
   | .cell=>false
   | .local=>scope.names.lookup y.1 == some .local&&(y.1 == x||!((N++[x]).contains y.1))
   | .free=>osc.names.lookup y.1 == some .cell
   | _=>true
theorem M2.new {N:List Str} {osc scope:Scope} {x:Str} (h:B7h N osc scope x=true):M2 N (N++[x]) osc scope N.length x:=by
 unfold B7h at h
 simp only[A0r,decide_eq_true_eq,List.all_eq_true,beq_iff_eq] at h
 obtain⟨⟨⟨⟨h1,h2⟩,h3⟩,h4⟩,h5⟩:=h
 refine⟨h1,by simp,λi y ne e=>?_,by simp,h2,λy hy e=>?_,λy hy e=>?_,λy hy e=>?_,h4,h3,λy hy e=>?_⟩
 ·by_cases hi:i < N.length
  ·rw[A4j hi] at e;exact e
  ·rw[A6c (by lia)] at e
   cases q:i - N.length with
   | zero=>exact absurd (by lia) ne
   | succ k=>rw[q] at e;simp at e
 ·have:=h5 y hy;rw[e] at this;cases this
 ·have:=h5 y hy
  rw[e] at this
  simp only[A0r,beq_iff_eq] at this
  exact this.1
 ·have:=h5 y hy
  rw[e] at this
  simp only[A0r,Bool.or_eq_true,beq_iff_eq,Bool.not_eq_true',List.contains_eq_mem,decide_eq_false_iff_not] at this
  exact this.2
 ·have:=h5 y hy
  rw[e] at this
  simp only[beq_iff_eq] at this
  exact this
def Q5 (n j:Nat) (σ:St):St:=((σ++[none]).take n).set j none
theorem B7i {n j i:Nat} {σ:St} {v:V} (h:(Q5 n j σ)[i]?=some (some v)):i≠j/\σ[i]?=some (some v):=by
 unfold Q5 at h
 by_cases e:i=j
 ·subst e
  rw[A1h] at h
  simp only[if_true] at h
  split at h <;> cases h
 ·refine⟨e,?_⟩
  rw[A0o (Ne.symm e)] at h
  have h2:(σ++[none])[i]?=some (some v):=by
   by_cases hi:i < n
   ·rw[List.getElem?_take_of_lt hi] at h;exact h
   ·rw[A2f (by rw[b4];lia)] at h;cases h
  by_cases hi:i < σ.length
  ·rw[A4j hi] at h2;exact h2
  ·rw[A6c (by lia)] at h2
   cases q:i - σ.length with
   | zero=>rw[q] at h2;cases h2
   | succ k=>rw[q] at h2;cases h2
theorem C45 {n j:Nat} {σ:St} (h:n<=σ.length + 1):(Q5 n j σ).length=n:=by
 unfold Q5
 rw[W0,b4,P0]
 simp;lia
theorem A6z {env:Env}:∀{names:List (Str×NameKind)} {x:Str},((names.map λ(n,k)=>if (k == NameKind.free&&env.scope.kind == .function&&env.kindOf n == some .cell) then (n,NameKind.cell) else (n,k)).lookup x=some .cell\/
  (names.map λ(n,k)=>if (k == NameKind.free&&env.scope.kind == .function&&env.kindOf n == some .cell) then (n,NameKind.cell) else (n,k)).lookup x=some .free)->(∀y∈names,y.2≠.cell)->(x,NameKind.free)∈names
 | [],_,h,_=>by rcases h with h | h <;> cases h
 | (n,k)::r,x,h,hc=>by
  rw[O9] at h
  dsimp only at h
  by_cases hk:(k == NameKind.free&&env.scope.kind == .function&&env.kindOf n == some .cell)=true
  ·rw[if_pos hk] at h
   simp only[r8] at h
   cases hx:x == n with
   | true=>
    have e:=eq_of_beq hx
    subst e
    have k':k=.free:=by
     rw[A0r,A0r] at hk
     simpa using hk.1.1
    subst k'
    exact D4
   | false=>
    simp only[hx] at h
    exact C8 _ (A6z h λy hy=>hc y (C8 _ hy))
  ·rw[if_neg hk] at h
   simp only[r8] at h
   cases hx:x == n with
   | true=>
    have e:=eq_of_beq hx
    subst e
    simp only[hx] at h
    rcases h with h | h
    ·exact absurd (Option.some.inj h) (hc (x,k) D4)
    ·have:=Option.some.inj h
     subst this
     exact D4
   | false=>
    simp only[hx] at h
    exact C8 _ (A6z h λy hy=>hc y (C8 _ hy))
theorem A8y {env:Env}:∀{names:List (Str×NameKind)} {x:Str},(names.map λ(n,k)=>if (k == NameKind.free&&env.scope.kind == .function&&env.kindOf n == some .cell) then (n,NameKind.cell) else (n,k)).lookup x=some .local->(x,NameKind.local)∈names
 | [],_,h=>by cases h
 | (n,k)::r,x,h=>by
  rw[O9] at h
  dsimp only at h
  by_cases hk:(k == NameKind.free&&env.scope.kind == .function&&env.kindOf n == some .cell)=true
  ·rw[if_pos hk] at h
   simp only[r8] at h
   cases hx:x == n with
   | true=>simp only[hx] at h;cases h
   | false=>
    simp only[hx] at h
    exact C8 _ (A8y h)
  ·rw[if_neg hk] at h
   simp only[r8] at h
   cases hx:x == n with
   | true=>
    have e:=eq_of_beq hx
    subst e
    simp only[hx] at h
    have:=Option.some.inj h
    subst this
    exact D4
   | false=>
    simp only[hx] at h
    exact C8 _ (A8y h)
section
variable {X:Cx} {pins:List (Addr×Obj)} {σ:St} {H:Hp} {s:Shared}
structure Own (X:Cx) (pins:List (Addr×Obj)) (H:Hp) (C:Addr):Prop where
 no:H C=none
 ne:C≠X.env.locals
 ab:X.s₀.heap.objs.size<=C
 ce:∀x c,X.env.cells.lookup x=some c->c≠C
 pi:∀p∈X.pn++pins,p.1≠C
theorem Inv.own {C:Addr} {H':Hp} (I:Inv X pins σ H s) (h:s.heap.objs.size<=C) (hn:H' C=none):Own X pins H' C:=by
 refine⟨hn,A4i (V7 I.lt h),T8 I.sz h,λx c e z=>?_,λp hp z=>?_⟩
 ·obtain⟨v,q⟩:=I.cell x c e
  exact absurd (V7 q.lt (by rw[z];exact h)) (g7 _)
 ·exact absurd (V7 (G8 (I.pin p hp).1) (by rw[z];exact h)) (g7 _)
theorem Inv.own_turn {C:Addr} {h':Heap} (I:Inv X pins σ H s) (o:Own X pins H C) (hs:Heap.SameBut C s.heap h'):Inv X pins σ H { s with heap:=h' }:=
 I.turned (t':=s.toks) (λb ob hb e=>(hs.2 b hb).trans e) o.no o.ne (.inr o.ab) o.ce o.pi
theorem Inv.track {D:Addr} {ys:List V} {its:List Value} {n:Nat} (I:Inv X pins σ H s) (o:Own X pins H D) (e:s.heap.get? D=some { cls:=.type "list",data:=.seq its.toArray n }) (r:C4 ys its) (hz:ys.length<=sizeLine) :
  Inv X pins σ (upd H D (.lst ys)) s:=by
 have nD:∀b u,H b=some u->b≠D:=λb u q z=>by rw[z,o.no] at q;cases q
 have hok:HOk X.prog X.w (upd H D (.lst ys)) s.heap:=λb u q=>by
  by_cases hb:b=D
  ·subst hb
   rw[B2] at q
   cases q
   exact⟨hz,its,n,r,e⟩
  ·rw[B4 hb] at q
   exact (I.hok b u q).stay (λ_ _ _ z=>z) (λc z=>by rw[B4 (nD c _ z)];exact z) λc xs z=>by rw[B4 (nD c _ z)];exact z
 have:=I.step (H':=upd H D (.lst ys)) (h':=s.heap) (g':=s.gens) (t':=s.toks) (d':=s.drawn) (ch:=[D]) (λb hb=>by
   have e':b=D:=by simpa using hb
   subst e'
   exact⟨.inr o.ab,o.ne,o.ce,o.pi⟩) (λb ob _ _ _ q _=>q) (λb ob _ _ _ q _=>⟨ob.slots,q⟩) (λb ob hc q z=>by rw[B4 (by simpa using hc)];exact z) (λb ob _ q=>⟨ob,q⟩)
  (λb xs q=>by rw[B4 (nD b _ q)];exact q) (λb ob u q=>by rw[B4 (nD b _ q)];exact q) (λb ps q=>⟨#[],by rw[B4 (nD b _ q),q];simp⟩) (λm z=>z) hok I.bare
 exact this
end
section
variable {prog:Program} {w:World} {A:Around} {R:Result->Shared->Prop} {s:Shared}
theorem C46 {elt target iter:Expr} {ifs:List Expr} {scope:Scope} {pos:Pos} {it acc:Value} {env:Env} (I:Nat->Shared->Prop)
  (turn:∀n s,I n s->∀E:Value->Shared->Prop,wpAny (model prog w) A (pyNext it) (λr s₁=>match r with
   | none=>R (.ok .next) s₁
   | some v=>wpAny (model prog w) A (letOwnedTupleGo target it v) (λ_ s₁'=>wpAny (model prog w) A (assign target env v) (λ_ s₂=>
     wpAny (model prog w) A (forIn ifs true λc r=>if r=true then do let ok <-isTrue c env (eval c env);pure (ForInStep.yield ok) else pure (ForInStep.yield r)) (λok s₃=>
      if ok=true then wpAny (model prog w) A (eval elt env) (λx s₄=>
       wpAny (model prog w) A (call (.builtin "list.append") [acc,x]) (λ_ s₅=>∃m,m < n/\I m s₅) E s₄) E s₃
      else ∃m,m < n/\I m s₃) E s₂) E s₁') E s₁) E s)
  (n:Nat) (h:I n s) :
  codeAny (model prog w) A (.compLoop (.ListComp elt [⟨target,iter,ifs,0⟩] scope pos) 0 it acc env) R s:=by
 refine codeAny_loop rfl I (λn s hI=>?_) n h
 show wpAny _ A ((compTurn (.ListComp elt [⟨target,iter,ifs,0⟩] scope pos) 0 it acc env).onRaise (λx=>do noteFrame x env;theTreesLotGoes x)) _ _ s
 refine wpAny_noted ?_
 rw[compTurn_list]
 refine wpAny_bind (wpAny_standAt (wpAny_bind (wpAny_mono (turn n s hI _) (λr s₁ h₁=>?_) λ_ _ h'=>h')))
 cases r with
 | none=>exact wpAny_pure h₁
 | some v=>
  refine wpAny_bind (wpAny_mono h₁ (λ_ s₁' h₁'=>?_) λ_ _ h'=>h')
  refine wpAny_bind (wpAny_mono h₁' (λ_ s₂ h₂=>wpAny_bind (wpAny_mono h₂ (λok s₃ h₃=>?_) λ_ _ h'=>h')) λ_ _ h'=>h')
  cases ok with
  | false=>exact wpAny_pure ⟨rfl,h₃⟩
  | true=>
   exact wpAny_bind (wpAny_bind (wpAny_mono h₃ (λx s₄ h₄=>wpAny_bind (wpAny_mono h₄ (λ_ s₅ h₅=>wpAny_pure (wpAny_pure ⟨rfl,h₅⟩)) λ_ _ h'=>h')) λ_ _ h'=>h'))
end
def PTs (X:Cx) (ifs:List Expr) (t:TT):Prop:=
 ∀(pins:List (Addr×Obj)) (s:Shared) (σ:St) (H:Hp) (Q:Bool->Hp->Prop),Inv X pins σ H s->t σ H Q->
  wpAny (model X.prog X.w) X.A (forIn ifs true λc r=>if r=true then do let ok <-isTrue c X.env (eval c X.env);pure (ForInStep.yield ok) else pure (ForInStep.yield r)) (TP X pins σ Q) X.xe s
def b9:TT:=λ_ H Q=>Q true H
theorem d8 {X:Cx}:PTs X [] b9:=λ_ _ _ H _ I h=>wpAny_tests_nil ⟨H,I,h⟩
theorem B1x {X:Cx} {c:Expr} {t:TT} (h:PT X c t):PTs X [c] t:=λpins s σ H Q I q=>wpAny_tests_one (h pins s σ H Q I q)
def A4y (σ:St) (n j:Nat) (tt:CA->TT) (te:CA->TE) (J:It) (H1:Hp) (Q:List V->Hp->Prop):Prop:=
 ∃W:Nat->Nat->List V->Hp->Prop,(∃m,W 0 m [] H1)/\∀i m ys H,W i m ys H->ys.length<=sizeLine/\
  ((J.stop i H/\Q ys H)\/(J.go i H/\∃N:List V->Hp->Prop,(∀ys' H',N ys' H'->∃m',m' < m/\W (i + 1) m' ys' H')/\
   ∀x H',J.yld i H x H'->∀a:CA,tt a ((Q5 n j σ).set j (some x)) H' λb H2=>if b=true then te a ((Q5 n j σ).set j (some x)) H2 λy H3=>N (ys++[y]) H3 else N ys H2))
def A4z (wi:TI) (n j:Nat) (tt:CA->TT) (te:CA->TE):TE:=fun σ H Q=>wi σ H λJ H1=>A4y σ n j tt te J H1 λys H2=>∀p,H2 p=none->Q (.ref p) (upd H2 p (.lst ys))
section
variable {X:Cx} {pins:List (Addr×Obj)} {σ:St} {H:Hp} {s:Shared}
theorem B7j {elt iter:Expr} {x:Str} {px pos:Pos} {ifs:List Expr} {scope:Scope} {N':List Str} {j:Nat} {tt:CA->TT} {te:CA->TE} {it:Addr} {fp:List Addr} {tn:Nat->Heap->Prop} {J:It} {Q:List V->Hp->Prop}
  {RR:Value->Addr->Result->Shared->Prop} {E:Value->Shared->Prop}
  (S:M2 X.N N' X.env.scope scope j x) (hc:X.calm=true)
  (ht:∀a:CA,PTs (V3 X scope N' a) ifs (tt a)) (he:∀a:CA,PE (V3 X scope N' a) elt (te a))
  (I:Inv X pins σ H s) (T:A2k X.prog X.w X.K (.Name x px) J fp it tn) (st:tn 0 s.heap) (f2:∀b∈fp,i7 X pins H b) (h:A4y σ N'.length j tt te J H Q)
  (hRR:∀(D C:Addr) (ys:List V) (H':Hp) (s':Shared) (m:Str->Option Value),s'.heap.Ns C m->Own X pins (upd H' D (.lst ys)) C->Inv X pins σ (upd H' D (.lst ys)) s'->H' D=none->Q ys H'->RR (.ref D) C (.ok .next) s') :
  wpAny (model X.prog X.w) X.A (newList []) (λacc s₃=>wpAny (model X.prog X.w) X.A (newFunctionEnv scope X.env.globals (W9 X.env.cells scope.names []) [] X.env.qual none .none (some X.env)) (λcenv s₄=>
   codeAny (model X.prog X.w) X.A (.compStart (.ListComp elt [⟨.Name x px,iter,ifs,0⟩] scope pos) 0 (.ref it) acc { cenv with scope:=relabel scope X.env }) (RR acc cenv.locals) s₄) E s₃) E s:=by
 refine wpAny_newObj_type (wpAny_newFunctionEnv S.cell (by intro y hy;simp at hy) (λh₁ hns₁ hsb₁=>?_) S.kind)
 dsimp only at hns₁ hsb₁ ⊢
 generalize hH2:s.heap.push { cls:=.type "list",dict:=none,data:=.seq ([]:List Value).toArray }=H2 at hns₁ hsb₁ ⊢
 have hC:H2.objs.size=s.heap.objs.size + 1:=by rw[<-hH2,B5u]
 have hDC:s.heap.objs.size≠H2.objs.size:=by rw[hC];exact O4 (B5v _)
 have hCle:s.heap.objs.size<=H2.objs.size:=by rw[hC];exact A0q _
 have below:∀b,b < s.heap.objs.size->b≠H2.objs.size/\b≠s.heap.objs.size:=λb hb=>⟨by rw[hC];exact O4 (Nat.lt_succ_of_lt hb),O4 hb⟩
 have old:∀b o,s.heap.get? b=some o->h₁.get? b=some o:=λb o e=>hsb₁.extBut b o (below b (G8 e)).1 (K2 _ (hH2▸K2 _ e))
 have hacc:h₁.get? s.heap.objs.size=some { cls:=.type "list",data:=.seq ([]:List Value).toArray }:=hsb₁.extBut _ _ hDC (K2 _ (hH2▸O5 _ rfl))
 have fplt:∀b∈fp,b < s.heap.objs.size:=λb hb=>let ⟨_,e,_⟩:=T.obj 0 _ st b hb;G8 e
 have hcells:∀y∈scope.names,y.2=.free->∃c,X.env.cells.lookup y.1=some c:=λy hy e=>I.ok.has y.1 (.inl (S.free y hy e))
 have sub:∀y c,(W9 X.env.cells scope.names []).lookup y=some c->X.env.cells.lookup y=some c:=B7f hcells (λy c e=>by cases e)
 let a:CA:=⟨s,H,H2.objs.size,fp⟩
 have ok:(V3 X scope N' a).Ok:=by
  refine⟨I.ok.mod,S.kind,I.ok.glob,I.ok.blt,hCle,λy z c e1 e2=>I.ok.inj y z c (sub y c e1) (sub z c e2),λy hy=>?_,λy c z=>?_,I.ok.hd,I.ok.frames,.inl rfl,λb hb=>⟨(below b (fplt b hb)).1,λy c e=>(f2 b hb).2.2.2.2.1 y c (sub y c e)⟩,I.bs,
   T8 I.ok.bsz I.sz,λb o e hb=>?_,λb hb z=>?_,I.stack,I.stkFree⟩
  ·exact B1w (A6z hy S.cell)
  ·cases z
  ·rcases (f2 b hb).2.2.2.1 with z | z
   ·exact I.ok.noex b o e z
   ·exact absurd (V7 (G8 (I.ok.bs b o e).1) z) (g7 _)
  ·rcases J1.mp (I.stkSub b z) with e | e
   ·exact (f2 b hb).2.1 e
   ·exact (f2 b hb).2.2.1 e
 have look:∀(h':Heap) (m':Str->Option Value),(∀y c,X.env.cells.lookup y=some c->∀v,s.heap.IsCell c v->h'.IsCell c v)->∀(i:Nat) (y:Str) (v:V),N'[i]?=some y->(Q5 N'.length j σ)[i]?=some (some v)->
   Vis (relabel scope X.env) y->∃u,E2 v u/\B58 (compEnvC scope (W9 X.env.cells scope.names []) H2.objs.size X.env) h' m' y u:=by
  intro h' m' kc i y v e1 e2 e3
  obtain⟨ne,e4⟩:=B7i e2
  have e5:=S.sub i y ne e1
  have hy:(y,NameKind.free)∈scope.names:=by
   rcases e3 with e3 | e3 | e3
   ·rcases S.only _ (A8y e3) rfl with z | z
    ·exact absurd (A8k S.nd e1 (by rw[S.at_];exact congrArg some z.symm)) ne
    ·exact absurd (Q9 e1) z
   ·exact A6z (.inl e3) S.cell
   ·exact A6z (.inr e3) S.cell
  have kcell:X.env.scope.names.lookup y=some .cell:=S.free _ hy rfl
  obtain⟨m0,hn0,hl0⟩:=I.loc
  obtain⟨u,r,l⟩:=hl0 i y v e5 e4 (.inr (.inl kcell))
  refine⟨u,r,.inr ⟨?_,?_⟩⟩
  ·rcases e3 with e3 | e3 | e3
   ·rcases S.only _ (A8y e3) rfl with z | z
    ·exact absurd (A8k S.nd e1 (by rw[S.at_];exact congrArg some z.symm)) ne
    ·exact absurd (Q9 e1) z
   ·exact .inl e3
   ·exact .inr e3
  ·rcases l with ⟨k,_⟩ | ⟨k,c,e,z⟩
   ·have k':X.env.scope.names.lookup y=some .local:=k
    rw[kcell] at k';cases k'
   ·obtain⟨c',e'⟩:=B1w (cells:=X.env.cells) (cs:=[]) hy
    have e'':=sub y c' e'
    rw[e] at e''
    cases e''
    exact⟨c,e',kc y c e _ z⟩
 have cellOld:∀y c,X.env.cells.lookup y=some c->∀v,s.heap.IsCell c v->h₁.IsCell c v:=λy c _ v zz232=>el2 zz232 λo ho hd=>⟨o,old c o ho,hd⟩
 have fr0:∀b,s.heap.objs.size<=b->H b=none:=λb hb=>I.hok.fresh hb
 have noPn:∀p,p∉(V3 X scope N' a).pn++([]:List (Addr×Obj)):=λp hp=>by simp at hp
 have I0:Inv (V3 X scope N' a) [] (Q5 N'.length j σ) H { s with heap:=h₁,toks:=s.toks + ([]:List (Str×Value)).length }:=by
  refine⟨ok,rfl,I.bare,Un.kept old,⟨_,hns₁,look h₁ _ cellOld⟩,λy c e=>?_,fr0 _ hCle,λy c e=>I.freeC y c (sub y c e),λp hp=>absurd hp (noPn p),I.hok.kept old,C45 (by rw[I.len];exact S.len)⟩
  obtain⟨v,z⟩:=I.cell y c (sub y c e)
  exact⟨v,cellOld y c (sub y c e) v z⟩
 obtain⟨W,⟨m0,w0⟩,turn⟩:=h
 have loop:∀s₃:Shared,s₃={ s with heap:=h₁,toks:=s.toks + ([]:List (Str×Value)).length }->
   codeAny (model X.prog X.w) X.A (.compLoop (.ListComp elt [⟨.Name x px,iter,ifs,0⟩] scope pos) 0 (.ref it) (.ref s.heap.objs.size) (compEnvC scope (W9 X.env.cells scope.names []) H2.objs.size X.env)) (RR (.ref s.heap.objs.size) H2.objs.size) s₃:=by
  rintro s₃ rfl
  refine C46 (λk s'=>∃(i:Nat) (ys:List V) (its:List Value) (n:Nat) (H':Hp),Inv (V3 X scope N' a) [] (Q5 N'.length j σ) H' s'/\s'.heap.get? s.heap.objs.size=some { cls:=.type "list",data:=.seq its.toArray n }/\C4 ys its/\
   H' s.heap.objs.size=none/\tn i s'.heap/\(∀b∈fp,H' b=none)/\W i k ys H') ?_ m0
   ⟨0,[],[],0,H,I0,hacc,.nil,fr0 _ (E1 _),T.keep _ _ _ st λb hb o e=>old b o e,λb hb=>(f2 b hb).1,w0⟩
  rintro k s' ⟨i,ys,its,n,H',I',hD,rv,nD',st',fr',w'⟩ E'
  obtain⟨hz,hw⟩:=turn i k ys H' w'
  have ownD:Own (V3 X scope N' a) [] H' s.heap.objs.size:=⟨nD',hDC,E1 _,λy c e z=>by
   obtain⟨v,q⟩:=I.cell y c (sub y c e)
   exact absurd q.lt (by rw[z];exact g7 _),λp hp=>absurd hp (noPn p)⟩
  have fpok:∀(pl:List (Addr×Obj)) (H'':Hp),(∀b∈fp,H'' b=none)->(∀p∈pl,p.1∉fp)->∀b∈fp,i7 (V3 X scope N' a) pl H'' b:=λpl H'' hn hpl b hb=>
   ⟨hn b hb,(below b (fplt b hb)).1,λz=>by
    rcases J1.mp (I.stkSub b z) with e | e
    ·exact (f2 b hb).2.1 e
    ·exact (f2 b hb).2.2.1 e,.inl hb,λy c e=>(f2 b hb).2.2.2.2.1 y c (sub y c e),λp hp z=>by
    have hp':p∈pl:=by simpa using hp
    exact hpl p hp' (z▸hb)⟩
  have nDfp:s.heap.objs.size∉fp:=λz=>absurd (fplt _ z) (g7 _)
  have pinD:∀p∈([(s.heap.objs.size,{ cls:=.type "list",data:=.seq its.toArray n })]:List (Addr×Obj)),s'.heap.get? p.1=some p.2/\H' p.1=none/\p.1≠(V3 X scope N' a).env.locals/\p.1∉(V3 X scope N' a).fs/\∀v,p.2.data≠.cell v:=λp hp=>by
   have e:p=(s.heap.objs.size,{ cls:=.type "list",data:=.seq its.toArray n }):=by simpa using hp
   subst e
   refine⟨hD,nD',hDC,λz=>?_,λv z=>by cases z⟩
   rcases J1.mp (I.stkSub _ z) with e | e
   ·exact absurd I.lt (by rw[<-e];exact g7 _)
   ·exact I.nofs (E1 _) e
  have Ip:=I'.pins_of pinD
  have hpl:∀p∈([(s.heap.objs.size,{ cls:=.type "list",data:=.seq its.toArray n })]:List (Addr×Obj)),p.1∉fp:=λp hp=>by
   have e:p=(s.heap.objs.size,{ cls:=.type "list",data:=.seq its.toArray n }):=by simpa using hp
   subst e
   exact nDfp
  rcases hw with ⟨stop,q⟩ | ⟨go,N,hN,step⟩
  ·refine thn (T.done (V3 X scope N' a) rfl rfl rfl hc i _ s' _ H' E' Ip (fpok _ H' fr' hpl) st' stop) λr s4 zz233=>zz233.elim λhr I4=>?_
   subst hr
   have hD4:=(I4.pin (s.heap.objs.size,{ cls:=.type "list",data:=.seq its.toArray n }) (by simp)).1
   have J4:Inv X pins σ H' s4:=I.call' (ch:=fp) I4.os I4.base I4.hok I4.bare λb hb=>⟨(f2 b hb).2.2.2.1,(f2 b hb).2.1,(f2 b hb).2.2.2.2.1,(f2 b hb).2.2.2.2.2⟩
   obtain⟨m4,hn4,_⟩:=I4.loc
   have hC4:H' H2.objs.size=none:=I4.free
   exact hRR _ _ ys H' s4 m4 hn4 (I.own hCle (by rw[B4 (Ne.symm hDC)];exact hC4)) (J4.track (I.own (E1 _) nD') hD4 rv hz) nD' q
  ·refine thn (T.item (V3 X scope N' a) rfl rfl rfl hc i _ s' _ H' E' Ip (fpok _ H' fr' hpl) st' go) λr s5 zz234=>el2 zz234 λu hr h5=>?_
   subst hr
   refine thn h5 λ_ s6 zz235=>zz235.elim λxv zz236=>zz236.elim λH6 zz237=>zz237.elim λI6 zz238=>zz238.elim λr6 zz239=>zz239.elim λy6 zz240=>zz240.elim λst6 fr6=>?_
   have I6':=I6.pinned (fpok _ H6 fr6 hpl) (T.obj _ _ st6)
   refine wpAny_assign_Name (B08 I6' S.nd S.at_ (.inl (lookup_relabel_local S.loc)) r6 (λs7 I7=>?_) (.inr (lookup_relabel_local S.loc)))
   have wk:∀(i:Nat) v,(Q5 N'.length j σ)[i]?=some (some v)->((Q5 N'.length j σ).set j (some xv))[i]?=some (some v):=λi v e=>by
    rw[A0o (Ne.symm (B7i e).1)];exact e
   refine wpAny_mono (ht a _ s7 _ H6 _ I7 (step xv H6 y6 a)) (λok s8 zz241=>el2 zz241 λH8 I8 q8=>?_) λ_ _ z=>z.elim
   have tnk:∀{H9:Hp} {s9:Shared} {σ9:St},Inv (V3 X scope N' a) ([(s.heap.objs.size,{ cls:=.type "list",data:=.seq its.toArray n })]++A6w fp s6.heap) σ9 H9 s9->tn (i + 1) s9.heap/\(∀b∈fp,H9 b=none)/\s9.heap.get? s.heap.objs.size=some { cls:=.type "list",data:=.seq its.toArray n }/\H9 s.heap.objs.size=none:=λ{H9 s9 σ9} I9=>by
    refine⟨T.keep _ _ _ st6 λb hb o e=>(I9.pin (b,o) (A0p _ (A0p _ (A8m hb e)))).1,λb hb=>?_,?_⟩
    ·obtain⟨o,e,d⟩:=T.obj _ _ st6 b hb
     exact (I9.pin (b,o) (A0p _ (A0p _ (A8m hb e)))).2.1
    ·have z:=I9.pin (s.heap.objs.size,{ cls:=.type "list",data:=.seq its.toArray n }) (A0p _ (C2d _ (by simp)))
     exact⟨z.1,z.2.1⟩
   cases ok with
   | false=>
    obtain⟨m',hm,w8⟩:∃m',m' < k/\W (i + 1) m' ys H8:=hN _ _ (by simpa using q8)
    obtain⟨t1,t2,t3,t4⟩:=tnk I8
    exact⟨m',hm,i + 1,ys,its,n,H8,(I8.pins_of (pins':=[]) λp hp=>nomatch hp).weak (by rw[W0]) wk,t3,rv,t4,t1,t2,w8⟩
   | true=>
    have q8':=q8
    simp only[if_true] at q8'
    refine wpAny_mono (he a _ s8 _ H8 _ I8 q8') (λu9 s9 zz242=>el5 zz242 λv9 H9 I9 r9 q9=>?_) λ_ _ z=>z.elim
    obtain⟨m',hm,w9⟩:=hN _ _ q9
    obtain⟨t1,t2,t3,t4⟩:=tnk I9
    have hl:=rv.length
    refine append_at (hsz:=by show its.toArray.size<=sizeLine;rw[M5,<-hl];exact hz) t3 λh' hs' hD'=>?_
    have J9:=((I9.pins_of (pins':=[]) λp hp=>nomatch hp).weak (σ':=Q5 N'.length j σ) (by rw[W0]) wk).own_turn (C:=s.heap.objs.size) ⟨t4,ownD.ne,ownD.ab,ownD.ce,ownD.pi⟩ hs'
    refine⟨m',hm,i + 1,ys++[v9],its++[u9],n + 1,H9,J9,?_,C4.append rv (.cons r9 .nil),t4,T.keep _ _ _ t1 λb hb o e=>(hs'.2 b λz=>nDfp (z▸hb)).trans e,t2,w9⟩
    rw[List.push_toArray] at hD'
    exact hD'
 exact codeAny_compStart_list (loop _ rfl) (T.self _ 0 _ _ _ (T.keep _ _ _ st λb hb o e=>old b o e) (loop _ rfl))
theorem V4 {elt iter:Expr} {x:Str} {px pos:Pos} {ifs:List Expr} {scope:Scope} {N':List Str} {j:Nat} {wi:TI} {tt:CA->TT} {te:CA->TE} {osc:Scope} {N:List Str}
  (S:M2 N N' osc scope j x) (hc:X.calm=true) (hi:PI X (.Name x px) iter wi) (ht:∀a:CA,PTs (V3 X scope N' a) ifs (tt a)) (he:∀a:CA,PE (V3 X scope N' a) elt (te a))
  (ho:autoParam (X.env.scope=osc) RF._auto_1) (hN:autoParam (X.N=N) RF._auto_1) (hs:autoParam (∀x,foldedSetIterable iter X.env x=pure x) A2P._auto_1):PE X (.ListComp elt [⟨.Name x px,iter,ifs,0⟩] scope pos) (A4z wi N'.length j tt te):=by
 subst ho hN
 intro pins s σ H Q I h
 rw[eval_ListComp]
 have hcells:∀y∈scope.names,y.2=.free->∃c,X.env.cells.lookup y.1=some c:=λy hy e=>I.ok.has y.1 (.inl (S.free y hy e))
 refine wpAny_comprehension_free (use:=none) rfl hs (B7e hcells) S.kind S.names (wpAny_mono (hi pins s σ H _ I h) (λxv s₁ h₁=>wpAny_mono h₁ (λitv s₂ h₂=>?_) λ_ _ e=>e) λ_ _ e=>e)
 obtain⟨it,fp,tn,J,H2,rfl,I2,T,st2,f2,q2⟩:=h₂
 refine B7j (RR:=λacc C=>compPost (model X.prog X.w) X.A X.xe none (EP X pins σ Q) acc C) S hc ht he I2 T st2 f2 q2 ?_
 intro D C ys H' s' m hn own I' hD q
 refine⟨m,hn,λh' hs'=>⟨.ref D,_,I'.own_turn own hs',rfl,q D hD⟩⟩
theorem A2q {elt iter:Expr} {x y:Str} {px pos py spos:Pos} {ifs:List Expr} {scope:Scope} {N':List Str} {j i:Nat} {wi:TI} {tt:CA->TT} {te:CA->TE} {osc:Scope} {N:List Str}
  (nd:X.N.Nodup) (hi':X.N[i]?=some y) (hy:Loc X.env.scope y)
  (S:M2 N N' osc scope j x) (hc:X.calm=true) (hi:PI X (.Name x px) iter wi) (ht:∀a:CA,PTs (V3 X scope N' a) ifs (tt a)) (he:∀a:CA,PE (V3 X scope N' a) elt (te a))
  (hsw:autoParam (swapsWith (.ListComp elt [⟨.Name x px,iter,ifs,0⟩] scope pos) (some (.Name y py)) spos.line X.env=pure true) RF._auto_1)
  (hf:autoParam (X.fn y=true\/X.env.scope.names.lookup y=some .local) A0P._auto_1)
  (ho:autoParam (X.env.scope=osc) RF._auto_1) (hN:autoParam (X.N=N) RF._auto_1) (hs:autoParam (∀x,foldedSetIterable iter X.env x=pure x) A2P._auto_1) :
  PS X (.Assign [.Name y py] (.ListComp elt [⟨.Name x px,iter,ifs,0⟩] scope pos) spos) (λD σ H=>A4z wi N'.length j tt te σ H λv H1=>D.nx (σ.set i (some v)) H1):=by
 subst ho hN
 intro pins s σ H D I h
 have hcells:∀y∈scope.names,y.2=.free->∃c,X.env.cells.lookup y.1=some c:=λy hy e=>I.ok.has y.1 (.inl (S.free y hy e))
 rw[exec_Assign_Name_used _ _ _ _ hsw]
 refine wpAny_bind (wpAny_standAt (wpAny_bind ?_))
 show wpAny _ X.A (do let _ <-comprehension (.ListComp elt [⟨.Name x px,iter,ifs,0⟩] scope pos) scope X.env _ (newList []) false (eval iter X.env) (some (assign (.Name y py) X.env))) _ _ s
 refine wpAny_bind (wpAny_mono (wpAny_comprehension_free (use:=some (assign (.Name y py) X.env)) (Q:=λ_ s'=>SP X pins D .next s') rfl hs (B7e hcells) S.kind S.names
  (wpAny_mono (hi pins s σ H _ I h) (λxv s₁ h₁=>wpAny_mono h₁ (λitv s₂ h₂=>?_) λ_ _ e=>e) λ_ _ e=>e)) (λ_ s' hq=>wpAny_pure (wpAny_pure hq)) λ_ _ e=>e)
 obtain⟨it,fp,tn,J,H2,rfl,I2,T,st2,f2,q2⟩:=h₂
 refine B7j (RR:=λacc C=>compPost (model X.prog X.w) X.A X.xe (some (assign (.Name y py) X.env)) (λ_ s'=>SP X pins D .next s') acc C) S hc ht he I2 T st2 f2 q2 ?_
 intro Da C ys H' s' m hn own I' hD q
 show wpAny _ X.A (assign (.Name y py) X.env (.ref Da)) _ _ _
 refine wpAny_assign_Name (B59 (v:=V.ref Da) I' nd hi' hy rfl (λs2 I2' hsb=>?_) hf)
 obtain⟨b,hs2,hb⟩:=hsb
 have hCb:C≠b:=by
  rcases hb with rfl | hb
  ·exact own.ne
  ·exact λz=>own.ce _ _ hb z.symm
 refine⟨m,hn.sameBut hs2 hCb,λh' hs'=>⟨_,_,I2'.own_turn own hs',q Da hD⟩⟩
end
theorem B7k {lo:Int} {n nn j:Nat} {σ:St} {tt:CA->TT} {te:CA->TE} {H1:Hp} {Q:List V->Hp->Prop} (Pv:Nat->List V->Hp->Prop) (hz:n < sizeLine) (h0:Pv 0 [] H1) (hl:∀i ys H,i<=n->Pv i ys H->ys.length<=i)
  (hs:∀i ys H,i < n->Pv i ys H->∀a:CA,tt a ((Q5 nn j σ).set j (some (.int (lo + i)))) H λb H2=>if b=true then te a ((Q5 nn j σ).set j (some (.int (lo + i)))) H2 λy H3=>Pv (i + 1) (ys++[y]) H3 else Pv (i + 1) ys H2)
  (hd:∀ys H,Pv n ys H->Q ys H):A4y σ nn j tt te (Itr lo n) H1 Q:=by
 refine⟨λi m ys H=>m=n - i/\i<=n/\Pv i ys H,⟨n,by simp,J7 _,h0⟩,?_⟩
 rintro i m ys H ⟨rfl,hi,p⟩
 have hy:=hl i ys H hi p
 refine⟨by lia,?_⟩
 by_cases hlt:i < n
 ·refine .inr ⟨hlt,Pv (i + 1),λys' H' p'=>⟨n - (i + 1),by lia,rfl,hlt,p'⟩,λx H' y=>?_⟩
  obtain⟨e,e2⟩:=y
  subst e e2
  exact hs i ys _ hlt p
 ·have e:i=n:=by lia
  subst e
  exact .inl ⟨E1 _,hd ys H p⟩
theorem A0a {K:B0} {a0:Addr} {xs:List V} {nn j:Nat} {σ:St} {tt:CA->TT} {te:CA->TE} {H1:Hp} {Q:List V->Hp->Prop} (Pv:Nat->List V->Hp->Prop) (hz:xs.length < sizeLine) (h0:Pv 0 [] H1)
  (hl:∀i ys H,i<=xs.length->Pv i ys H->ys.length<=i/\SqL K H a0 xs)
  (hs:∀i x ys H,xs[i]?=some x->Pv i ys H->∀a:CA,tt a ((Q5 nn j σ).set j (some x)) H λb H2=>if b=true then te a ((Q5 nn j σ).set j (some x)) H2 λy H3=>Pv (i + 1) (ys++[y]) H3 else Pv (i + 1) ys H2)
  (hd:∀ys H,Pv xs.length ys H->Q ys H):A4y σ nn j tt te (Itl K a0) H1 Q:=by
 refine⟨λi m ys H=>m=xs.length - i/\i<=xs.length/\Pv i ys H,⟨xs.length,by simp,J7 _,h0⟩,?_⟩
 rintro i m ys H ⟨rfl,hi,p⟩
 obtain⟨hy,q⟩:=hl i ys H hi p
 refine⟨by lia,?_⟩
 by_cases hlt:i < xs.length
 ·refine .inr ⟨⟨xs,xs[i],q,by simp [hlt]⟩,Pv (i + 1),λys' H' p'=>⟨xs.length - (i + 1),by lia,rfl,hlt,p'⟩,λx H' y=>?_⟩
  obtain⟨e,y⟩:=y
  subst e
  exact hs i x ys _ (y xs q) p
 ·have e:i=xs.length:=by lia
  subst e
  exact .inl ⟨⟨xs,q,E1 _⟩,hd ys H p⟩
theorem C47 {K:B0} {a0:Addr} {xs:List V} {nn j:Nat} {σ:St} {tt:CA->TT} {te:CA->TE} {H1:Hp} {Q:List V->Hp->Prop} (Pv:Nat->List V->Hp->Prop) (hz:xs.length < sizeLine) (h0:Pv 0 [] H1)
  (hl:∀i ys H,i<=xs.length->Pv i ys H->ys.length<=i/\SqT K H a0 xs)
  (hs:∀i x ys H,xs[i]?=some x->Pv i ys H->∀a:CA,tt a ((Q5 nn j σ).set j (some x)) H λb H2=>if b=true then te a ((Q5 nn j σ).set j (some x)) H2 λy H3=>Pv (i + 1) (ys++[y]) H3 else Pv (i + 1) ys H2)
  (hd:∀ys H,Pv xs.length ys H->Q ys H):A4y σ nn j tt te (Itt K a0) H1 Q:=by
 refine⟨λi m ys H=>m=xs.length - i/\i<=xs.length/\Pv i ys H,⟨xs.length,by simp,J7 _,h0⟩,?_⟩
 rintro i m ys H ⟨rfl,hi,p⟩
 obtain⟨hy,q⟩:=hl i ys H hi p
 refine⟨by lia,?_⟩
 by_cases hlt:i < xs.length
 ·refine .inr ⟨⟨xs,xs[i],q,by simp [hlt]⟩,Pv (i + 1),λys' H' p'=>⟨xs.length - (i + 1),by lia,rfl,hlt,p'⟩,λx H' y=>?_⟩
  obtain⟨e,y⟩:=y
  subst e
  exact hs i x ys _ (y xs q) p
 ·have e:i=xs.length:=by lia
  subst e
  exact .inl ⟨⟨xs,q,E1 _⟩,hd ys H p⟩
section
variable {X:Cx}
def B1y (_ j:Int):Prop:=0 < j/\j < 100000000000000000000000000000000000000000000000000000000000000
theorem B1z:OpR X (binaryOp .FloorDiv) (rI B1y λi j=>.int (i / j)):=opI λi j _ _ _ _ _ hc q=>by
 have h1:(0:Int) < j:=hc.1
 have h2:j < 2 ^ 250:=Int.lt_trans hc.2 (DD)
 refine floordiv_int (by lia) (by rw[Int.fdiv_eq_ediv_of_nonneg i (by lia)];exact q) (.inl (PyProof.noPylong_of_log2 ?_))
 have h3:j.natAbs < 2 ^ 250:=by
  have:((j.natAbs:Nat):Int) < ((2 ^ 250:Nat):Int):=by
   rw[Int.natAbs_of_nonneg (Int.le_of_lt h1)]
   exact h2
  exact Int.ofNat_lt.mp this
 have h4:j.natAbs≠0:=by lia
 exact Nat.lt_trans ((Nat.log2_lt h4).mpr h3) (DD)
theorem B7l:∀{bs:List Bool} {us:List Value},C4 (bs.map V.bl) us->LSm.BoolsAre us bs
 | [],_,.nil=>.nil
 | b::bs,_,.cons r t=>by
  cases (show _=Value.bool b from r)
  exact .cons b (B7l t)
theorem C48 (hc:X.calm=true):U0 X (.builtin "all") (λxs H Q=>∃(p:Addr) (bs:List Bool),xs=[.ref p]/\SqL X.K H p (bs.map V.bl)/\Q (.bl (bs.all id)) H):=by
 intro pins s σ H xs us Q I r h
 obtain⟨p,bs,rfl,hq,q⟩:=h
 obtain⟨u,rfl,rx⟩:=U1 r
 cases rx
 obtain⟨its,rv,pl,hz⟩:=I.list hq
 have hb:=B7l rv
 have hl:=pl.isList
 have hlt:p < s.heap.objs.size:=by obtain⟨_,e,_⟩:=hl;exact G8 e
 refine call_all_walk (wpAny_pyIter_list hl ?_)
 refine⟨s.heap.objs.size,[s.heap.objs.size,p],[s.heap.objs.size],its.toArray.size,_,_,λi=>(bs[i]?).getD true,rfl,Walks.list (A:=X.A.in1) (I.ok.hd hc) _ p (O4 hlt) its.toArray,
  ⟨⟨_,O5 _ rfl,rfl,rfl⟩,hl.push _⟩,λi v s' Q' E' hP hQ=>?_,λh' tk hk=>?_⟩
 ·obtain⟨b,e,rfl⟩:=hb.get i v (by simpa using hP)
  simp only[e,Option.getD_some] at hQ
  exact wpAny_truthy_bool hQ
 ·have e:((G9 its.toArray.size).all λi=>(bs[i]?).getD true)=bs.all id:=by
   rw[M5,hb.length];exact LSm.range_all bs
  rw[e]
  exact⟨.bl _,H,I.kept (t':=tk) (LSm.kept_iter hk),rfl,q⟩
theorem A8z:U0 X (.builtin "isinstance") (λxs H Q=>∃x cv c t b,xs=[x,cv]/\E2 cv c/\W5 X.K H x t/\X4 X.K t c=some b/\Q (.bl b) H):=by
 intro pins s σ H xs us Q I r h
 obtain⟨x,cv,c,t,b,rfl,rc,ty,k,q⟩:=h
 obtain⟨u,w',rfl,r1,r2⟩:=A8s r
 have e:w'=c:=by
  cases cv with
  | non=>exact r2.trans rc.symm
  | bl y=>exact r2.trans rc.symm
  | ref y=>exact r2.trans rc.symm
  | ty y=>exact r2.trans rc.symm
  | int y=>
   obtain⟨t1,rfl⟩:=rc
   exfalso
   unfold X4 A4n at k
   cases ty <;> simp at k
  | str y=>
   obtain⟨t1,rfl⟩:=rc
   exfalso
   unfold X4 A4n at k
   cases ty <;> simp at k
  | byt y=>
   obtain⟨t1,rfl⟩:=rc
   exfalso
   unfold X4 A4n at k
   cases ty <;> simp at k
  | flt y=>
   obtain⟨t1,rfl⟩:=rc
   exfalso
   unfold X4 A4n at k
   cases ty <;> simp at k
 subst e
 exact B6r I r1 ty k λtk=>⟨.bl b,H,I.tok tk,rfl,q⟩
end
mutual
inductive X7 (K:B0) (H:Hp):V->PyData->Prop
 | non:X7 K H .non .none
 | bl (b):X7 K H (.bl b) (.bool b)
 | int (i):X7 K H (.int i) (.int i)
 | str (x):X7 K H (.str x) (.str x)
 | lst {a xs ds}:SqL K H a xs->m6 K H xs ds->X7 K H (.ref a) (.list ds)
 | tup {a xs ds}:SqT K H a xs->m6 K H xs ds->X7 K H (.ref a) (.tuple ds)
inductive m6 (K:B0) (H:Hp):List V->List PyData->Prop
 | nil:m6 K H [] []
 | cons {x xs d ds}:X7 K H x d->m6 K H xs ds->m6 K H (x::xs) (d::ds)
end
section
variable {X:Cx} {pins:List (Addr×Obj)} {σ:St} {H:Hp} {s:Shared}
mutual
theorem X7.reads (I:Inv X pins σ H s):∀{x:V} {d:PyData} {u:Value},X7 X.K H x d->E2 x u->∃as,Reads s.heap u d as
 | _,_,_,.non,r=>by cases r;exact⟨_,.none⟩
 | _,_,_,.bl b,r=>by cases r;exact⟨_,.bool b⟩
 | _,_,_,.int i,r=>by obtain⟨t,rfl⟩:=r;exact⟨_,.int i t⟩
 | _,_,_,.str x,r=>by obtain⟨t,rfl⟩:=r;exact⟨_,.str x t⟩
 | _,_,_,.lst hq hs,r=>by
  cases r
  obtain⟨its,rv,pl,hz⟩:=I.list hq
  obtain⟨as,ra⟩:=m6.reads I hs rv
  obtain⟨o,e,c,n,d⟩:=pl.isList
  exact⟨_,.list e c d (by simpa using ra)⟩
 | _,_,_,.tup hq hs,r=>by
  cases r
  obtain⟨its,rv,pl,hz⟩:=I.tuple hq
  obtain⟨as,ra⟩:=m6.reads I hs rv
  obtain⟨o,e,c,n,d⟩:=pl
  exact⟨_,.tuple e c d (by simpa using ra)⟩
theorem m6.reads (I:Inv X pins σ H s):∀{xs:List V} {ds:List PyData} {us:List Value},m6 X.K H xs ds->C4 xs us->∃as,ReadsAll s.heap us ds as
 | _,_,_,.nil,.nil=>⟨_,.nil⟩
 | _,_,_,.cons h t,.cons r rs=>by
  obtain⟨as,ra⟩:=X7.reads I h r
  obtain⟨bs,rb⟩:=m6.reads I t rs
  exact⟨_,.cons ra rb⟩
end
end
section
variable {X:Cx}
def A80 (K:B0) (neg:Bool):R2:=λx y H Q=>∃da db,X7 K H x da/\X7 K H y db/\da.canLay0=true/\db.canLay0=true/\min da.depth db.depth<=64/\Q (.bl (if neg then !PyData.eqv da db else PyData.eqv da db)) H
theorem A60 (hu:X.A.units + 64 < cLine):OpR X (compareOp .Eq) (A80 X.K false):=by
 intro pins s σ H x y v u Q I rx ry h
 obtain⟨da,db,d1,d2,c1,c2,hd,q⟩:=h
 obtain⟨as,ra⟩:=d1.reads I rx
 obtain⟨bs,rb⟩:=d2.reads I ry
 exact SeqAt.compareEq_reads ra rb c1 c2 (by lia) ⟨.bl _,H,I,rfl,q⟩
theorem A1m (hu:X.A.units + 64 < cLine):OpR X (compareOp .NotEq) (A80 X.K true):=by
 intro pins s σ H x y v u Q I rx ry h
 obtain⟨da,db,d1,d2,c1,c2,hd,q⟩:=h
 obtain⟨as,ra⟩:=d1.reads I rx
 obtain⟨bs,rb⟩:=d2.reads I ry
 exact SeqAt.compareNe_reads ra rb c1 c2 (by lia) ⟨.bl _,H,I,rfl,q⟩
theorem B7m:B6f X (λo i H Q=>∃p xs j v,o=.ref p/\i=.int j/\0<=j/\SqL X.K H p xs/\atI xs j=some v/\Q v H):=by
 intro pins s σ H o i ov iv Q I r1 r2 h
 obtain⟨p,xs,j,v,rfl,rfl,h0,hq,he,q⟩:=h
 cases r1
 obtain⟨t,rfl⟩:=r2
 obtain⟨its,r,pl,hz⟩:=I.list hq
 obtain⟨k,h1,h2,h3,h4,h5⟩:=A8w he
 obtain⟨w,ew,rw'⟩:=r.get h2
 have hl:=r.length
 have hn:=A4w
 have hj:j.toNat=k:=by
  rw[seqIndex_of h0 h5] at h1
  exact Option.some.inj h1
 exact wpAny_getItem_list pl.isList h0 (by lia) (by rw[hj];simpa using ew) ⟨v,H,I,rw',q⟩
theorem J0 {st:Stmt} {t:TS} (h:PS X st t):PS X st (λD σ H=>∃M:St->Hp->Prop,t { D with nx:=M } σ H/\∀σ' H',M σ' H'->D.nx σ' H'):=by
 intro pins s σ H D I q
 obtain⟨M,q1,q2⟩:=q
 refine thn (h pins s σ H _ I q1) λf s' z=>?_
 cases f with
 | next=>obtain⟨σ',H',I',m⟩:=z;exact⟨σ',H',I',q2 _ _ m⟩
 | brk=>exact z
 | cont=>exact z
 | ret v=>exact z
end
theorem R9:bootBuiltins "list" = some (.type "list"):=by decide +kernel
theorem B7n:bootBuiltins "abs" = some (.builtin "abs"):=by decide +kernel
theorem A81:bootBuiltins "min" = some (.builtin "min"):=by decide +kernel
theorem A2r:bootBuiltins "max" = some (.builtin "max"):=by decide +kernel
theorem A1n:bootBuiltins "isinstance" = some (.builtin "isinstance"):=by decide +kernel
theorem B7o:bootBuiltins "int" = some (.type "int"):=by decide +kernel
theorem C49:bootBuiltins "bool" = some (.type "bool"):=by decide +kernel
theorem C5a:bootBuiltins "all" = some (.builtin "all"):=by decide +kernel
theorem A82:bootBuiltins "tuple" = some (.type "tuple"):=by decide +kernel
theorem B10:bootBuiltins "sorted" = some (.builtin "sorted"):=by decide +kernel
theorem C5b:bootBuiltins "range" = some (.type "range"):=by decide +kernel
theorem Z4:bootBuiltins "len" = some (.builtin "len"):=by decide +kernel
theorem C5c:bootBuiltins "dict" = some (.type "dict"):=by decide +kernel
theorem C5d:bootBuiltins "enumerate" = some (.type "enumerate"):=by decide +kernel
section
variable {es:List Expr} {env:Env}
theorem E4 {c j p}:starEach (.Constant c j p::es) env=(false,eval (.Constant c j p) env)::starEach es env:=by rfl
theorem A1 {c p}:starEach (.Name c p::es) env=(false,eval (.Name c p) env)::starEach es env:=by rfl
theorem K0 {a o b p}:starEach (.BinOp a o b p::es) env=(false,eval (.BinOp a o b p) env)::starEach es env:=by rfl
theorem A40 {o b p}:starEach (.UnaryOp o b p::es) env=(false,eval (.UnaryOp o b p) env)::starEach es env:=by rfl
theorem B7p {a o b p}:starEach (.Compare a o b p::es) env=(false,eval (.Compare a o b p) env)::starEach es env:=by rfl
theorem D7 {a o b p}:starEach (.Call a o b p::es) env=(false,eval (.Call a o b p) env)::starEach es env:=by rfl
theorem A7 {a o p}:starEach (.Subscript a o p::es) env=(false,eval (.Subscript a o p) env)::starEach es env:=by rfl
theorem K4 {a o p}:starEach (.Attribute a o p::es) env=(false,eval (.Attribute a o p) env)::starEach es env:=by rfl
theorem A2s {a p}:starEach (.List a p::es) env=(false,eval (.List a p) env)::starEach es env:=by rfl
theorem X8 {a k p}:starEach (.Tuple a k p::es) env=(false,eval (.Tuple a k p) env)::starEach es env:=by rfl
theorem C5e {a k p}:starEach (.Dict a k p::es) env=(false,eval (.Dict a k p) env)::starEach es env:=by rfl
theorem A2t {a b c p}:starEach (.ListComp a b c p::es) env=(false,eval (.ListComp a b c p) env)::starEach es env:=by rfl
theorem A3 {pos:Pos}:(backTo pos (starEach [] env)).any (·.1)=false:=by rfl
theorem A6 {pos:Pos} {e:Expr} (hs:starEach (e::es) env=(false,eval e env)::starEach es env) (h:(backTo pos (starEach es env)).any (·.1)=false):(backTo pos (starEach (e::es) env)).any (·.1)=false:=by
 rw[hs]
 exact h
end
section
variable {X:Cx} {pos:Pos}
theorem C5f:U0 X (.type "range") (λxs H Q=>∃j:Int,xs=[.int j]/\∀p,H p=none->Q (.ref p) (upd H p (.rng 0 j))):=by
 intro pins s σ H xs us Q I r h
 obtain⟨j,rfl,q⟩:=h
 obtain⟨u,rfl,t,rfl⟩:=U1 r
 exact call_range_1 ⟨.ref _,_,I.laid (t':=s.toks + 1 + 1) (λb o e=>K2 _ e) (E1 _) (show K3 X.prog X.w _ _ _ (.rng 0 j) from ⟨_,_,_,O5 _ rfl⟩),rfl,q _ (I.hok.fresh (E1 _))⟩
def m7 (n:Nat):List V:=(G9 n).map λi=>V.int ((i:Nat):Int)
theorem C5g {n:Nat} {acc:Array Value} (h:ItemsOf (λi v=>∃t,v=Value.int (0 + i * 1) t) acc n):C4 (m7 n) acc.toList:=by
 have key:∀(us:List Value) (k:Nat),(∀(j:Nat) v,us[j]?=some v->∃t,v=Value.int (((k + j:Nat):Int)) t)->C4 ((List.range' k us.length).map λi=>V.int ((i:Nat):Int)) us:=by
  intro us
  induction us with
  | nil=>intro k _;exact .nil
  | cons u r ih=>
   intro k hk
   rw[G6,List.range'_succ,O9]
   refine .cons ?_ (ih (k + 1) λj v e=>?_)
   ·obtain⟨t,e⟩:=hk 0 u rfl
    exact⟨t,e⟩
   ·obtain⟨t,e⟩:=hk (j + 1) v (by simpa using e)
    exact⟨t,by rw[e];congr 1;lia⟩
 have e:m7 n=(List.range' 0 acc.toList.length).map λi=>V.int ((i:Nat):Int):=by
  unfold m7
  rw[List.range_eq_range',A1f,h.1]
 rw[e]
 refine key acc.toList 0 λj v hj=>?_
 obtain⟨t,e⟩:=h.2 j v (by rw[<-B5z];exact hj)
 exact⟨t,by rw[e];congr 1;lia⟩
theorem C5h (hc:X.calm=true):U0 X (.type "list") (λxs H Q=>∃(p:Addr) (hi:Int),xs=[.ref p]/\H p=some (.rng 0 hi)/\0<=hi/\hi<=100000/\∀l,H l=none->Q (.ref l) (upd H l (.lst (m7 hi.toNat)))):=by
 intro pins s σ H xs us Q I r h
 obtain⟨p,hi,rfl,hp,h0,h1,q⟩:=h
 obtain⟨u,rfl,rx⟩:=U1 r
 cases rx
 obtain⟨t,u,v,e⟩:=(show K3 X.prog X.w H s.heap p (.rng 0 hi) from I.hok p _ hp)
 have hn:Builtin.Range.rangeSize 0 hi 1=((hi.toNat:Nat):Int):=by
  unfold Builtin.Range.rangeSize
  rw[if_pos (DD)]
  split
  ·rw[Int.ediv_one];lia
  ·lia
 refine call_list_range (I.ok.hd hc) (show IsRange s.heap p 0 hi 1 t u v from e) (small_one DD DD (by lia) (by lia)) hn (by lia) λh' tk acc' c' hk hS hacc=>?_
 have hv:=C5g hacc
 refine⟨.ref s.heap.objs.size,_,I.laid (t':=tk) hk (E1 _) (show K3 X.prog X.w _ h' _ (.lst (m7 hi.toNat)) from ⟨?_,acc'.toList,c',hv,?_⟩),rfl,q _ (I.hok.fresh (E1 _))⟩
 ·unfold m7
  rw[C1,R6,sizeLine_eq];lia
 ·simpa using hS
end
section
variable {X:Cx}
end
section
variable {X:Cx} {pins:List (Addr×Obj)} {σ:St} {H:Hp} {s:Shared} {h':Heap}
theorem Inv.turned2 {t':Nat} {e it:Addr} (I:Inv X pins σ H s) (k:∀b o,b≠e->b≠it->s.heap.get? b=some o->h'.get? b=some o) (fe:i7 X pins H e) (fi:i7 X pins H it):Inv X pins σ H { s with heap:=h',toks:=t' }:=by
 obtain⟨e0,e1,e2,e3,e4,e5⟩:=fe
 obtain⟨f0,f1,f2,f3,f4,f5⟩:=fi
 have nit:∀b u,H b=some u->b≠it:=λb u e z=>by rw[z,f0] at e;cases e
 have nie:∀b u,H b=some u->b≠e:=λb u q z=>by rw[z,e0] at q;cases q
 have kc:∀b o,b∉[e,it]->s.heap.get? b=some o->h'.get? b=some o:=λb o hc q=>k b o (λz=>hc (by simp [z])) (λz=>hc (by simp [z])) q
 refine I.step (g':=s.gens) (d':=s.drawn) (ch:=[e,it]) (λb hb=>?_) (λb o _ _ hc e _=>kc b o hc e) (λb o _ _ hc e _=>⟨o.slots,kc b o hc e⟩) (λ_ _ _ _ n=>n)
  (λb o hc e=>⟨o,kc b o hc e⟩) (λ_ _ e=>e) (λ_ _ _ e=>e) (λb ps e=>⟨#[],by rw[e];simp⟩) (λm hm=>?_) (λb u q=>?_) I.bare
 ·rcases J1.mp hb with z | z
  ·subst z;exact⟨e3,e1,e4,e5⟩
  ·have z':b=it:=by simpa using z
   subst z'
   exact⟨f3,f1,f4,f5⟩
 ·obtain⟨o,es,ep,ho,r⟩:=hm
  exact⟨o,es,ep,k _ o (Ne.symm e1) (Ne.symm f1) ho,r⟩
 ·refine (I.hok b u q).stay (λc v hc z=>k c v ?_ ?_ z) (λ_ z=>z) λ_ _ z=>z
  ·rcases hc with z | z
   ·rw[z];exact nie b u q
   ·exact nie c _ z
  ·rcases hc with z | z
   ·rw[z];exact nit b u q
   ·exact nit c _ z
end
def Ite (K:B0) (a:Addr):It:=
 ⟨λi H=>∃xs x,SqL K H a xs/\xs[i]?=some x,λi H x H'=>∃p v,x=.ref p/\H p=none/\H'=upd H p (.tup [.int ((i:Nat):Int),v])/\∀xs,SqL K H a xs->xs[i]?=some v,λi H=>∃xs,SqL K H a xs/\xs.length<=i⟩
theorem C5i {P:Program} {w:World} {K:B0} {elts:List Expr} {x1} {tpos:Pos} (a e it:Addr) (hne:e≠it):A2k P w K (.Tuple elts x1 tpos) (Ite K a) [e,it] e (λi h=>(∃old,IsEnum h e it ((i:Nat):Int) old)/\h.IsListIter it a i) where
 mem:=by simp
 obj:=λi h st b hb=>by
  obtain⟨⟨old,h1⟩,h2⟩:=st
  rcases J1.mp hb with z | z
  ·subst z
   exact⟨_,h1,λv z=>by
    have z':Data.fields _=Data.cell v:=z
    cases z'⟩
  ·have z':b=it:=by simpa using z
   subst z'
   obtain⟨o,e,c,d⟩:=h2
   exact⟨o,e,λv z=>by rw[d] at z;cases z⟩
 keep:=λi h h' st k=>by
  obtain⟨⟨old,h1⟩,h2⟩:=st
  exact⟨⟨old,k e (by simp) _ h1⟩,h2.at λo q=>k it (by simp) o q⟩
 item:=by
  intro X hP hw hK hc i pins s σ H E I hf st hg
  subst hP hw hK
  obtain⟨⟨old,st1⟩,st2⟩:=st
  obtain⟨xs,x,hq,hx⟩:=hg
  obtain⟨its,rv,p,hz⟩:=I.list hq
  obtain⟨u,hu,ru⟩:=rv.get hx
  have fe:=hf e (by simp)
  have fi:=hf it (by simp)
  have le:e < s.heap.objs.size:=G8 st1
  have li:it < s.heap.objs.size:=by obtain⟨_,q,_⟩:=id st2;exact G8 q
  refine wpAny_pyNext_enum_item st1 st2 p.isList (x:=u) (by simpa using hu) hne λh' ho hit' hT hsz hk=>?_
  refine⟨_,rfl,wpAny_letOwnedTupleGo_enum ho λh2 he2 hs2=>?_⟩
  replace hs2:Heap.SameBut e h' h2:=hs2
  have hn:H s.heap.objs.size=none:=I.hok.fresh (E1 _)
  have I1:Inv X pins σ (upd H s.heap.objs.size (.tup [.int ((i:Nat):Int),x])) { s with heap:=s.heap.push { cls:=.type "tuple",data:=.seq #[.int i s.toks,u] },toks:=s.toks }:=
   I.laid (λb o q=>K2 _ q) (E1 _) ⟨by show 2<=sizeLine;decide,[.int i s.toks,u],.cons ⟨_,rfl⟩ (.cons ru .nil),⟨_,O5 _ rfl,rfl,_,rfl⟩⟩
  have ge:∀b,b < s.heap.objs.size->i7 X pins H b->i7 X pins (upd H s.heap.objs.size (.tup [.int ((i:Nat):Int),x])) b:=λb hb f=>⟨by rw[B4 (O4 hb)];exact f.1,f.2⟩
  have I2:=I1.turned2 (h':=h2) (t':=s.toks + 1) (e:=e) (it:=it) (λb o n1 n2 q=>by
   rw[hs2.2 b n1]
   rcases Heap.get?_push_cases q with ⟨z,z2⟩ | q
   ·subst z z2
    exact hT
   ·exact hk b o n1 n2 q) (ge e le fe) (ge it li fi)
  refine⟨.ref s.heap.objs.size,_,I2,rfl,⟨_,x,rfl,hn,rfl,λys hy=>by rw[I.list_inj hy hq];exact hx⟩,⟨⟨u,he2⟩,hit'.at λo q=>(hs2.2 it hne.symm).trans q⟩,λb hb=>?_⟩
  rcases J1.mp hb with z | z
  ·subst z;exact (ge b le fe).1
  ·have z':b=it:=by simpa using z
   subst z'
   exact (ge b li fi).1
 done:=by
  intro X hP hw hK hc i pins s σ H E I hf st hg
  subst hP hw hK
  obtain⟨⟨old,st1⟩,st2⟩:=st
  obtain⟨xs,hq,hx⟩:=hg
  obtain⟨its,rv,p,hz⟩:=I.list hq
  have hl:=rv.length
  exact wpAny_pyNext_enum_end (I.ok.hd hc) st1 st2 p.isList (by simp;lia) λh' eb=>⟨rfl,I.turned2 (t':=s.toks) (λb o n1 n2 q=>eb b o n2 q) (hf e (by simp)) (hf it (by simp))⟩
 self:=λ_ _ _ _ _ st h=>by
  obtain⟨⟨old,st1⟩,_⟩:=st
  exact wpAny_pyIter_enum st1 h
section
variable {X:Cx}
def B7q (K:B0) (ta:TA):TI:=fun σ H R=>ta σ H λvs H1=>∃a,vs=[.ref a]/\(∃xs,SqL K H1 a xs)/\R (Ite K a) H1
theorem B7r {elts:List Expr} {x1} {tpos:Pos} {a:Expr} {ta:TA} {p pos:Pos} (hg:Gl X "enumerate") (hm:X.mg "enumerate" = none) (ha:PA X [a] ta) (hs:autoParam (starEach [a] X.env=[(false,eval a X.env)]) RF._auto_1):PI X (.Tuple elts x1 tpos) (.Call (.Name "enumerate" p) [a] [] pos) (B7q X.K ta):=by
 intro pins s σ H R I h
 refine Call_ (A0y I hg hm C5d (PyProof.Rows.callWith_type1 (thn (ha pos pins s σ H _ I h) λus s1 zz244=>el5 zz244 λvs H1 I1 r1 q1=>?_) hs rfl))
 obtain⟨a',e,⟨xs,hq⟩,q⟩:=q1
 subst e
 obtain⟨u,rfl,rx⟩:=U1 r1
 cases rx
 obtain⟨its,rv,pl,hz⟩:=I1.list hq
 refine call_enumerate_list pl.isList λh' he hit hsz hk=>?_
 refine wpAny_pyIter_enum (s:={ s1 with heap:=h' }) he ?_
 have I2:Inv X pins σ H1 { s1 with heap:=h' }:=I1.kept (t':=s1.toks) hk
 refine⟨_,[s1.heap.objs.size + 1,s1.heap.objs.size],_,_,H1,rfl,I2,C5i a' _ _ (A4i (B5v _)),⟨⟨.none,he⟩,hit⟩,λb hb=>?_,q⟩
 rcases J1.mp hb with z | z
 ·subst z;exact I1.fpOk (A0q _) (I1.hok.fresh (A0q _))
 ·have z':b=s1.heap.objs.size:=by simpa using z
  subst z'
  exact I1.fpOk (E1 _) (I1.hok.fresh (E1 _))
theorem A01 {st:Stmt}:PS X st (λ_ _ _=>False):=λ_ _ _ _ _ _ h=>h.elim
end
section
variable {X:Cx} {pins:List (Addr×Obj)} {σ:St} {H:Hp} {s:Shared}
end
section
variable {X:Cx}
def B7s (K:B0):V->List V->Hp->VK->Prop:=λx vs H Q=>∃(l:Addr) (ns:List Int) (k:Int),x=.ref l/\vs=[.int k]/\SqL K H l (ns.map V.int)/\k∈ns/\ns.length<=100000/\Q (.int (ns.idxOf k:Nat)) H
theorem B7t:MtM X "list.index" (B7s X.K):=by
 intro pins s σ H x vs v us Q I rx rv h
 obtain⟨l,ns,k,rfl,rfl,hq,hk,hn,q⟩:=h
 cases rx
 obtain⟨u,rfl,t,rfl⟩:=U1 rv
 obtain⟨its,r,pl,hz⟩:=I.list hq
 have hi:=B60 r
 obtain⟨⟨cls,dd,data,sl⟩,ho,hc,n,hd⟩:=pl.isList
 simp only at hc hd
 subst hc hd
 have hlen:=hi.length
 have hj:ns.idxOf k < ns.length:=B01.mpr hk
 refine call_meets C2i ⟨_,ho,rfl⟩ PySem.F.entry_list_index (PySem.F.args_list_index_2 _ _)
  (SeqAt.list_indexAt l its.toArray n dd sl (.int k t) (isInt k) (ns.idxOf k) (by simpa [hlen] using hj) (by lia) ?_ ?_) ⟨ho,λy hy=>(eq_isInt k t hi y (by simpa using hy)).at _ _,⟨.int _,H,I.tok _,⟨_,rfl⟩,q⟩⟩
 ·show isInt k its[ns.idxOf k]=true
  rw[isInt_at k hi _ (by lia) hj]
  simpa using C2j hj
 ·intro j hjs hlt
  show isInt k its[j]=false
  rw[isInt_at k hi j (by simpa using hjs) (by lia)]
  exact ne_of_lt_idxOf hlt _
end
inductive A61 (K:B0) (H:Hp):V->Value->Prop where
 | o {x:V} {t:Value}:W5 K H x t->A61 K H x t
 | f {a:Addr} {o:Obj} {kvs:List (List Key×V)}:H a=some (.frz o (.dT kvs))->A61 K H (.ref a) (.type "dict")
section
variable {X:Cx}
theorem A83:U0 X (.builtin "isinstance") (λxs H Q=>∃x cv c t b,xs=[x,cv]/\E2 cv c/\A61 X.K H x t/\X4 X.K t c=some b/\Q (.bl b) H):=by
 intro pins s σ H xs us Q I r h
 obtain⟨x,cv,c,t,b,rfl,rc,ty,k,q⟩:=h
 obtain⟨u,w',rfl,r1,r2⟩:=A8s r
 have e:w'=c:=by
  cases cv with
  | non=>exact r2.trans rc.symm
  | bl y=>exact r2.trans rc.symm
  | ref y=>exact r2.trans rc.symm
  | ty y=>exact r2.trans rc.symm
  | int y=>
   obtain⟨t1,rfl⟩:=rc
   exfalso
   unfold X4 A4n at k
   cases ty with
   | o ty=>cases ty <;> simp at k
   | f e=>simp at k
  | str y=>
   obtain⟨t1,rfl⟩:=rc
   exfalso
   unfold X4 A4n at k
   cases ty with
   | o ty=>cases ty <;> simp at k
   | f e=>simp at k
  | byt y=>
   obtain⟨t1,rfl⟩:=rc
   exfalso
   unfold X4 A4n at k
   cases ty with
   | o ty=>cases ty <;> simp at k
   | f e=>simp at k
  | flt y=>
   obtain⟨t1,rfl⟩:=rc
   exfalso
   unfold X4 A4n at k
   cases ty with
   | o ty=>cases ty <;> simp at k
   | f e=>simp at k
 subst e
 cases ty with
 | o ty=>exact B6r I r1 ty k λtk=>⟨.bl b,H,I.tok tk,rfl,q⟩
 | @f a o kvs ea=>
  cases (show u=Value.ref a from r1)
  obtain⟨_,_,_,xs,_,o',es,ep,h1,h2,_⟩:=(show K3 X.prog X.w H s.heap a (.frz o (.dT kvs)) from I.hok a _ ea)
  exact p8 PySem.W.kitx_dict I.kIn ⟨o',h1,h2.1⟩ k (λz=>nomatch z) λtk=>⟨.bl b,H,I.tok tk,rfl,q⟩
def C5j (K:B0) (te:TE) (ts:TO):TE:=fun σ H Q=>te σ H λx H1=>ts σ H1 λst H2=>st=some (-1)/\∃a xs,x=.ref a/\SqL K H2 a xs/\∀p,H2 p=none->Q (.ref p) (upd H2 p (.lst xs.reverse))
theorem C4.rev:∀{xs:List V} {us:List Value},C4 xs us->C4 xs.reverse us.reverse
 | _,_,.nil=>.nil
 | _::xs,_::us,.cons r t=>by
  rw[A78,A78]
  exact (C4.rev t).append (.cons r .nil)
theorem C5k {e st:Expr} {te:TE} {ts:TO} {pos p2:Pos} (he:PE X e te) (hs:PO X (some st) ts):PE X (.Subscript e (.Slice none none (some st) p2) pos) (C5j X.K te ts):=by
 intro pins s σ H Q I h
 refine Subscript_ (thn (he pins s σ H _ I h) λv s1 zz269=>el5 zz269 λx H1 I1 r1 q1=>?_)
 refine wpAny_Slice ?_
 rw[evalPart_none]
 refine wpAny_pure ?_
 refine wpAny_pure ?_
 refine thn (hs pins s1 σ H1 _ I1 q1) λvs s3 zz270=>el5 zz270 λk H3 I3 pk q3=>?_
 obtain⟨rfl,a,xs,rfl,hx,q⟩:=q3
 cases r1
 have I4:Inv X pins σ H3 { s3 with heap:=s3.heap.push { cls:=.type "slice",data:=.fields #[.none,.none,vs] } }:=I3.kept (t':=s3.toks) λb ob q=>K2 _ q
 obtain⟨its,r,ht,hz⟩:=I4.list hx
 have hlen:=r.length
 show wpAny (model X.prog X.w) X.A (subscriptTail e (.Slice none none (some st) p2) (.ref a) (.ref s3.heap.objs.size)) (EP X pins σ Q) X.xe { s3 with heap:=s3.heap.push { cls:=.type "slice",data:=.fields #[.none,.none,vs] } }
 refine tail_any (T:= "list") (ops:=[.ref a,.ref s3.heap.objs.size]) ht.isList.typeIs slot_list_getitem.lookup ?_ (by with_unfolding_all rfl)
 refine wpAny_getItem_list_slice ht.isList (Heap.IsSliceOf.new ..) .none .none pk DD ?_ (by rw[M5] <;> lia)
 rw[PySem.W.krv_pick]
 refine⟨.ref _,_,I4.laid (t':=s3.toks) (o:=.lst xs.reverse) (λb ob q=>K2 _ q) (E1 _) ?_,rfl,q _ (I4.hok.fresh (E1 _))⟩
 exact⟨by rw[b5];lia,_,0,r.rev,O5 _ rfl⟩
end
theorem C5l:typeLookup (.type "list_reverseiterator") "__len__" = pure none:=by
 rw[typeLookup_type,builtinLookup_eq_fast];kernel_rfl
theorem C5m:typeLookup (.type "list_reverseiterator") "__length_hint__" = pure (some (.builtin "list_reverseiterator.__length_hint__")):=by
 rw[typeLookup_type,builtinLookup_eq_fast];kernel_rfl
section
variable {prog:Program} {w:World} {A:Around} {E:Value->Shared->Prop} {s:Shared}
theorem C5n {r l:Addr} {i:Int} {Q:Bool->Shared->Prop} (hr:s.heap.IsRevIter r l i) (h:∀tk,Q false { s with toks:=tk }):wpAny (model prog w) A (Builtin.List.listLengthHint (.ref r)) Q E s:=by
 have hT:=hr.typeIs
 unfold Builtin.List.listLengthHint
 refine wpAny_bind (wpAny_specialOf hT C5l ?_)
 show wpAny _ A (specialOf (Value.ref r) (Str.ofString "__length_hint__") >>= _) _ _ _
 refine wpAny_bind (wpAny_specialOf hT C5m ?_)
 generalize hid:("list_reverseiterator.__length_hint__" : String)=id0
 wp_delta
 rw[show splitId id0=some ("list_reverseiterator", "__length_hint__") from by subst hid;decide +kernel]
 subst hid
 refine wpAny_bind (wpAny_isInstance (b:=true) hT (by rw[isSubtype_type];kernel_rfl) ?_)
 exact wpAny_pure (h s.toks)
theorem C5o {r l:Addr} {items:Array Value} {Q:Value->Shared->Prop} (hh:A.handled=none) (hr:s.heap.IsRevIter r l ((items.size:Int) - 1)) (hl:s.heap.IsList l items) (hne:l≠r) (hz:items.size<=sizeLine)
  (hQ:∀(h':Heap) (tk:Nat) (acc:Array Value) (c:Nat),(∀b o,b≠r->s.heap.get? b=some o->h'.get? b=some o)->h'.get? s.heap.objs.size=some { cls:=.type "list",dict:=none,data:=.seq acc c,slots:=#[] }->
   ItemsOf (λi v=>items[items.size - 1 - i]?=some v) acc items.size->Q (.ref s.heap.objs.size) { s with heap:=h',toks:=tk }):wpAny (model prog w) A (call (.type "list") [.ref r]) Q E s:=by
 have rlt:r < s.heap.objs.size:=by obtain⟨_,q,_⟩:=hr;exact G8 q
 have llt:l < s.heap.objs.size:=by obtain⟨_,q,_⟩:=hl;exact G8 q
 refine callType_codes (Q₁:=λobj t=>obj=.ref s.heap.objs.size/\t={ s with heap:=s.heap.push { cls:=.type "list",data:=.seq #[] } }) F.called_list (F.typeCall_list_1 _) F.entry_list_init (code_list_new _ ⟨rfl,rfl⟩) λobj t ht=>?_
 obtain⟨rfl,rfl⟩:=ht
 have hS:(s.heap.push { cls:=.type "list",data:=.seq #[] }).get? s.heap.objs.size=some { cls:=.type "list",data:=.seq #[] }:=O5 _ rfl
 refine⟨⟨_,hS,rfl⟩,F.args_list_init_2 _ _,?_⟩
 generalize hh2:s.heap.push { cls:=.type "list",data:=.seq #[] }=h2 at hS
 have old:∀b o,s.heap.get? b=some o->h2.get? b=some o:=λb o e=>hh2▸K2 _ e
 have hSr:s.heap.objs.size≠r:=A4i rlt
 have hSl:s.heap.objs.size≠l:=A4i llt
 show wpAny _ _ (do let was <-Builtin.List.listItems (.ref s.heap.objs.size);Builtin.List.listUpdate (.ref s.heap.objs.size) (λ_=>#[]);letGo was.toList.reverse;Builtin.List.listExtendWith (.ref s.heap.objs.size) (.ref r) .none) _ _ _
 refine wpAny_bind ?_
 unfold Builtin.List.listItems
 refine wpAny_bind (wpAny_seqItems hS rfl (wpAny_pure ?_))
 show wpAny _ _ (updateSeq s.heap.objs.size (λ_=>#[]) >>= λ_=>letGo (#[]:Array Value).toList.reverse >>= λ_=>Builtin.List.listExtendWith (.ref s.heap.objs.size) (.ref r) .none) _ _ _
 refine wpAny_bind (wpAny_updateSeq hS rfl ?_)
 have hS3:=B5y (A4k (λ_=>(#[]:Array Value))) hS rfl
 refine wpAny_bind (wpAny_letGo ?_)
 have oth:∀b o,b≠s.heap.objs.size->h2.get? b=some o->(h2.update s.heap.objs.size (A4k (λ_=>(#[]:Array Value)))).get? b=some o:=λb o n e=>(A4l _ _ (Ne.symm n)).trans e
 generalize h2.update s.heap.objs.size (A4k (λ_=>(#[]:Array Value)))=h3 at hS3 oth
 have old3:∀b o,s.heap.get? b=some o->h3.get? b=some o:=λb o e=>oth b o (O4 (G8 e)) (old b o e)
 have hr3:h3.IsRevIter r l ((items.size:Int) - 1):=hr.at λo e=>old3 r o e
 have hl3:h3.IsList l items:=hl.at λo e=>old3 l o e
 have W:=(Walks.listRev (prog:=prog) (w:=w) (A:=A.in1.in1) hh r l hne items).toS
 unfold Builtin.List.listExtendWith
 refine wpAny_bind (wpAny_typeOf (T:= "list_reverseiterator") (s:={ s with heap:=h3 }) hr3.typeIs ?_)
 have z1:Builtin.List.listSameRef (.ref s.heap.objs.size) (.ref r)=false:=by simp [Builtin.List.listSameRef,hSr]
 rw[if_neg (by rw[z1];decide)]
 refine wpAny_bind (wpAny_pyIter_revIter (s:={ s with heap:=h3 }) hr3 ?_)
 refine wpAny_bind (wpAny_holding (C5n (s:={ s with heap:=h3 }) hr3 λtk=>?_))
 rw[if_neg (DD)]
 have nf:s.heap.objs.size∉[r,l]:=λq=>by
  rcases J1.mp q with e | e
  ·exact hSr e
  ·exact hSl (by simpa using e)
 have st0:0<=items.size/\h3.IsRevIter r l ((items.size:Int) - 1 - ((0:Nat):Int))/\h3.IsList l items:=⟨J7 _,by simpa using hr3,hl3⟩
 refine wpAny_pure ⟨plainId_quiet F.plain_extend_loop _,codeAny_extend_loopS W hz _ nf _ items.size 0 _ _ _ rfl (J7 _) st0 hS3 (ItemsOf.nil _) λs' acc c hm hS' hacc=>?_⟩
 rw[Moved.eq_with hm]
 refine⟨rfl,hQ s'.heap s'.toks acc c (λb o n e=>hm.heap b o (λq=>?_) (old3 b o e)) hS' hacc⟩
 rcases J1.mp q with z | z
 ·exact O4 (G8 e) z
 ·exact n (by simpa using z)
end
theorem B7u:bootBuiltins "reversed" = some (.type "reversed"):=by decide +kernel
theorem C5p {items:Array Value} {acc:Array Value} (h:ItemsOf (λi v=>items[items.size - 1 - i]?=some v) acc items.size):acc.toList=items.toList.reverse:=by
 have hl:acc.size=items.size:=h.1
 apply List.ext_getElem?
 intro i
 by_cases c:i < items.size
 ·have ha:i < acc.size:=by lia
  have e:=h.2 i acc[i] (Array.getElem?_eq_getElem ha)
  rw[List.getElem?_reverse (by rw[A1f];exact c),A1f,B5z,B5z,Array.getElem?_eq_getElem ha]
  exact e.symm
 ·rw[A2f (by rw[A1f];lia),A2f (by rw[b5,A1f];lia)]
section
variable {X:Cx}
theorem B7v {e:Expr} {te:TA} {p1 p2 p3 p4:Pos} (hg1:Gl X "list") (hm1:X.mg "list" = none) (hg2:Gl X "reversed") (hm2:X.mg "reversed" = none) (hc:X.calm=true) (he:PA X [e] te) (hs:autoParam (starEach [e] X.env=[(false,eval e X.env)]) RF._auto_1)
  (hs2:autoParam (starEach [.Call (.Name "reversed" p2) [e] [] p3] X.env=[(false,eval (.Call (.Name "reversed" p2) [e] [] p3) X.env)]) RF._auto_1):PE X (.Call (.Name "list" p1) [.Call (.Name "reversed" p2) [e] [] p3] [] p4)
   (fun σ H Q=>te σ H λvs H1=>∃a xs,vs=[.ref a]/\SqL X.K H1 a xs/\∀p,H1 p=none->Q (.ref p) (upd H1 p (.lst xs.reverse))):=by
 intro pins s σ H Q I h
 refine Call_ (A0y I hg1 hm1 R9 (PyProof.Rows.callWith_type1 ?_ hs2 rfl))
 rw[hs2]
 show wpAny _ _ (spliced [(false,eval (.Call (.Name "reversed" p2) [e] [] p3) X.env)]) _ _ s
 refine Calls.spliced_cons ?_
 refine Call_ (A0y I hg2 hm2 B7u (PyProof.Rows.callWith_type1 (thn (he p3 pins s σ H _ I h) λus s1 zz271=>el5 zz271 λvs H1 I1 r1 q1=>?_) hs rfl))
 obtain⟨a,xs,rfl,hq,q⟩:=q1
 obtain⟨u,rfl,rx⟩:=U1 r1
 cases rx
 obtain⟨its,rv,pl,hz⟩:=I1.list hq
 have alt:a < s1.heap.objs.size:=by obtain⟨_,z,_⟩:=pl.isList;exact G8 z
 refine call_reversed_list pl.isList (Calls.spliced_nil ?_)
 have hr:(s1.heap.push (revObj a ((its.toArray.size:Int) - 1))).IsRevIter s1.heap.objs.size a ((its.toArray.size:Int) - 1):=⟨_,O5 _ rfl,rfl,rfl⟩
 have hl2:(s1.heap.push (revObj a ((its.toArray.size:Int) - 1))).IsList a its.toArray:=pl.isList.push _
 have hsz:(s1.heap.push (revObj a ((its.toArray.size:Int) - 1))).objs.size=s1.heap.objs.size + 1:=B5u ..
 refine C5o (s:={ s1 with heap:=s1.heap.push (revObj a ((its.toArray.size:Int) - 1)) }) (I1.ok.hd hc) hr hl2 (O4 alt) (by rw[M5,<-rv.length];exact hz) λh' tk acc c hk hS hacc=>?_
 have eq:=C5p hacc
 refine⟨.ref _,_,I1.laid (t':=tk) (o:=.lst xs.reverse) (λb o z=>hk b o (O4 (G8 z)) (K2 _ z)) (by show s1.heap.objs.size<=_;rw[hsz];exact A0q _) (show K3 X.prog X.w _ h' _ (.lst xs.reverse) from ⟨by rw[b5];exact hz,acc.toList,c,?_,by simpa using hS⟩),rfl,q _ (I1.hok.fresh (by show s1.heap.objs.size<=_;rw[hsz];exact A0q _))⟩
 rw[eq]
 exact C4.rev rv
def Itv (K:B0) (a:Addr) (n:Nat):It:=
 ⟨λi H=>∃xs x,SqL K H a xs/\xs.length=n/\xs.reverse[i]?=some x,λi H x H'=>H'=H/\∀xs,SqL K H a xs->xs.reverse[i]?=some x,λi _=>n<=i⟩
theorem C5q {P:Program} {w:World} {K:B0} {tg:Expr} (a it:Addr) (n:Nat):A2k P w K tg (Itv K a n) [it] it (λi h=>i<=n/\h.IsRevIter it a ((n:Int) - 1 - ((i:Nat):Int))) where
 mem:=by simp
 obj:=λi h st b hb=>by
  have e:b=it:=by simpa using hb
  subst e
  obtain⟨_,o,e,c,d⟩:=st
  exact⟨o,e,λv z=>by rw[d] at z;cases z⟩
 keep:=λi h h' st k=>⟨st.1,st.2.at λo e=>k it (by simp) o e⟩
 item:=by
  intro X hP hw hK hc i pins s σ H E I hf st hg
  subst hP hw hK
  obtain⟨xs,x,hq,hn,hx⟩:=hg
  obtain⟨its,rv,p,hz⟩:=I.list hq
  have hil:i < n:=by
   have:=(V9.mp hx).1
   rw[b5,hn] at this
   exact this
  have hx':xs[n - 1 - i]?=some x:=by rw[List.getElem?_reverse (by lia),hn] at hx;exact hx
  obtain⟨u,hu,ru⟩:=rv.get hx'
  obtain⟨f0,f1,f2,f3,f4,f5⟩:=hf it (by simp)
  have ei:(n:Int) - 1 - ((i:Nat):Int)=((n - 1 - i:Nat):Int):=by lia
  refine wpAny_pyNext_rev_item (i:=n - 1 - i) (by rw[<-ei];exact st.2) p.isList (x:=u) (by simpa using hu) λh' st' sb=>?_
  have I1:Inv X pins σ H { s with heap:=h' }:=I.turned (t':=s.toks) (λb o hb e=>(sb.2 b hb).trans e) f0 f1 f3 f4 f5
  obtain⟨o,e,c,d⟩:=id st'
  have ej:((n - 1 - i:Nat):Int) - 1=(n:Int) - 1 - ((i + 1:Nat):Int):=by lia
  exact⟨u,rfl,A8l (s:={ s with heap:=h' }) e c d DD ⟨x,H,I1,ru,⟨rfl,λys hy=>by rw[I.list_inj hy hq];exact hx⟩,⟨hil,by rw[<-ej];exact st'⟩,λb hb=>(hf b hb).1⟩⟩
 done:=by
  intro X hP hw hK hc i pins s σ H E I hf st hg
  subst hP hw hK
  obtain⟨f0,f1,f2,f3,f4,f5⟩:=hf it (by simp)
  have e:i=n:=Nat.le_antisymm st.1 hg
  have em:(n:Int) - 1 - ((i:Nat):Int)=-1:=by lia
  exact wpAny_pyNext_rev_end (I.ok.hd hc) (by rw[<-em];exact st.2) λh' eb=>⟨rfl,I.turned (t':=s.toks) (λb o hb e=>eb b o hb e) f0 f1 f3 f4 f5⟩
 self:=λ_ _ _ _ _ st h=>wpAny_pyIter_revIter st.2 h
def B7w (K:B0) (ta:TA):TI:=fun σ H R=>ta σ H λvs H1=>∃a xs,vs=[.ref a]/\SqL K H1 a xs/\R (Itv K a xs.length) H1
theorem B7x {tg a:Expr} {ta:TA} {p pos:Pos} (hg:Gl X "reversed") (hm:X.mg "reversed" = none) (ha:PA X [a] ta) (hs:autoParam (starEach [a] X.env=[(false,eval a X.env)]) RF._auto_1):PI X tg (.Call (.Name "reversed" p) [a] [] pos) (B7w X.K ta):=by
 intro pins s σ H R I h
 refine Call_ (A0y I hg hm B7u (PyProof.Rows.callWith_type1 (thn (ha pos pins s σ H _ I h) λus s1 zz272=>el5 zz272 λvs H1 I1 r1 q1=>?_) hs rfl))
 obtain⟨a',xs,rfl,hq,q⟩:=q1
 obtain⟨u,rfl,rx⟩:=U1 r1
 cases rx
 obtain⟨its,rv,pl,hz⟩:=I1.list hq
 have en:((its.toArray.size:Nat):Int) - 1=((xs.length:Nat):Int) - 1:=by rw[M5,<-rv.length]
 refine call_reversed_list pl.isList ?_
 rw[en]
 have hr:(s1.heap.push (revObj a' ((xs.length:Int) - 1))).IsRevIter s1.heap.objs.size a' ((xs.length:Int) - 1):=⟨_,O5 _ rfl,rfl,rfl⟩
 refine wpAny_pyIter_revIter (s:={ s1 with heap:=s1.heap.push (revObj a' ((xs.length:Int) - 1)) }) hr ?_
 refine⟨_,[s1.heap.objs.size],_,_,H1,rfl,I1.kept (t':=s1.toks) λb o e=>K2 _ e,C5q a' _ xs.length,⟨J7 _,by simpa using hr⟩,λb hb=>?_,q⟩
 have e:b=s1.heap.objs.size:=by simpa using hb
 subst e
 exact I1.fpOk (E1 _) (I1.hok.fresh (E1 _))
end
section
variable {X:Cx} {pins:List (Addr×Obj)} {σ:St} {H:Hp} {s:Shared}
end
section
variable {prog:Program} {w:World} {A:Around} {E:Value->Shared->Prop} {s:Shared}
end
section
variable {prog:Program} {w:World} {A:Around} {R:Result->Shared->Prop} {I:Addr} {fp wr:List Addr} {n:Nat} {P:Nat->Value->Prop} {St:Nat->Heap->Prop}
end
theorem C4.un:∀{xs:List V} {us:List Value} {i:Nat} {u:Value},C4 xs us->us[i]?=some u->∃x,xs[i]?=some x/\E2 x u
 | _,_,_,_,.nil,e=>by simp at e
 | _,_,0,_,.cons r _,e=>by
  cases e
  exact⟨_,rfl,r⟩
 | _,_,i + 1,_,.cons _ t,e=>C4.un (i:=i) t e
section
variable {X:Cx}
end
section
variable {X:Cx} {pins:List (Addr×Obj)} {σ:St} {H:Hp} {s:Shared} {h':Heap}
end
section
variable {X:Cx}
end
section
variable {X:Cx} {tg:Expr}
end
section
variable {prog:Program} {w:World} {A:Around} {R:Result->Shared->Prop} {I:Addr} {fp wr:List Addr} {n:Nat} {P:Nat->Value->Prop} {St:Nat->Heap->Prop}
theorem C5r (kw:List (Str×Value)) (val:Nat->Int) (hval:∀i v,P i v->∃t,v=.int (val i) t) (W:Walks prog w A.in1 I fp wr n P St) (S:Addr) (hSf:S∉fp) :
  ∀(k j:Nat) (s:Shared) (vb:Value) (c:Nat),n - (j + 1)=k->j + 1<=n->St (j + 1) s.heap->(∃i,P i vb/\i<=j/\∀q,q<=j->val q<=val i)->
  s.heap.get? S=some { cls:=.type "list",dict:=none,data:=.seq #[vb,vb] c,slots:=#[] }->
  (∀v h' tk,(∃i,P i v/\i < n/\∀q,q < n->val q<=val i)->(∀b o,b∉wr->b≠S->s.heap.get? b=some o->h'.get? b=some o)->R (.ok (.ret v)) { s with heap:=h',toks:=tk })->
  codeAny (model prog w) A (.builtin "max.loop" ⟨[.ref I,.none,.ref S],kw⟩) R s:=by
 have hSw:S∉wr:=λh=>hSf (W.sub _ h)
 have hname:(toString "max" ++toString ".loop" : String) = "max.loop" :=by decide
 intro k
 induction k with
 | zero=>
  intro j s vb c hk hj hst hPb hS hR
  have hin:j + 1=n:=by lia
  refine codeAny_builtin F.entry_max_loop ?_
  rw[Around.under_plainId F.plain_max_loop _]
  show wpAny _ A.in1 (seqItems? (.ref S) >>= _) _ _ s
  refine wpAny_bind (wpAny_seqItems hS rfl ?_)
  show wpAny _ A.in1 (tryCatch (pyNext (.ref I)) _ >>= _) _ _ s
  refine wpAny_bind (wpAny_tryCatch (W.done s _ _ (hin▸hst) λh' tk hk'=>?_))
  have hS':=hk' S _ hSw hS
  show wpAny _ A.in1 (updateSeq S (λ_=>#[]) >>= _) _ _ _
  refine wpAny_bind ?_
  refine wpAny_updateSeq hS' rfl (wpAny_bind (wpAny_letGo (wpAny_pure ?_)))
  obtain⟨i,h1,h2,h3⟩:=hPb
  exact hR vb _ tk ⟨i,h1,OO,λq hq=>h3 q OO⟩ λb o hbw hbS e=>(A4l _ _ (Ne.symm hbS)).trans (hk' b o hbw e)
 | succ k ih=>
  intro j s vb c hk hj hst hPb hS hR
  have hlt:j + 1 < n:=by lia
  refine codeAny_builtin F.entry_max_loop ?_
  rw[Around.under_plainId F.plain_max_loop _]
  show wpAny _ A.in1 (seqItems? (.ref S) >>= _) _ _ s
  refine wpAny_bind (wpAny_seqItems hS rfl ?_)
  show wpAny _ A.in1 (tryCatch (pyNext (.ref I)) _ >>= _) _ _ s
  refine wpAny_bind (wpAny_tryCatch (W.item (j + 1) s _ _ hlt hst λv h' tk hP hst' hk'=>?_))
  have hS':=hk' S _ hSw hS
  obtain⟨ib,hib,hi1,hi2⟩:=hPb
  obtain⟨t1,rfl⟩:=hval _ v hP
  obtain⟨t2,rfl⟩:=hval _ vb hib
  show wpAny _ A.in1 (tryCatch (holding [_,_] (richCompare .Gt _ _ >>= _)) _ >>= _) _ _ _
  refine wpAny_bind (wpAny_tryCatch (wpAny_holding (wpAny_bind (richCompare_gives (op:=.Gt) (typeIs_int _ _ t1) (typeIs_int _ _ t2) F.slot_int_gt F.entry_int_gt (F.args_int_gt_2 _ _) (gives_int_gt _ _ t1 t2) (λx=>nomatch x) ?_))))
  refine wpAny_bind (wpAny_holding (wpAny_truthy_bool ?_))
  refine wpAny_bind (wpAny_letGo (wpAny_pure ?_))
  by_cases bt:val (j + 1) > val ib
  ·rw[decide_eq_true bt]
   simp only[if_true]
   refine wpAny_bind ?_
   refine wpAny_updateSeq hS' rfl (wpAny_bind (wpAny_letGo ?_))
   rw[hname]
   refine wpAny_pure ⟨plainId_quiet F.plain_max_loop _,ih (j + 1) _ _ _ OO hlt (W.frame _ _ _ hst' λb hbf o e=>?_) ⟨j + 1,hP,E1 _,λq hq=>?_⟩ (B5y _ hS' rfl)
    λv' h'' tk'' hP' hk''=>?_⟩
   ·exact (A4l _ _ (λh:S=b=>hSf (by rw[h];exact hbf))).trans e
   ·by_cases e:q=j + 1
    ·subst e;exact t8 _
    ·have:=hi2 q (OO);lia
   ·exact hR v' h'' tk'' hP' λb o hbw hbS e=>hk'' b o hbw hbS ((A4l _ _ (Ne.symm hbS)).trans (hk' b o hbw e))
  ·rw[decide_eq_false bt]
   simp only[A6f,if_false]
   refine wpAny_bind (wpAny_letGo ?_)
   rw[hname]
   refine wpAny_pure ⟨plainId_quiet F.plain_max_loop _,ih (j + 1) _ _ c OO hlt hst' ⟨ib,hib,OO,λq hq=>?_⟩ hS' λv' h'' tk'' hP' hk''=>?_⟩
   ·by_cases e:q=j + 1
    ·subst e;lia
    ·exact hi2 q (OO)
   ·exact hR v' h'' tk'' hP' λb o hbw hbS e=>hk'' b o hbw hbS (hk' b o hbw e)
theorem B7y (kw:List (Str×Value)) (val:Nat->Int) (hval:∀i v,P i v->∃t,v=.int (val i) t) (W:Walks prog w A.in1 I fp wr n P St) (S:Addr) (hSf:S∉fp) (hn:0 < n) {s:Shared} {c:Nat} (hst:St 0 s.heap)
  (hS:s.heap.get? S=some { cls:=.type "list",dict:=none,data:=.seq #[] c,slots:=#[] })
  (hR:∀v h' tk,(∃i,P i v/\i < n/\∀q,q < n->val q<=val i)->(∀b o,b∉wr->b≠S->s.heap.get? b=some o->h'.get? b=some o)->R (.ok (.ret v)) { s with heap:=h',toks:=tk }) :
  codeAny (model prog w) A (.builtin "max.loop" ⟨[.ref I,.none,.ref S],kw⟩) R s:=by
 have hSw:S∉wr:=λh=>hSf (W.sub _ h)
 have hname:(toString "max" ++toString ".loop" : String) = "max.loop" :=by decide
 refine codeAny_builtin F.entry_max_loop ?_
 rw[Around.under_plainId F.plain_max_loop _]
 show wpAny _ A.in1 (seqItems? (.ref S) >>= _) _ _ s
 refine wpAny_bind (wpAny_seqItems hS rfl ?_)
 show wpAny _ A.in1 (tryCatch (pyNext (.ref I)) _ >>= _) _ _ s
 refine wpAny_bind (wpAny_tryCatch (W.item 0 s _ _ hn hst λv h' tk hP hst' hk'=>?_))
 have hS':=hk' S _ hSw hS
 show wpAny _ A.in1 (updateSeq S (λ_=>#[v,v]) >>= _) _ _ _
 refine wpAny_bind ?_
 refine wpAny_updateSeq hS' rfl ?_
 rw[hname]
 refine wpAny_pure ⟨plainId_quiet F.plain_max_loop _,C5r kw val hval W S hSf _ 0 _ v _ rfl hn (W.frame _ _ _ hst' λb hbf o e=>?_) ⟨0,hP,E1 _,λq hq=>by rw[show q=0 by lia];exact t8 _⟩ (B5y _ hS' rfl) λv' h'' tk'' hP' hk''=>?_⟩
 ·exact (A4l _ _ (λh:S=b=>hSf (by rw[h];exact hbf))).trans e
 ·exact hR v' h'' tk'' hP' λb o hbw hbS e=>hk'' b o hbw hbS ((A4l _ _ (Ne.symm hbS)).trans (hk' b o hbw e))
theorem C5s {dn:Str} {d:Value} (W:Walks prog w A.in1 I fp wr n P St) (S:Addr) (hSf:S∉fp) (hn:n=0) {s:Shared} {c:Nat} (hst:St 0 s.heap)
  (hS:s.heap.get? S=some { cls:=.type "list",dict:=none,data:=.seq #[] c,slots:=#[] })
  (hR:∀h' tk,(∀b o,b∉wr->b≠S->s.heap.get? b=some o->h'.get? b=some o)->R (.ok (.ret d)) { s with heap:=h',toks:=tk }) :
  codeAny (model prog w) A (.builtin "max.loop" ⟨[.ref I,.none,.ref S],[(dn,d)]⟩) R s:=by
 have hSw:S∉wr:=λh=>hSf (W.sub _ h)
 subst hn
 refine codeAny_builtin F.entry_max_loop ?_
 rw[Around.under_plainId F.plain_max_loop _]
 show wpAny _ A.in1 (seqItems? (.ref S) >>= _) _ _ s
 refine wpAny_bind (wpAny_seqItems hS rfl ?_)
 show wpAny _ A.in1 (tryCatch (pyNext (.ref I)) _ >>= _) _ _ s
 refine wpAny_bind (wpAny_tryCatch (W.done s _ _ hst λh' tk hk'=>?_))
 show wpAny _ A.in1 (rule _ >>= _) _ _ _
 refine wpAny_bind (wpAny_rule ?_)
 exact wpAny_pure (hR h' tk λb o hbw hbS e=>hk' b o hbw e)
end
section
variable {X:Cx}
def A84 (ns:List Int) (M:Int):Prop:=M∈ns/\∀n∈ns,n<=M
def C5t (K:B0):List V->Hp->VK->Prop:=λxs H Q=>∃(p:Addr) (ns:List Int),xs=[.ref p]/\SqL K H p (ns.map V.int)/\ns≠[]/\∀M,A84 ns M->Q (.int M) H
theorem A85 {ns:List Int} {its:List Value} (rv:C4 (ns.map V.int) its) {i:Nat} {v:Value} (h:its[i]?=some v):∃n t,ns[i]?=some n/\v=.int n t:=by
 obtain⟨x,hx,rx⟩:=C4.un rv h
 rw[L8] at hx
 cases e:ns[i]? with
 | none=>rw[e] at hx;cases hx
 | some n=>
  rw[e] at hx
  cases hx
  obtain⟨t,rfl⟩:=rx
  exact⟨n,t,rfl,rfl⟩
theorem C5u (hc:X.calm=true):U0 X (.builtin "max") (C5t X.K):=by
 intro pins s σ H xs us Q I r h
 obtain⟨p,ns,rfl,hq,hne,q⟩:=h
 obtain⟨u,rfl,rx⟩:=U1 r
 cases rx
 obtain⟨its,rv,pl,hz⟩:=I.list hq
 have hl:=pl.isList
 have hlt:p < s.heap.objs.size:=by obtain⟨_,e,_⟩:=hl;exact G8 e
 have hlen:=rv.length
 rw[C1] at hlen
 have hname:(toString "max" ++toString ".loop" : String) = "max.loop" :=by decide
 refine call_function_tree F.kind_max F.plain_max F.entry_max (F.args_max1 _) ?_
 show wpAny _ X.A.in1 (Builtin.Builtins.bindParams "max" ["key", "default"] 0 ⟨[],[]⟩ >>= _) _ _ s
 refine wpAny_bind (wpAny_of_eq (show Builtin.Builtins.bindParams "max" ["key", "default"] 0 ⟨[],[]⟩=pure [none,none] from rfl) ?_)
 refine wpAny_bind (wpAny_pure ?_)
 refine wpAny_bind (wpAny_pyIter_list hl ?_)
 refine wpAny_bind (wpAny_newObj_type ?_)
 rw[hname]
 have W:=Walks.list (prog:=X.prog) (w:=X.w) (A:=X.A.in1) (I.ok.hd hc) s.heap.objs.size p (O4 hlt) its.toArray
 have sz:∀(h:Heap) (o:Obj),(h.push o).objs.size=h.objs.size + 1:=λh o=>by simp [Heap.push]
 refine wpAny_pure ⟨plainId_quiet F.plain_max_loop _,B7y [] (λi=>(ns[i]?).getD 0) (λi v hv=>?_) W _ ?_ ?_ ?_ (O5 _ rfl) λv h' tk hP hk=>?_⟩
 ·have hv':its[i]?=some v:=by simpa using hv
  obtain⟨n,t,e,rfl⟩:=A85 rv hv'
  exact⟨t,by rw[e];rfl⟩
 ·intro hm
  rw[sz] at hm
  rcases J1.mp hm with z | z
  ·exact absurd z (Nat.succ_ne_self _)
  ·have h2:s.heap.objs.size + 1=p:=Y7.mp z
   have h3:s.heap.objs.size + 1 < s.heap.objs.size:=by rw[h2];exact hlt
   exact absurd h3 (Nat.not_lt.mpr (A0q _))
 ·rw[M5,<-hlen]
  exact C2k.mpr hne
 ·exact W.frame _ _ _ ⟨⟨_,O5 _ rfl,rfl,rfl⟩,hl.push _⟩ λb _ o e=>K2 _ e
 ·obtain⟨i,hi,hi1,hi2⟩:=hP
  have hv':its[i]?=some v:=by simpa using hi
  obtain⟨n,t,e,rfl⟩:=A85 rv hv'
  refine⟨.int n,H,I.kept (t':=tk) λb o e=>?_,⟨t,rfl⟩,q n ⟨Q9 e,λm hm=>?_⟩⟩
  ·have hb:=G8 e
   refine hk b o (λhm=>?_) (λhm=>?_) (K2 _ (K2 _ e))
   ·rw[Y7.mp hm] at hb;exact g7 _ hb
   ·rw[hm,sz] at hb;exact absurd hb (Nat.not_lt.mpr (A0q _))
  ·obtain⟨j,hj,rfl⟩:=A6g.mp hm
   have:=hi2 j (by rw[M5,<-hlen];exact hj)
   rw[M9 hj,e] at this
   exact this
theorem C5v (a b:Value):argsOk "max" ⟨[a],[(Str.ofString "default",b)]⟩:=by unfold argsOk;kernel_rfl
theorem C5w {prog:Program} {w:World} {A:Around} {E:Value->Shared->Prop} {s:Shared} {id:String} {b:Builtin} {args:List Value} {kw:List (Str×Value)} {Q:Value->Shared->Prop} (hk:builtinKind id=none) (hp:plainId id=true)
  (hb:entryFor table id=some b) (ha:argsOk id ⟨args,kw⟩)
  (hc:wpAny (model prog w) A.in1 (b ⟨args,kw⟩) (λfin s'=>match fin with
   | .done f=>(match (Except.ok f:Result) with | .ok (.ret v)=>Q v s' | .ok _=>False | .error e=>E e s')
   | .again c'=>c'.quiet=true/\codeAny (model prog w) A c' (λr s'=>match r with | .ok (.ret v)=>Q v s' | .ok _=>False | .error e=>E e s') s') E s) :
  wpAny (model prog w) A (call (.builtin id) args kw) Q E s:=by
 refine wpAny_call (codeAny_call_builtin hp hb ?_)
 simp only[checkBuiltinCall,hk]
 cases hsig:Manifest.signature? id with
 | none=>exact wpAny_pure hc
 | some sig=>
  have h2:Bind.checkArgs id sig ⟨args,kw⟩=pure ():=by simpa only[argsOk,hsig] using ha
  simp only[h2]
  exact wpAny_pure hc
def B11 (d:Int) (K:B0):List V->Hp->VK->Prop:=λxs H Q=>∃(p:Addr) (ns:List Int),xs=[.ref p]/\SqL K H p (ns.map V.int)/\(ns=[]->Q (.int d) H)/\∀M,A84 ns M->Q (.int M) H
theorem C5x {d:Int} {t0:Tok} (hc:X.calm=true) {pins:List (Addr×Obj)} {s:Shared} {σ:St} {H:Hp} {xs:List V} {us:List Value} {Q:VK} (I:Inv X pins σ H s) (r:C4 xs us) (h:B11 d X.K xs H Q) :
  wpAny (model X.prog X.w) X.A (call (.builtin "max") us [(Str.ofString "default",.int d t0)]) (EP X pins σ Q) X.xe s:=by
 obtain⟨p,ns,rfl,hq,q0,q⟩:=h
 obtain⟨u,rfl,rx⟩:=U1 r
 cases rx
 obtain⟨its,rv,pl,hz⟩:=I.list hq
 have hl:=pl.isList
 have hlt:p < s.heap.objs.size:=by obtain⟨_,e,_⟩:=hl;exact G8 e
 have hlen:=rv.length
 rw[C1] at hlen
 have hname:(toString "max" ++toString ".loop" : String) = "max.loop" :=by decide
 refine C5w F.kind_max F.plain_max F.entry_max (C5v _ _) ?_
 show wpAny _ X.A.in1 (Builtin.Builtins.bindParams "max" ["key", "default"] 0 ⟨[],[(Str.ofString "default",.int d t0)]⟩ >>= _) _ _ s
 refine wpAny_bind (wpAny_of_eq (show Builtin.Builtins.bindParams "max" ["key", "default"] 0 ⟨[],[(Str.ofString "default",.int d t0)]⟩=pure [none,some (.int d t0)] from by kernel_rfl) ?_)
 refine wpAny_bind (wpAny_pure ?_)
 refine wpAny_bind (wpAny_pyIter_list hl ?_)
 refine wpAny_bind (wpAny_newObj_type ?_)
 rw[hname]
 have W:=Walks.list (prog:=X.prog) (w:=X.w) (A:=X.A.in1) (I.ok.hd hc) s.heap.objs.size p (O4 hlt) its.toArray
 have sz:∀(h:Heap) (o:Obj),(h.push o).objs.size=h.objs.size + 1:=λh o=>by simp [Heap.push]
 have hS:(s.heap.push { cls:=.type "list_iterator",data:=.fields #[.ref p,.int 0 0] }).objs.size∉[s.heap.objs.size,p]:=by
  intro hm
  rw[sz] at hm
  rcases J1.mp hm with z | z
  ·exact absurd z (Nat.succ_ne_self _)
  ·have h2:s.heap.objs.size + 1=p:=Y7.mp z
   have h3:s.heap.objs.size + 1 < s.heap.objs.size:=by rw[h2];exact hlt
   exact absurd h3 (Nat.not_lt.mpr (A0q _))
 have keep:∀{h':Heap},(∀b o,b∉[s.heap.objs.size]->b≠(s.heap.push { cls:=.type "list_iterator",data:=.fields #[.ref p,.int 0 0] }).objs.size->((s.heap.push { cls:=.type "list_iterator",data:=.fields #[.ref p,.int 0 0] }).push { cls:=.type "list",data:=.seq #[] }).get? b=some o->h'.get? b=some o)->∀b o,s.heap.get? b=some o->h'.get? b=some o:=λhk b o e=>by
  have hb:=G8 e
  refine hk b o (λhm=>?_) (λhm=>?_) (K2 _ (K2 _ e))
  ·rw[Y7.mp hm] at hb;exact g7 _ hb
  ·rw[hm,sz] at hb;exact absurd hb (Nat.not_lt.mpr (A0q _))
 by_cases hne:ns=[]
 ·refine wpAny_pure ⟨plainId_quiet F.plain_max_loop _,C5s W _ hS ?_ ?_ (O5 _ rfl) λh' tk hk=>?_⟩
  ·rw[M5,<-hlen,hne];rfl
  ·exact W.frame _ _ _ ⟨⟨_,O5 _ rfl,rfl,rfl⟩,hl.push _⟩ λb _ o e=>K2 _ e
  ·exact⟨.int d,H,I.kept (t':=tk) (keep hk),⟨t0,rfl⟩,q0 hne⟩
 refine wpAny_pure ⟨plainId_quiet F.plain_max_loop _,B7y _ (λi=>(ns[i]?).getD 0) (λi v hv=>?_) W _ hS ?_ ?_ (O5 _ rfl) λv h' tk hP hk=>?_⟩
 ·have hv':its[i]?=some v:=by simpa using hv
  obtain⟨n,t,e,rfl⟩:=A85 rv hv'
  exact⟨t,by rw[e];rfl⟩
 ·rw[M5,<-hlen]
  exact C2k.mpr hne
 ·exact W.frame _ _ _ ⟨⟨_,O5 _ rfl,rfl,rfl⟩,hl.push _⟩ λb _ o e=>K2 _ e
 ·obtain⟨i,hi,hi1,hi2⟩:=hP
  have hv':its[i]?=some v:=by simpa using hi
  obtain⟨n,t,e,rfl⟩:=A85 rv hv'
  refine⟨.int n,H,I.kept (t':=tk) (keep hk),⟨t,rfl⟩,q n ⟨Q9 e,λm hm=>?_⟩⟩
  obtain⟨j,hj,rfl⟩:=A6g.mp hm
  have:=hi2 j (by rw[M5,<-hlen];exact hj)
  rw[M9 hj,e] at this
  exact this
theorem C5y {e:Expr} {ta:TA} {p pos kpos cpos:Pos} {d:Int} {j} (hc:X.calm=true) (hg:Gl X "max") (hm:X.mg "max" = none) (hv:bootBuiltins "max" = some (.builtin "max")) (ha:PA X [e] ta)
  (he:autoParam (starEach [e] X.env=[(false,eval e X.env)]) RF._auto_1):PE X (.Call (.Name "max" p) [e] [⟨some (Str.ofString "default"),.Constant (.int d) j cpos,kpos⟩] pos) (tCB (B11 d X.K) ta):=by
 intro pins s σ H Q I h
 refine wpAny_Call_Name_kw (A0y I hg hm hv ?_ DD DD)
 refine PyProof.Rows.callWith_kw (thn (ha pos pins s σ H _ I h) λus s1 zz=>el5 zz λvs H1 I1 r1 q1=>?_) (by rw[he];rfl) (by rw[he];rfl) rfl rfl
 show wpAny _ _ ((do let v <-eval (.Constant (.int d) j cpos) X.env;standAt pos;pure v) >>= _) _ _ _
 refine wpAny_bind (wpAny_bind (wpAny_Constant_int (wpAny_bind (wpAny_standAt (wpAny_pure ?_)))))
 refine wpAny_bind (wpAny_holding (wpAny_pure (wpAny_pure ?_)))
 exact C5x hc (I1.tok _) r1 q1
end
section
variable {prog:Program} {w:World} {A:Around} {R:Result->Shared->Prop} {I:Addr} {fp wr:List Addr} {n:Nat} {P:Nat->Value->Prop} {St:Nat->Heap->Prop}
end
section
variable {X:Cx}
end
end L2
namespace My
open PySem L2
def Hd (H:Hp) (a l:Addr):Prop:=∃(ns:List Int) (p b c u v:Int),H l=some (.lst (ns.map V.int))/\0<=p/\H a=some (.lst [.ref l,.int p,.int b,.int c,.int u,.int v])
def Kp (a:Addr) (H H':Hp):Prop:=∀b o,H b=some o->b≠a->H' b=some o
theorem Kp.refl (a:Addr) (H:Hp):Kp a H H:=λ_ _ e _=>e
theorem Kp.trans {a:Addr} {H H1 H2:Hp} (x:Kp a H H1) (y:Kp a H1 H2):Kp a H H2:=λb o e n=>y b o (x b o e n) n
theorem A86 {H:Hp} {a l:Addr} {ns:List Int} {xs:List V} (hl:H l=some (.lst (ns.map V.int))) (ha:H a=some (.lst (.ref l::xs))):l≠a:=B57 hl ha (by
 intro e
 injection e with e
 cases ns with
 | nil=>cases e
 | cons n r=>injection e with e1;cases e1)
theorem Hd.at1 {H:Hp} {a l:Addr} (h:Hd H a l):∃o,H a=some o:=let ⟨_,_,_,_,_,_,_,_,e⟩:=h;⟨_,e⟩
theorem Hd.at2 {H:Hp} {a l:Addr} (h:Hd H a l):∃o,H l=some o:=let ⟨_,_,_,_,_,_,e,_⟩:=h;⟨_,e⟩
theorem Hd.ne {H:Hp} {a l p:Addr} (h:Hd H a l) (hp:H p=none):p≠a/\p≠l:=by
 obtain⟨o,e⟩:=h.at1
 obtain⟨o',e'⟩:=h.at2
 exact⟨(Q3 e hp).symm,(Q3 e' hp).symm⟩
theorem Hd.wr {H:Hp} {a l p:Addr} {o:HO} (h:Hd H a l) (n1:p≠a) (n2:p≠l):Hd (upd H p o) a l:=by
 obtain⟨ns,q,b,c,u,v,h1,h2,h3⟩:=h
 exact⟨ns,q,b,c,u,v,by rw[B4 n2.symm];exact h1,h2,by rw[B4 n1.symm];exact h3⟩
theorem Hd.lay {H:Hp} {a l p:Addr} {o:HO} (h:Hd H a l) (hp:H p=none):Hd (upd H p o) a l:=h.wr (h.ne hp).1 (h.ne hp).2
theorem Hd.same {H H':Hp} {a l:Addr} (h:Hd H a l) (s:Same H H'):Hd H' a l:=by
 obtain⟨ns,q,b,c,u,v,h1,h2,h3⟩:=h
 exact⟨ns,q,b,c,u,v,s _ _ h1,h2,s _ _ h3⟩
theorem _root_.L2.Same.lay {p:Addr} {H H1:Hp} {o:HO} (x:Same H H1) (h:H1 p=none):Same H (upd H1 p o):=λb u e=>by
 have e1:=x b u e
 rw[B4 (Q3 e1 h)];exact e1
theorem C5z {ns:List Int} {p:Int} (h0:0<=p) (h1:p < (ns.length:Int)):∃z,atI (ns.map V.int) p=some (.int z):=by
 obtain⟨n,rfl⟩:=Int.eq_ofNat_of_zero_le h0
 have hp:n < ns.length:=by lia
 exact⟨ns[n],z4 (by rw[L8,M9 hp];rfl)⟩
def C50 (K:B0):Sp:=λvs H Q _=>∃(a:Addr) (ns:List Int),vs=[.ref a]/\SqL K H a (ns.map V.int)/\∀(p l:Addr) (H':Hp),H p=none->H l=none->Hd H' p l->Same H H'->Q (.ref p) H'
def C51:Sp:=λvs H Q _=>∃a l,vs=[.ref a]/\Hd H a l/\∀(r:Int) (H':Hp),Hd H' a l->Kp a H H'->Q (.int r) H'
def C52:Sp:=λvs H Q _=>∃a l,vs=[.ref a]/\Hd H a l/\∀(H':Hp),Hd H' a l->Kp a H H'->Q .non H'
def C53:Sp:=λvs H Q _=>∃a l m,vs=[.ref a,.int m]/\Hd H a l/\0 < m/\m < 100000000000000000000000000000000000000000000000000000000000000/\∀(r:Int) (H':Hp),0<=r->r < m->Hd H' a l->Kp a H H'->Q (.int r) H'
def dEn (ks:List (List Int)):List (List Key×V):=ks.map λk=>(k.map Sum.inl,V.bl true)
def dEm (ks:List (List Int×Int)):List (List Key×V):=ks.map λp=>(p.1.map Sum.inl,V.int p.2)
def C54 (k:List Int):PyData:=.tuple (k.map PyData.int)
inductive DiU:HO->List (PyData×PyData)->Prop
 | t:DiU (.dT []) []
 | k (i j:Int):DiU (.dK [(Sum.inl i,V.int j)]) [(.int i,.int j)]
 | f (o:Obj) (ks:List (List Int)):DiU (.frz o (.dT (dEn ks))) ((.none,.none)::ks.map λk=>(C54 k,.bool true))
mutual
inductive ThV (F:Addr->Prop) (H:Hp):V->PyData->Prop
 | non:ThV F H .non .none
 | bl (b):ThV F H (.bl b) (.bool b)
 | int (i):ThV F H (.int i) (.int i)
 | str (x):ThV F H (.str x) (.str x)
 | lst {a xs ds}:F a->H a=some (.lst xs)->A9 F H xs ds->ThV F H (.ref a) (.list ds)
 | tup {a xs ds}:F a->H a=some (.tup xs)->A9 F H xs ds->ThV F H (.ref a) (.tuple ds)
 | dic {a u kvs}:F a->H a=some u->DiU u kvs->ThV F H (.ref a) (.dict kvs)
inductive A9 (F:Addr->Prop) (H:Hp):List V->List PyData->Prop
 | nil:A9 F H [] []
 | cons {x xs d ds}:ThV F H x d->A9 F H xs ds->A9 F H (x::xs) (d::ds)
end
mutual
theorem ThV.mv {F G:Addr->Prop} {H H':Hp} (f:∀b o,F b->H b=some o->G b/\H' b=some o):∀{v:V} {d:PyData},ThV F H v d->ThV G H' v d
 | _,_,.non=>.non
 | _,_,.bl b=>.bl b
 | _,_,.int i=>.int i
 | _,_,.str x=>.str x
 | _,_,.lst n e t=>.lst (f _ _ n e).1 (f _ _ n e).2 (A9.mv f t)
 | _,_,.tup n e t=>.tup (f _ _ n e).1 (f _ _ n e).2 (A9.mv f t)
 | _,_,.dic n e t=>.dic (f _ _ n e).1 (f _ _ n e).2 t
theorem A9.mv {F G:Addr->Prop} {H H':Hp} (f:∀b o,F b->H b=some o->G b/\H' b=some o):∀{vs:List V} {ds:List PyData},A9 F H vs ds->A9 G H' vs ds
 | _,_,.nil=>.nil
 | _,_,.cons x t=>.cons (ThV.mv f x) (A9.mv f t)
end
theorem A9.same {F:Addr->Prop} {H H':Hp} {v:List V} {d:List PyData} (t:A9 F H v d) (s:Same H H'):A9 F H' v d:=t.mv λb o z e=>⟨z,s b o e⟩
theorem A9.append {F:Addr->Prop} {H:Hp} {xs:List V} {ds:List PyData} {ys:List V} {es:List PyData} (t:A9 F H xs ds) (y:A9 F H ys es):A9 F H (xs++ys) (ds++es):=by
 induction xs generalizing ds with
 | nil=>cases t;exact y
 | cons v xs ih=>
  cases t with
  | cons x t=>exact .cons x (ih t)
theorem A9.len {F:Addr->Prop} {H:Hp} {xs:List V} {ds:List PyData} (t:A9 F H xs ds):xs.length=ds.length:=by
 induction xs generalizing ds with
 | nil=>cases t;rfl
 | cons v xs ih=>
  cases t with
  | cons x t=>rw[G6,G6,ih t]
theorem A9.get {F:Addr->Prop} {H:Hp}:∀{xs:List V} {ds:List PyData} {i:Nat} {v:V},A9 F H xs ds->xs[i]?=some v->∃d,ds[i]?=some d/\ThV F H v d
 | _,_,_,_,.nil,e=>by simp at e
 | _,_,0,v,.cons (d:=d) x _,e=>by
  have e':=Option.some.inj e
  subst e'
  exact⟨d,rfl,x⟩
 | _,_,i + 1,v,.cons _ t,e=>A9.get (i:=i) t e
theorem A9.at {F:Addr->Prop} {H:Hp}:∀{xs:List V} {ds:List PyData} {i:Nat} {d:PyData},A9 F H xs ds->ds[i]?=some d->∃v,xs[i]?=some v/\ThV F H v d
 | _,_,_,_,.nil,e=>by simp at e
 | _,_,0,d,.cons (x:=v) x _,e=>by
  have e':=Option.some.inj e
  subst e'
  exact⟨v,rfl,x⟩
 | _,_,i + 1,v,.cons _ t,e=>A9.at (i:=i) t e
mutual
theorem ThV.dat {K:B0} {F:Addr->Prop} {H:Hp}:∀{v:V} {d:PyData},ThV F H v d->d.canLay0=true->X7 K H v d
 | _,_,.non,_=>.non
 | _,_,.bl b,_=>.bl b
 | _,_,.int i,_=>.int i
 | _,_,.str x,_=>.str x
 | _,_,.lst _ e t,h=>.lst (SqL.of e) (A9.dat t (by rw[PyData.canLay0] at h;exact h))
 | _,_,.tup _ e t,h=>.tup (SqT.of e) (A9.dat t (by rw[PyData.canLay0] at h;exact h))
 | _,_,.dic _ _ _,h=>by rw[PyData.canLay0] at h;cases h
theorem A9.dat {K:B0} {F:Addr->Prop} {H:Hp}:∀{vs:List V} {ds:List PyData},A9 F H vs ds->PyData.canLayAll0 ds=true->m6 K H vs ds
 | _,_,.nil,_=>.nil
 | _,_,.cons x t,h=>by
  rw[PyData.canLayAll0,A0r] at h
  exact .cons (ThV.dat x h.1) (A9.dat t h.2)
end
structure DC where
 F:Addr->Prop
 hand:Option (Addr×Addr)
 H0:Hp
def Kq (h:Option (Addr×Addr)) (H H':Hp):Prop:=∀b o,H b=some o->(∀q,h=some q->b≠q.1)->H' b=some o
def Hq (h:Option (Addr×Addr)) (H:Hp):Prop:=∀q,h=some q->Hd H q.1 q.2
section
variable {h:Option (Addr×Addr)} {H H1 H2 H':Hp} {p:Addr} {o:HO}
theorem Kq.refl:Kq h H H:=λ_ _ e _=>e
theorem Kq.trans (a:Kq h H H1) (b:Kq h H1 H2):Kq h H H2:=λc o e n=>b c o (a c o e n) n
theorem Kq.same (s:Same H H'):Kq h H H':=λb o e _=>s b o e
theorem Kq.fr {b:Addr} (k:Kq h H H') (q:Hq h H') (e:H' b=none):H b=none:=by
 cases z:H b with
 | none=>rfl
 | some o=>
  by_cases c:∀p,h=some p->b≠p.1
  ·rw[k b o z c] at e;cases e
  ·refine absurd (λp hp hb=>?_) c
   obtain⟨o',e'⟩:=(q p hp).at1
   rw[hb,e'] at e;cases e
theorem Kq.lay (hp:H p=none):Kq h H (upd H p o):=Kq.same ((Same.refl H).lay hp)
theorem Hq.lay (q:Hq h H) (hp:H p=none):Hq h (upd H p o):=λz hz=>(q z hz).lay hp
end
inductive Rws (G F:Addr->Prop) (H:Hp):List Addr->List (List PyData)->Prop
 | nil:Rws G F H [] []
 | cons {b vs as ds dss}:G b->H b=some (.lst vs)->A9 F H vs ds->Rws G F H as dss->Rws G F H (b::as) (ds::dss)
theorem Rws.mv {G F G' F':Addr->Prop} {H H':Hp} {as:List Addr} {dss:List (List PyData)} (t:Rws G F H as dss) (f:∀b o,F b->H b=some o->F' b/\H' b=some o) (g:∀b o,G b->H b=some o->G' b/\H' b=some o):Rws G' F' H' as dss:=by
 induction t with
 | nil=>exact .nil
 | cons x e y _ ih=>exact .cons (g _ _ x e).1 (g _ _ x e).2 (y.mv f) ih
theorem Rws.mvl {G F G' F':Addr->Prop} {H H':Hp} {as:List Addr} {dss:List (List PyData)} (t:Rws G F H as dss) (f:∀b o,F b->H b=some o->F' b/\H' b=some o) (g:∀b ys,G b->H b=some (.lst ys)->G' b/\H' b=some (.lst ys)):Rws G' F' H' as dss:=by
 induction t with
 | nil=>exact .nil
 | cons x e y _ ih=>exact .cons (g _ _ x e).1 (g _ _ x e).2 (y.mv f) ih
def A41 (H:Hp) (a:Addr) (ks:List (List Int)):Bool->Prop
 | false=>H a=some (.dT (dEn ks))
 | true=>∃o,H a=some (.frz o (.dT (dEn ks)))
theorem A41.mv {H H':Hp} {a:Addr} {ks:List (List Int)} {f:Bool} (h:A41 H a ks f) (k:∀o,H a=some o->H' a=some o):A41 H' a ks f:=by
 cases f with
 | false=>exact k _ h
 | true=>obtain⟨o,h⟩:=h;exact⟨o,k _ h⟩
theorem A41.ne {H:Hp} {a:Addr} {ks:List (List Int)} {f:Bool} (h:A41 H a ks f):H a≠none:=by
 cases f with
 | false=>exact λq=>by rw[show H a=_ from h] at q;cases q
 | true=>obtain⟨o,h⟩:=h;exact λq=>by rw[h] at q;cases q
def A42 (H:Hp) (a:Addr) (ks:List (List Int×Int)):Bool->Prop
 | false=>H a=some (.dT (dEm ks))
 | true=>∃o,H a=some (.frz o (.dT (dEm ks)))
theorem A42.mv {H H':Hp} {a:Addr} {ks:List (List Int×Int)} {f:Bool} (h:A42 H a ks f) (k:∀o,H a=some o->H' a=some o):A42 H' a ks f:=by
 cases f with
 | false=>exact k _ h
 | true=>obtain⟨o,h⟩:=h;exact⟨o,k _ h⟩
theorem A42.ne {H:Hp} {a:Addr} {ks:List (List Int×Int)} {f:Bool} (h:A42 H a ks f):H a≠none:=by
 cases f with
 | false=>exact λq=>by rw[show H a=_ from h] at q;cases q
 | true=>obtain⟨o,h⟩:=h;exact λq=>by rw[h] at q;cases q
structure B7z where
 p:(Addr->Prop)->Hp->V->Prop
 mv:∀{W W':Addr->Prop} {H H':Hp} {v:V},(∀b o,W b->H b=some o->W' b/\H' b=some o)->p W H v->p W' H' v
inductive Sl where
 | no
 | sh (d:PyData)
 | ow (ds:List PyData)
 | bo (ds:List PyData)
 | hd
 | o2 (dss:List (List PyData))
 | b2 (dss:List (List PyData))
 | di (f:Bool) (ks:List (List Int))
 | dm (f:Bool) (kvs:List (List Int×Int))
 | bd (d:PyData)
 | ot (d:PyData)
 | ob (R:B7z)
abbrev Z (col:Addr->Nat):Addr->Prop:=λb=>col b=0
abbrev Le (C:DC):Addr->Prop:=λb=>C.H0 b≠none/\∀q,C.hand=some q->b≠q.1
abbrev Ow (C:DC) (col:Addr->Nat) (H:Hp) (i:Nat):Addr->Prop:=λb=>(col b=2 * i + 3/\C.H0 b=none)\/(col b=0/\∃xs,H b=some (.tup xs))
def SlR (C:DC) (col:Addr->Nat) (H:Hp) (i:Nat) (o:Option V):Sl->Prop
 | .no=>True
 | .sh d=>∃v,o=some v/\ThV (Z col) H v d
 | .ow ds=>∃a vs,o=some (.ref a)/\col a=2 * i + 3/\C.H0 a=none/\H a=some (.lst vs)/\A9 (Z col) H vs ds
 | .bo ds=>∃a vs,o=some (.ref a)/\col a<=1/\(∀q,C.hand=some q->a≠q.1)/\H a=some (.lst vs)/\A9 (Z col) H vs ds
 | .hd=>∃q,C.hand=some q/\o=some (.ref q.1)
 | .o2 dss=>∃a as,o=some (.ref a)/\(col a=2 * i + 3/\C.H0 a=none)/\H a=some (.lst (as.map V.ref))/\(a::as).Nodup/\Rws (λb=>col b=2 * i + 3/\C.H0 b=none) (Z col) H as dss
 | .b2 dss=>∃a as,o=some (.ref a)/\(col a<=1/\∀q,C.hand=some q->a≠q.1)/\H a=some (.lst (as.map V.ref))/\Rws (λb=>col b<=1/\∀q,C.hand=some q->b≠q.1) (Z col) H as dss
 | .di f ks=>∃a,o=some (.ref a)/\col a=2 * i + 3/\C.H0 a=none/\A41 H a ks f
 | .dm f ks=>∃a,o=some (.ref a)/\col a=2 * i + 3/\C.H0 a=none/\A42 H a ks f
 | .bd d=>∃v,o=some v/\ThV (Le C) C.H0 v d
 | .ot d=>∃v,o=some v/\ThV (Ow C col H i) H v d
 | .ob R=>∃v,o=some v/\R.p (Ow C col H i) H v
inductive Pe where
 | v (v:V) (d:PyData)
 | n (a:Addr) (o:HO)
 | s (vs:List V) (ds:List PyData)
 | o (c:Nat) (as:List Addr) (dss:List (List PyData))
 | w (v:V) (d:PyData)
def PeR (C:DC) (col:Addr->Nat) (H:Hp):Pe->Prop
 | .v v d=>ThV (Z col) H v d
 | .n a o=>col a<=1/\(∀q,C.hand=some q->a≠q.1)/\H a=some o
 | .s vs ds=>A9 (Z col) H vs ds
 | .o c as dss=>as.Nodup/\Rws (λb=>col b=2 * c + 2/\C.H0 b=none) (Z col) H as dss
 | .w v d=>ThV (Le C) C.H0 v d
structure F3 (C:DC) (col:Addr->Nat) (ρ:List Sl) (σ:St) (P:List Pe) (H:Hp):Prop where
 fresh:∀b,H b=none->col b=0
 inF:∀b,col b=0->C.F b
 hnd:∀q,C.hand=some q->col q.1=1
 sl:∀i s,ρ[i]?=some s->SlR C col H i (σ[i]?).join s
 pd:∀p∈P,PeR C col H p
 kq:Kq C.hand C.H0 H
 hq:Hq C.hand H
 hq0:Hq C.hand C.H0
 nf:(∀b,C.H0 b=none->C.F b)/\∀b xs,C.H0 b=some (.tup xs)->C.F b
 len:ρ.length=σ.length
def Rel (C:DC) (ρ:List Sl) (σ:St) (P:List Pe) (H:Hp):Prop:=∃col,F3 C col ρ σ P H
section
variable {C:DC} {col col':Addr->Nat} {ρ:List Sl} {σ:St} {P P':List Pe} {H H':Hp} {v:V} {d:PyData} {o:HO} {p:Addr}
theorem F3.notH (r:F3 C col ρ σ P H) {b:Addr} (hb:col b≠1):∀q,C.hand=some q->b≠q.1:=λq hq e=>hb (e▸r.hnd q hq)
theorem F3.mv (r:F3 C col ρ σ P H) (k:Kq C.hand H H') (q:Hq C.hand H'):F3 C col ρ σ P H':=by
 have mv0:∀b o,Z col b->H b=some o->Z col b/\H' b=some o:=λb o z e=>⟨z,k b o e (r.notH (by rw[show col b=0 from z];decide))⟩
 refine⟨λb e=>r.fresh b (k.fr q e),r.inF,r.hnd,λi s e=>?_,λp hp=>?_,r.kq.trans k,q,r.hq0,r.nf,r.len⟩
 ·have h:=r.sl i s e
  cases s with
  | no=>trivial
  | sh d=>obtain⟨v,e1,t⟩:=h;exact⟨v,e1,t.mv mv0⟩
  | ow ds=>obtain⟨a,vs,e1,c,n,e2,t⟩:=h;exact⟨a,vs,e1,c,n,k a _ e2 (r.notH (by lia)),t.mv mv0⟩
  | bo ds=>obtain⟨a,vs,e1,c,n,e2,t⟩:=h;exact⟨a,vs,e1,c,n,k a _ e2 n,t.mv mv0⟩
  | hd=>exact h
  | o2 dss=>obtain⟨a,as,e1,c,e2,nd,t⟩:=h;exact⟨a,as,e1,c,k a _ e2 (r.notH (by lia)),nd,t.mv mv0 λb o g e=>⟨g,k b o e (r.notH (by have:=g.1;lia))⟩⟩
  | b2 dss=>obtain⟨a,as,e1,c,e2,t⟩:=h;exact⟨a,as,e1,c,k a _ e2 c.2,t.mv mv0 λb o g e=>⟨g,k b o e g.2⟩⟩
  | di f ks=>obtain⟨a,e1,c,n,e2⟩:=h;exact⟨a,e1,c,n,e2.mv λo e=>k a o e (r.notH (by lia))⟩
  | dm f ks=>obtain⟨a,e1,c,n,e2⟩:=h;exact⟨a,e1,c,n,e2.mv λo e=>k a o e (r.notH (by lia))⟩
  | bd d=>exact h
  | ot d=>
   obtain⟨v,e1,t⟩:=h
   refine⟨v,e1,t.mv λb o g e=>?_⟩
   have e':H' b=some o:=k b o e (r.notH (by rcases g with g | g <;> (have:=g.1;lia)))
   exact⟨g.imp id λ⟨c,xs,z⟩=>⟨c,xs,by rw[e] at z;rw[e'];exact z⟩,e'⟩
  | ob R=>
   obtain⟨v,e1,t⟩:=h
   refine⟨v,e1,R.mv (λb o g e=>?_) t⟩
   have e':H' b=some o:=k b o e (r.notH (by rcases g with g | g <;> (have:=g.1;lia)))
   exact⟨g.imp id λ⟨c,xs,z⟩=>⟨c,xs,by rw[e] at z;rw[e'];exact z⟩,e'⟩
 ·have h:=r.pd p hp
  cases p with
  | v v d=>exact ThV.mv mv0 h
  | n a o=>exact⟨h.1,h.2.1,k a o h.2.2 h.2.1⟩
  | s vs ds=>exact A9.mv mv0 h
  | o c as dss=>exact⟨h.1,h.2.mv mv0 λb o g e=>⟨g,k b o e (r.notH (by have:=g.1;lia))⟩⟩
  | w v d=>exact h
theorem F3.lay (r:F3 C col ρ σ P H) (hp:H p=none):F3 C col ρ σ P (upd H p o):=r.mv (Kq.lay hp) (r.hq.lay hp)
theorem F3.add (r:F3 C col ρ σ P H) {x:Pe} (t:PeR C col H x):F3 C col ρ σ (x::P) H:=
 { r with pd:=λp hp=>(J1.mp hp).elim (λe=>e▸t) (r.pd p) }
theorem F3.push (r:F3 C col ρ σ P H) (t:ThV (Z col) H v d):F3 C col ρ σ (.v v d::P) H:=r.add t
theorem F3.sub (r:F3 C col ρ σ P H) (h:∀p∈P',p∈P):F3 C col ρ σ P' H:={ r with pd:=λp hp=>r.pd p (h p hp) }
theorem Rel.sub (r:Rel C ρ σ P H) (h:∀p∈P',p∈P):Rel C ρ σ P' H:=let ⟨c,r⟩:=r;⟨c,r.sub h⟩
theorem Rel.pop {x:Pe} (r:Rel C ρ σ (x::P) H):Rel C ρ σ P H:=r.sub λ_ h=>C8 _ h
theorem F3.tup {vs:List V} {ds:List PyData} (r:F3 C col ρ σ P H) (t:A9 (Z col) H vs ds) (hp:H p=none):F3 C col ρ σ (.v (.ref p) (.tuple ds)::P) (upd H p (.tup vs)):=
 (r.lay hp).push (.tup (r.fresh p hp) B2 (t.same ((Same.refl H).lay hp)))
theorem F3.lst {vs:List V} {ds:List PyData} (r:F3 C col ρ σ P H) (t:A9 (Z col) H vs ds) (hp:H p=none):F3 C col ρ σ (.v (.ref p) (.list ds)::P) (upd H p (.lst vs)):=
 (r.lay hp).push (.lst (r.fresh p hp) B2 (t.same ((Same.refl H).lay hp)))
theorem F3.recol (r:F3 C col ρ σ P H) {ρ':List Sl} {σ':St} (hl:ρ'.length=σ'.length) (f:∀b,H b=none->col' b=0) (i:∀b,col' b=0->C.F b) (n:∀q,C.hand=some q->col' q.1=1) (z:∀b,col b=0->H b≠none->col' b=0)
  (lo:∀b,col b<=1->H b≠none->col' b<=1) (c2:∀b c,col b=2 * c + 2->col' b=2 * c + 2) (s:∀i s,ρ'[i]?=some s->SlR C col' H i (σ'[i]?).join s):F3 C col' ρ' σ' P H:=by
 have mv0:∀b o,Z col b->H b=some o->Z col' b/\H b=some o:=λb o zz e=>⟨z b zz (by rw[e];exact λq=>nomatch q),e⟩
 refine⟨f,i,n,s,λp hp=>?_,r.kq,r.hq,r.hq0,r.nf,hl⟩
 have h:=r.pd p hp
 cases p with
 | v v d=>exact ThV.mv mv0 h
 | n a o=>exact⟨lo a h.1 (by rw[h.2.2];exact λq=>nomatch q),h.2⟩
 | s vs ds=>exact A9.mv mv0 h
 | o c as dss=>exact⟨h.1,h.2.mv mv0 λb o g e=>⟨⟨c2 b c g.1,g.2⟩,e⟩⟩
 | w v d=>exact h
theorem F3.freeze {i:Nat} {ds:List PyData} (r:F3 C col ρ σ P H) (e:ρ[i]?=some (.ow ds)) :
  ∃a,(σ[i]?).join=some (.ref a)/\Rel C (ρ.set i (.sh (.list ds))) σ (.v (.ref a) (.list ds)::P) H:=by
 obtain⟨a,vs,e1,c,n,e2,t⟩:=r.sl i _ e
 let col':Addr->Nat:=λb=>if b=a then 0 else col b
 have ca:col' a=0:=if_pos rfl
 have cn:∀b,b≠a->col' b=col b:=λb hb=>if_neg hb
 have z:∀b,col b=0->col' b=0:=λb hb=>by
  by_cases q:b=a
  ·rw[q];exact ca
  ·rw[cn b q];exact hb
 have mv0:∀b o,Z col b->H b=some o->Z col' b/\H b=some o:=λb o zz e=>⟨z b zz,e⟩
 have T:ThV (Z col') H (.ref a) (.list ds):=.lst ca e2 (t.mv mv0)
 have R:F3 C col' (ρ.set i (.sh (.list ds))) σ P H:=by
  refine r.recol (by rw[W0];exact r.len) (λb hb=>z b (r.fresh b hb)) (λb hb=>?_) (λq hq=>?_) (λb hb _=>z b hb) (λb hb _=>?_) (λb c2 hb=>by rw[cn b (λq=>by rw[q] at hb;lia)];exact hb) λj s es=>?_
  ·by_cases q:b=a
   ·rw[q];exact r.nf.1 a n
   ·rw[cn b q] at hb;exact r.inF b hb
  ·rw[cn _ λq'=>by have:=r.hnd q hq;rw[q'] at this;lia];exact r.hnd q hq
  ·by_cases q:b=a
   ·rw[q,ca];lia
   ·rw[cn b q];exact hb
  ·by_cases hj:j=i
   ·subst hj
    rw[A1h] at es
    simp only[if_true] at es
    split at es
    ·cases es;exact⟨_,e1,T⟩
    ·cases es
   ·rw[A0o (Ne.symm hj)] at es
    have h:=r.sl j s es
    cases s with
    | no=>trivial
    | sh d=>obtain⟨v,e1,t⟩:=h;exact⟨v,e1,t.mv mv0⟩
    | ow ds=>obtain⟨a',vs',e1',c',n',e2',t'⟩:=h;exact⟨a',vs',e1',by rw[cn a' (λq=>by rw[q] at c';lia)];exact c',n',e2',t'.mv mv0⟩
    | bo ds=>obtain⟨a',vs',e1',c',n',e2',t'⟩:=h;exact⟨a',vs',e1',by by_cases q:a'=a;{ rw[q,ca];lia };{ rw[cn a' q];exact c' },n',e2',t'.mv mv0⟩
    | hd=>exact h
    | o2 dss=>obtain⟨a',as',e1',c',e2',nd',t'⟩:=h;exact⟨a',as',e1',⟨by rw[cn a' (λq=>by rw[q] at c';lia)];exact c'.1,c'.2⟩,e2',nd',t'.mv mv0 λb o g e=>⟨⟨by rw[cn b (λq=>by have:=g.1;rw[q] at this;lia)];exact g.1,g.2⟩,e⟩⟩
    | b2 dss=>obtain⟨a',as',e1',c',e2',t'⟩:=h;exact⟨a',as',e1',⟨by by_cases q:a'=a;{ rw[q,ca];lia };{ rw[cn a' q];exact c'.1 },c'.2⟩,e2',t'.mv mv0 λb o g e=>⟨⟨by by_cases q:b=a;{ rw[q,ca];lia };{ rw[cn b q];exact g.1 },g.2⟩,e⟩⟩
    | di f ks=>obtain⟨a',e1',c',n',e2'⟩:=h;exact⟨a',e1',by rw[cn a' (λq=>by rw[q] at c';lia)];exact c',n',e2'⟩
    | dm f ks=>obtain⟨a',e1',c',n',e2'⟩:=h;exact⟨a',e1',by rw[cn a' (λq=>by rw[q] at c';lia)];exact c',n',e2'⟩
    | bd d=>exact h
    | ot d=>obtain⟨v,e1',t'⟩:=h;exact⟨v,e1',t'.mv λb o g e=>⟨g.imp (λg=>⟨by rw[cn b (λq=>by rw[q] at g;have:=g.1;lia)];exact g.1,g.2⟩) λg=>⟨z b g.1,g.2⟩,e⟩⟩
    | ob R=>obtain⟨v,e1',t'⟩:=h;exact⟨v,e1',R.mv (λb o g e=>⟨g.imp (λg=>⟨by rw[cn b (λq=>by rw[q] at g;have:=g.1;lia)];exact g.1,g.2⟩) λg=>⟨z b g.1,g.2⟩,e⟩) t'⟩
 exact⟨a,e1,col',R.push T⟩
theorem F3.store {i:Nat} (r:F3 C col ρ σ P H) (t:ThV (Z col) H v d):F3 C col (ρ.set i (.sh d)) (σ.set i (some v)) P H:=by
 refine { r with sl:=λj s es=>?_,len:=by rw[W0,W0];exact r.len }
 by_cases hj:j=i
 ·subst hj
  rw[A1h] at es
  simp only[if_true] at es
  split at es
  ·rename_i hl
   cases es
   refine⟨v,?_,t⟩
   rw[A1h,if_pos rfl,if_pos (by rw[<-r.len];exact hl)];rfl
  ·cases es
 ·rw[A0o (Ne.symm hj)] at es
  rw[A0o (Ne.symm hj)]
  exact r.sl j s es
theorem F3.own {i:Nat} {vs:List V} {ds:List PyData} (r:F3 C col ρ σ P H) (t:A9 (Z col) H vs ds) (hp:H p=none):Rel C (ρ.set i (.ow ds)) (σ.set i (some (.ref p))) P (upd H p (.lst vs)):=by
 let col':Addr->Nat:=λb=>if b=p then 2 * i + 3 else col b
 have ca:col' p=2 * i + 3:=if_pos rfl
 have cn:∀b,b≠p->col' b=col b:=λb hb=>if_neg hb
 have ne:∀b,H b≠none->b≠p:=λb hb q=>hb (q▸hp)
 have mv0:∀b o,Z col b->H b=some o->Z col' b/\upd H p (.lst vs) b=some o:=λb o zz e=>by
  have q:=ne b (by rw[e];exact λq=>nomatch q)
  exact⟨(cn b q).trans zz,by rw[B4 q];exact e⟩
 have r1:=r.lay (o:=.lst vs) hp
 have c0:C.H0 p=none:=r.kq.fr r.hq hp
 refine⟨col',λb hb=>?_,λb hb=>?_,λq hq=>?_,λj s es=>?_,λx hx=>?_,r1.kq,r1.hq,r.hq0,r.nf,by rw[W0,W0];exact r.len⟩
 ·have q:b≠p:=λq=>by rw[q,B2] at hb;cases hb
  rw[cn b q];exact r1.fresh b hb
 ·have q:b≠p:=λq=>by rw[q,ca] at hb;cases hb
  rw[cn b q] at hb;exact r.inF b hb
 ·obtain⟨o',e'⟩:=(r.hq q hq).at1
  rw[cn _ (ne _ (by rw[e'];exact λq=>nomatch q))];exact r.hnd q hq
 ·by_cases hj:j=i
  ·subst hj
   rw[A1h] at es
   simp only[if_true] at es
   split at es
   ·rename_i hl
    cases es
    exact⟨p,vs,by rw[A1h,if_pos rfl,if_pos (by rw[<-r.len];exact hl)];rfl,ca,c0,B2,t.mv mv0⟩
   ·cases es
  ·rw[A0o (Ne.symm hj)] at es
   rw[A0o (Ne.symm hj)]
   have h:=r.sl j s es
   cases s with
   | no=>trivial
   | sh d=>obtain⟨v,e1,t⟩:=h;exact⟨v,e1,t.mv mv0⟩
   | ow ds=>
    obtain⟨a',vs',e1',c',n',e2',t'⟩:=h
    have q:=ne a' (by rw[e2'];exact λq=>nomatch q)
    exact⟨a',vs',e1',by rw[cn a' q];exact c',n',by rw[B4 q];exact e2',t'.mv mv0⟩
   | bo ds=>
    obtain⟨a',vs',e1',c',n',e2',t'⟩:=h
    have q:=ne a' (by rw[e2'];exact λq=>nomatch q)
    exact⟨a',vs',e1',by rw[cn a' q];exact c',n',by rw[B4 q];exact e2',t'.mv mv0⟩
   | hd=>exact h
   | o2 dss=>
    obtain⟨a',as',e1',c',e2',nd',t'⟩:=h
    have q:=ne a' (by rw[e2'];exact λq=>nomatch q)
    exact⟨a',as',e1',⟨by rw[cn a' q];exact c'.1,c'.2⟩,by rw[B4 q];exact e2',nd',t'.mv mv0 λb o g e=>by
     have q:=ne b (by rw[e];exact λq=>nomatch q)
     exact⟨⟨by rw[cn b q];exact g.1,g.2⟩,by rw[B4 q];exact e⟩⟩
   | b2 dss=>
    obtain⟨a',as',e1',c',e2',t'⟩:=h
    have q:=ne a' (by rw[e2'];exact λq=>nomatch q)
    exact⟨a',as',e1',⟨by rw[cn a' q];exact c'.1,c'.2⟩,by rw[B4 q];exact e2',t'.mv mv0 λb o g e=>by
     have q:=ne b (by rw[e];exact λq=>nomatch q)
     exact⟨⟨by rw[cn b q];exact g.1,g.2⟩,by rw[B4 q];exact e⟩⟩
   | di f ks=>
    obtain⟨a',e1',c',n',e2'⟩:=h
    have q:=ne a' e2'.ne
    exact⟨a',e1',by rw[cn a' q];exact c',n',e2'.mv λo e=>by rw[B4 q];exact e⟩
   | dm f ks=>
    obtain⟨a',e1',c',n',e2'⟩:=h
    have q:=ne a' e2'.ne
    exact⟨a',e1',by rw[cn a' q];exact c',n',e2'.mv λo e=>by rw[B4 q];exact e⟩
   | bd d=>exact h
   | ot d=>
    obtain⟨v,e1',t'⟩:=h
    exact⟨v,e1',t'.mv λb o g e=>by
     have q:=ne b (by rw[e];exact λq=>nomatch q)
     exact⟨g.imp (λg=>⟨by rw[cn b q];exact g.1,g.2⟩) λg=>⟨by rw[cn b q];exact g.1,by rw[B4 q];exact g.2⟩,by rw[B4 q];exact e⟩⟩
   | ob R=>
    obtain⟨v,e1',t'⟩:=h
    exact⟨v,e1',R.mv (λb o g e=>by
     have q:=ne b (by rw[e];exact λq=>nomatch q)
     exact⟨g.imp (λg=>⟨by rw[cn b q];exact g.1,g.2⟩) λg=>⟨by rw[cn b q];exact g.1,by rw[B4 q];exact g.2⟩,by rw[B4 q];exact e⟩) t'⟩
 ·have h:=r.pd x hx
  cases x with
  | v v d=>exact ThV.mv mv0 h
  | n a o=>
   have q:=ne a (by rw[h.2.2];exact λq=>nomatch q)
   exact⟨by rw[cn a q];exact h.1,h.2.1,by rw[B4 q];exact h.2.2⟩
  | s vs ds=>exact A9.mv mv0 h
  | o c as dss=>exact⟨h.1,h.2.mv mv0 λb o g e=>by
    have q:=ne b (by rw[e];exact λq=>nomatch q)
    exact⟨⟨by rw[cn b q];exact g.1,g.2⟩,by rw[B4 q];exact e⟩⟩
  | w v d=>exact h
theorem F3.write {i:Nat} {a:Addr} {ws:List V} {ds es:List PyData} (r:F3 C col ρ σ P H) (e:ρ[i]?=some (.ow ds)) (ea:(σ[i]?).join=some (.ref a)) (t:A9 (Z col) H ws es) :
  F3 C col (ρ.set i (.ow es)) σ P (upd H a (.lst ws)):=by
 obtain⟨a',vs',e1,c,n,e2,_⟩:=r.sl i _ e
 rw[e1] at ea
 cases ea
 have ne:∀b,col b≠2 * i + 3->b≠a:=λb hb q=>hb (q▸c)
 have mv0:∀b o,Z col b->H b=some o->Z col b/\upd H a (.lst ws) b=some o:=λb o zz e=>⟨zz,by rw[B4 (ne b (by rw[show col b=0 from zz];lia))];exact e⟩
 refine⟨λb hb=>?_,r.inF,r.hnd,λj s es'=>?_,λx hx=>?_,λb o e q=>?_,λq hq=>?_,r.hq0,r.nf,by rw[W0];exact r.len⟩
 ·by_cases q:b=a
  ·rw[q,B2] at hb;cases hb
  ·rw[B4 q] at hb;exact r.fresh b hb
 ·by_cases hj:j=i
  ·subst hj
   rw[A1h] at es'
   simp only[if_true] at es'
   split at es'
   ·cases es'
    exact⟨a,ws,e1,c,n,B2,t.mv mv0⟩
   ·cases es'
  ·rw[A0o (Ne.symm hj)] at es'
   have h:=r.sl j s es'
   cases s with
   | no=>trivial
   | sh d=>obtain⟨v,e1,t⟩:=h;exact⟨v,e1,t.mv mv0⟩
   | ow ds=>
    obtain⟨a',vs',e1',c',n',e2',t'⟩:=h
    exact⟨a',vs',e1',c',n',by rw[B4 (ne a' (by lia))];exact e2',t'.mv mv0⟩
   | bo ds=>
    obtain⟨a',vs',e1',c',n',e2',t'⟩:=h
    exact⟨a',vs',e1',c',n',by rw[B4 (ne a' (by lia))];exact e2',t'.mv mv0⟩
   | hd=>exact h
   | o2 dss=>
    obtain⟨a',as',e1',c',e2',nd',t'⟩:=h
    exact⟨a',as',e1',c',by rw[B4 (ne a' (by lia))];exact e2',nd',t'.mv mv0 λb o g e=>⟨g,by rw[B4 (ne b (by have:=g.1;lia))];exact e⟩⟩
   | b2 dss=>
    obtain⟨a',as',e1',c',e2',t'⟩:=h
    exact⟨a',as',e1',c',by rw[B4 (ne a' (by have:=c'.1;lia))];exact e2',t'.mv mv0 λb o g e=>⟨g,by rw[B4 (ne b (by have:=g.1;lia))];exact e⟩⟩
   | di f ks=>
    obtain⟨a',e1',c',n',e2'⟩:=h
    exact⟨a',e1',c',n',e2'.mv λo e=>by rw[B4 (ne a' (by lia))];exact e⟩
   | dm f ks=>
    obtain⟨a',e1',c',n',e2'⟩:=h
    exact⟨a',e1',c',n',e2'.mv λo e=>by rw[B4 (ne a' (by lia))];exact e⟩
   | bd d=>exact h
   | ot d=>
    obtain⟨v,e1',t'⟩:=h
    exact⟨v,e1',t'.mv λb o g e=>by
     have q:=ne b (by rcases g with g | g <;> (have:=g.1;lia))
     exact⟨g.imp id λg=>⟨g.1,by rw[B4 q];exact g.2⟩,by rw[B4 q];exact e⟩⟩
   | ob R=>
    obtain⟨v,e1',t'⟩:=h
    exact⟨v,e1',R.mv (λb o g e=>by
     have q:=ne b (by rcases g with g | g <;> (have:=g.1;lia))
     exact⟨g.imp id λg=>⟨g.1,by rw[B4 q];exact g.2⟩,by rw[B4 q];exact e⟩) t'⟩
 ·have h:=r.pd x hx
  cases x with
  | v v d=>exact ThV.mv mv0 h
  | n b o=>exact⟨h.1,h.2.1,by rw[B4 (ne b (by have:=h.1;lia))];exact h.2.2⟩
  | s vs ds=>exact A9.mv mv0 h
  | o c as dss=>exact⟨h.1,h.2.mv mv0 λb o g e=>⟨g,by rw[B4 (ne b (by have:=g.1;lia))];exact e⟩⟩
  | w v d=>exact h
 ·have z:=r.kq b o e q
  have q':b≠a:=λq'=>by rw[q',n] at e;cases e
  rw[B4 q'];exact z
 ·obtain⟨o1,h1⟩:=(r.hq0 q hq).at1
  obtain⟨o2,h2⟩:=(r.hq0 q hq).at2
  exact (r.hq q hq).wr (λz=>by rw[<-z,n] at h1;cases h1) (λz=>by rw[<-z,n] at h2;cases h2)
end
open Classical in
theorem F3.norm {C:DC} {col:Addr->Nat} {ρ:List Sl} {σ:St} {P:List Pe} {H:Hp} (r:F3 C col ρ σ P H):∃col',F3 C col' ρ σ P H/\∀b xs,H b=some (.tup xs)->col' b=0:=by
 let col':Addr->Nat:=λb=>if ∃xs,H b=some (.tup xs) then 0 else col b
 have ct:∀b xs,H b=some (.tup xs)->col' b=0:=λb xs e=>if_pos ⟨xs,e⟩
 have cn:∀b,(∀xs,H b≠some (.tup xs))->col' b=col b:=λb h=>if_neg λ⟨xs,e⟩=>h xs e
 have hl:∀b ys,H b=some (.lst ys)->col' b=col b:=λb ys e=>cn b λxs z=>by rw[e] at z;cases z
 have hd:∀q,C.hand=some q->∀xs,H q.1≠some (.tup xs):=λq hq xs z=>by
  obtain⟨_,_,_,_,_,_,_,_,e⟩:=r.hq q hq
  rw[e] at z;cases z
 have z0:∀b,col b=0->col' b=0:=λb hb=>by
  by_cases h:∃xs,H b=some (.tup xs)
  ·exact if_pos h
  ·exact (if_neg h).trans hb
 have lo:∀b,col b<=1->col' b<=1:=λb hb=>by
  by_cases h:∃xs,H b=some (.tup xs)
  ·rw[show col' b=0 from if_pos h];lia
  ·rw[show col' b=col b from if_neg h];exact hb
 have mv0:∀b o,Z col b->H b=some o->Z col' b/\H b=some o:=λb o zz e=>⟨z0 b zz,e⟩
 refine⟨col',⟨λb e=>z0 b (r.fresh b e),λb hb=>?_,λq hq=>(cn _ (hd q hq)).trans (r.hnd q hq),λi s e=>?_,λp hp=>?_,r.kq,r.hq,r.hq0,r.nf,r.len⟩,ct⟩
 ·by_cases h:∃xs,H b=some (.tup xs)
  ·obtain⟨xs,h⟩:=h
   cases q:C.H0 b with
   | none=>exact r.nf.1 b q
   | some o=>
    have:=r.kq b o q λp hp e=>hd p hp xs (e▸h)
    rw[this] at h
    cases h
    exact r.nf.2 b xs q
  ·rw[show col' b=col b from if_neg h] at hb;exact r.inF b hb
 ·have h:=r.sl i s e
  cases s with
  | no=>trivial
  | sh d=>obtain⟨v,e1,t⟩:=h;exact⟨v,e1,t.mv mv0⟩
  | ow ds=>obtain⟨a,vs,e1,c,n,e2,t⟩:=h;exact⟨a,vs,e1,(hl a _ e2).trans c,n,e2,t.mv mv0⟩
  | bo ds=>obtain⟨a,vs,e1,c,n,e2,t⟩:=h;exact⟨a,vs,e1,lo a c,n,e2,t.mv mv0⟩
  | hd=>exact h
  | o2 dss=>obtain⟨a,as,e1,c,e2,nd,t⟩:=h;exact⟨a,as,e1,⟨(hl a _ e2).trans c.1,c.2⟩,e2,nd,t.mvl mv0 λb ys g e=>⟨⟨(hl b _ e).trans g.1,g.2⟩,e⟩⟩
  | b2 dss=>obtain⟨a,as,e1,c,e2,t⟩:=h;exact⟨a,as,e1,⟨lo a c.1,c.2⟩,e2,t.mvl mv0 λb ys g e=>⟨⟨lo b g.1,g.2⟩,e⟩⟩
  | di f ks=>
   obtain⟨a,e1,c,n,e2⟩:=h
   refine⟨a,e1,(cn a λxs z=>?_).trans c,n,e2⟩
   cases f with
   | false=>rw[show H a=_ from e2] at z;cases z
   | true=>obtain⟨o,e2⟩:=e2;rw[e2] at z;cases z
  | dm f ks=>
   obtain⟨a,e1,c,n,e2⟩:=h
   refine⟨a,e1,(cn a λxs z=>?_).trans c,n,e2⟩
   cases f with
   | false=>rw[show H a=_ from e2] at z;cases z
   | true=>obtain⟨o,e2⟩:=e2;rw[e2] at z;cases z
  | bd d=>exact h
  | ot d=>
   obtain⟨v,e1,t⟩:=h
   refine⟨v,e1,t.mv λb o g e=>⟨?_,e⟩⟩
   by_cases q:∃xs,H b=some (.tup xs)
   ·obtain⟨xs,q⟩:=q
    exact .inr ⟨ct b xs q,xs,q⟩
   ·rcases g with g | g
    ·exact .inl ⟨(if_neg q).trans g.1,g.2⟩
    ·exact absurd g.2 q
  | ob R=>
   obtain⟨v,e1,t⟩:=h
   refine⟨v,e1,R.mv (λb o g e=>⟨?_,e⟩) t⟩
   by_cases q:∃xs,H b=some (.tup xs)
   ·obtain⟨xs,q⟩:=q
    exact .inr ⟨ct b xs q,xs,q⟩
   ·rcases g with g | g
    ·exact .inl ⟨(if_neg q).trans g.1,g.2⟩
    ·exact absurd g.2 q
 ·have h:=r.pd p hp
  cases p with
  | v v d=>exact ThV.mv mv0 h
  | n a o=>exact⟨lo a h.1,h.2⟩
  | s vs ds=>exact A9.mv mv0 h
  | o c as dss=>exact⟨h.1,h.2.mvl mv0 λb ys g e=>⟨⟨(hl b _ e).trans g.1,g.2⟩,e⟩⟩
  | w v d=>exact h
inductive Pds (P:List Pe):List V->List PyData->Prop
 | nil:Pds P [] []
 | cons {v d vs ds}:Pe.v v d∈P->Pds P vs ds->Pds P (v::vs) (d::ds)
theorem Pds.th {C:DC} {col:Addr->Nat} {ρ:List Sl} {σ:St} {P:List Pe} {H:Hp} (r:F3 C col ρ σ P H):∀{vs:List V} {ds:List PyData},Pds P vs ds->A9 (Z col) H vs ds
 | _,_,.nil=>.nil
 | _,_,.cons h t=>.cons (r.pd _ h) (Pds.th r t)
abbrev DE:=List Sl->(PyData->List Sl->Prop)->Prop
abbrev DT:=List Sl->(Bool->List Sl->Prop)->Prop
abbrev DF:=List Sl->(List PyData->List Sl->Prop)->Prop
def eOf (C:DC) (t:DE):TE:=fun σ H Q=>∃ρ P Qd,Rel C ρ σ P H/\t ρ Qd/\∀v d ρ' H',Rel C ρ' σ (.v v d::P) H'->Qd d ρ'->Q v H'
def cOf (C:DC) (t:DT):TT:=fun σ H Q=>∃ρ P Qd,Rel C ρ σ P H/\t ρ Qd/\∀b ρ' H',Rel C ρ' σ P H'->Qd b ρ'->Q b H'
def fOf (C:DC) (t:DF):TE:=fun σ H Q=>∃ρ P Qd,Rel C ρ σ P H/\t ρ Qd/\∀p vs ds ρ' H1,(∃col,F3 C col ρ' σ P H1/\A9 (Z col) H1 vs ds)->H1 p=none->Qd ds ρ'->Q (.ref p) (upd H1 p (.lst vs))
def vOf (C:DC) (t:DF):TA:=fun σ H Q=>∃ρ P Qd,Rel C ρ σ P H/\t ρ Qd/\∀vs ds ρ' P' H',Rel C ρ' σ P' H'->(∀p∈P,p∈P')->Pds P' vs ds->Qd ds ρ'->Q vs H'
def bnd {α:Type} (o:Option α) (Q:α->Prop):Prop:=match o with
 | some a=>Q a
 | none=>False
theorem M3 {α:Type} {o:Option α} {Q:α->Prop} (h:bnd o Q):∃a,o=some a/\Q a:=by
 cases o with
 | none=>exact h.elim
 | some a=>exact⟨a,rfl,h⟩
section
variable {X:Cx} {C:DC}
theorem PE.wk {e:Expr} {t t':TE} (h:PE X e t) (f:∀σ H Q,t' σ H Q->t σ H Q):PE X e t':=λpins s σ H Q I q=>h pins s σ H Q I (f σ H Q q)
theorem PT.wk {e:Expr} {t t':TT} (h:PT X e t) (f:∀σ H Q,t' σ H Q->t σ H Q):PT X e t':=λpins s σ H Q I q=>h pins s σ H Q I (f σ H Q q)
theorem PW.wk {e:Expr} {t t':TT} (h:PW X e t) (f:∀σ H Q,t' σ H Q->t σ H Q):PW X e t':=λwh pins s σ H Q I q=>h wh pins s σ H Q I (f σ H Q q)
theorem PA.wk {es:List Expr} {t t':TA} (h:PA X es t) (f:∀σ H Q,t' σ H Q->t σ H Q):PA X es t':=λpos pins s σ H Q I q=>h pos pins s σ H Q I (f σ H Q q)
theorem PO.wk {e:Option Expr} {t t':TO} (h:PO X e t) (f:∀σ H Q,t' σ H Q->t σ H Q):PO X e t':=λpins s σ H Q I q=>h pins s σ H Q I (f σ H Q q)
def dC (d:PyData)  (ρ:List Sl) (Q:PyData->List Sl->Prop):Prop:=Q d ρ
theorem A87 {e:Expr} {v:V} {d:PyData} (h:PE X e (tC v)) (t:∀F H,ThV F H v d):PE X e (eOf C (dC d)):=PE.wk h λ_ _ _ zz1=>el3 zz1 λ_ _ _ zz2 ht k=>zz2.elim λcol r=>k _ _ _ _ ⟨col,r.push (t _ _)⟩ ht
theorem E3 {i j pos}:PE X (.Constant (.int i) j pos) (eOf C (dC (.int i))):=A87 B1 λ_ _=>.int i
theorem B70 {b j pos}:PE X (.Constant (.bool b) j pos) (eOf C (dC (.bool b))):=A87 j9 λ_ _=>.bl b
theorem N2 {j pos}:PE X (.Constant .none j pos) (eOf C (dC .none)):=A87 w5 λ_ _=>.non
theorem D3 {e:Expr} {i:Int} (h:PE X e (tC (.int i))):PE X e (eOf C (dC (.int i))):=A87 h λ_ _=>.int i
theorem M6 {α:Type} {o:Option (Option α)} {v:α} (h:o.join=some v):o=some (some v):=by
 cases o with
 | none=>cases h
 | some q=>exact congrArg some h
def A1o (i:Nat)  (ρ:List Sl) (Q:PyData->List Sl->Prop):Prop:=match ρ[i]? with
 | some (.sh d)=>Q d ρ
 | some (.ow ds)=>Q (.list ds) (ρ.set i (.sh (.list ds)))
 | _=>False
theorem A5 {e:Expr} {i:Nat} (h:PE X e (W1 i)):PE X e (eOf C (A1o i)):=PE.wk h fun σ H Q zz3=>el3 zz3 fun ρ P Qd zz4 ht k=>zz4.elim λcol r=>by
 unfold A1o at ht
 split at ht
 ·rename_i d e
  obtain⟨v,e1,t⟩:=r.sl i _ e
  exact⟨v,M6 e1,k _ _ _ _ ⟨col,r.push t⟩ ht⟩
 ·rename_i ds e
  obtain⟨a,e1,R⟩:=r.freeze e
  exact⟨_,M6 e1,k _ _ _ _ R ht⟩
 ·exact ht.elim
def S7 (ρ:List Sl) (i:Nat):Option PyData:=match ρ[i]? with
 | some (.sh d)=>some d
 | some (.ow ds)=>some (.list ds)
 | some (.bo ds)=>some (.list ds)
 | _=>none
inductive Red (col:Addr->Nat) (H:Hp):V->PyData->Prop
 | th {v d}:ThV (Z col) H v d->Red col H v d
 | ls {a vs ds}:H a=some (.lst vs)->A9 (Z col) H vs ds->Red col H (.ref a) (.list ds)
theorem F3.slot {col:Addr->Nat} {ρ:List Sl} {σ:St} {P:List Pe} {H:Hp} (r:F3 C col ρ σ P H) {i:Nat} {d:PyData} (h:S7 ρ i=some d):∃v,σ[i]?=some (some v)/\Red col H v d:=by
 unfold S7 at h
 split at h
 ·rename_i d' e
  cases h
  obtain⟨v,e1,t⟩:=r.sl i _ e
  exact⟨v,M6 e1,.th t⟩
 ·rename_i ds e
  cases h
  obtain⟨a,vs,e1,_,_,e2,t⟩:=r.sl i _ e
  exact⟨_,M6 e1,.ls e2 t⟩
 ·rename_i ds e
  cases h
  obtain⟨a,vs,e1,_,_,e2,t⟩:=r.sl i _ e
  exact⟨_,M6 e1,.ls e2 t⟩
 ·cases h
theorem Red.lst {col:Addr->Nat} {H:Hp} {v:V} {ds:List PyData} (h:Red col H v (.list ds)):∃a vs,v=.ref a/\H a=some (.lst vs)/\A9 (Z col) H vs ds:=by
 cases h with
 | th t=>cases t with
  | lst _ e t=>exact⟨_,_,rfl,e,t⟩
 | ls e t=>exact⟨_,_,rfl,e,t⟩
theorem Red.tup {col:Addr->Nat} {H:Hp} {v:V} {ds:List PyData} (h:Red col H v (.tuple ds)):∃a vs,v=.ref a/\H a=some (.tup vs)/\A9 (Z col) H vs ds:=by
 cases h with
 | th t=>cases t with
  | tup _ e t=>exact⟨_,_,rfl,e,t⟩
abbrev G2:=PyData->PyData->(PyData->Prop)->Prop
def T1 (C:DC) (r:R2) (g:G2):Prop:=
 ∀{ρ:List Sl} {σ:St} {P:List Pe} {H:Hp} {v w:V} {a b:PyData} {Qd:PyData->Prop} {Q:VK},Rel C ρ σ (.v w b::.v v a::P) H->g a b Qd->(∀u d H',Rel C ρ σ (.v u d::P) H'->Qd d->Q u H')->r v w H Q
def dOp (g:G2) (ta tb:DE)  (ρ:List Sl) (Q:PyData->List Sl->Prop):Prop:=ta ρ λa ρ1=>tb ρ1 λb ρ2=>g a b λd=>Q d ρ2
theorem B12 {r:R2} {g:G2} {ta tb:DE} (hg:T1 C r g) {σ:St} {H:Hp} {Q:VK} (h:eOf C (dOp g ta tb) σ H Q):tOp r (eOf C ta) (eOf C tb) σ H Q:=by
 obtain⟨ρ,P,Qd,R,ht,k⟩:=h
 exact⟨ρ,P,_,R,ht,λv a ρ1 H1 R1 h1=>⟨ρ1,_,_,R1,h1,λw b ρ2 H2 R2 h2=>hg R2 h2 λu d H' R' q=>k u d ρ2 H' R' q⟩⟩
variable {a b:Expr} {ta tb:DE} {pos:Pos}
theorem K7 {op:Operator} {r:R2} {g:G2} (ho:OpR X (binaryOp op) r) (hg:T1 C r g) (ha:PE X a (eOf C ta)) (hb:PE X b (eOf C tb)):PE X (.BinOp a op b pos) (eOf C (dOp g ta tb)):=PE.wk (J5 ho ha hb) λ_ _ _ h=>B12 hg h
theorem m8 {op:CmpOp} {r:R2} {g:G2} (ho:OpR X (compareOp op) r) (hg:T1 C r g) (ha:PE X a (eOf C ta)) (hb:PE X b (eOf C tb)) (hm:behindInMarks op b=false):PE X (.Compare a [op] [b] pos) (eOf C (dOp g ta tb)):=PE.wk (A8q ho ha hb hm) λ_ _ _ h=>B12 hg h
def dT (t:DE)  (ρ:List Sl) (Q:Bool->List Sl->Prop):Prop:=t ρ λd ρ'=>match d with
 | .bool b=>Q b ρ'
 | _=>False
theorem B13 {t:DE} {σ:St} {H:Hp} {Q:Bool->Hp->Prop} (h:cOf C (dT t) σ H Q):eOf C t σ H λx H'=>∃k,x=.bl k/\Q k H':=by
 obtain⟨ρ,P,Qd,R,ht,k⟩:=h
 refine⟨ρ,P,_,R,ht,λv d ρ' H' R' q=>?_⟩
 split at q
 ·obtain⟨col,r⟩:=R'
  have t:=r.pd _ D4
  cases (show ThV (Z col) H' v (.bool _) from t)
  exact⟨_,rfl,k _ _ _ (Rel.pop ⟨col,r⟩) q⟩
 ·exact q.elim
theorem A2u {e:Expr} {t:DE} (h:PE X e (eOf C t)) (he:autoParam (∀whole,isTrue e X.env whole=(do let v <-whole;standAt e.pos;holding [v] (truthy v))) A2P._auto_1):PT X e (cOf C (dT t)):=PT.wk (W3 h he) λ_ _ _ h=>B13 h
theorem O3 {op:CmpOp} {r:R2} {g:G2} (ho:OpR X (compareOp op) r) (hg:T1 C r g) (ha:PE X a (eOf C ta)) (hb:PE X b (eOf C tb)) (hm:behindInMarks op b=false):PT X (.Compare a [op] [b] pos) (cOf C (dT (dOp g ta tb))):=
 PT.wk (J2 ho ha hb hm) fun σ H Q h=>B12 hg (B13 h)
def A2v (t:DT)  (ρ:List Sl) (Q:Bool->List Sl->Prop):Prop:=t ρ λb ρ'=>Q (!b) ρ'
theorem A62 {t:DT} (h:PT X a (cOf C t)):PT X (.UnaryOp .Not a pos) (cOf C (A2v t)):=PT.wk (l3 h) λ_ _ _ zz5=>el3 zz5 fun ρ P _ R ht k=>⟨ρ,P,_,R,ht,λb ρ' H' R' q=>k _ _ _ R' q⟩
def A2w (t u:DT)  (ρ:List Sl) (Q:Bool->List Sl->Prop):Prop:=t ρ λb ρ'=>if b=true then u ρ' Q else Q false ρ'
def dOr (t u:DT)  (ρ:List Sl) (Q:Bool->List Sl->Prop):Prop:=t ρ λb ρ'=>if b=true then Q true ρ' else u ρ' Q
variable {t u:DT} {P3:List Expr}
theorem C55 (h:PT X a (cOf C t)):PW X (.BoolOp .And [a] pos) (cOf C t):=A6n h
theorem A43 (h:PT X a (cOf C t)):PW X (.BoolOp .Or [a] pos) (cOf C t):=A6o h
theorem C56 (ha:PT X a (cOf C t)) (hb:PW X (.BoolOp .And (b::P3) pos) (cOf C u)):PW X (.BoolOp .And (a::b::P3) pos) (cOf C (A2w t u)):=PW.wk (A6p ha hb) λ_ _ _ zz6=>el3 zz6 fun ρ P Qd R ht k=>
 ⟨ρ,P,_,R,ht,λb ρ' H' R' q=>by
  cases b with
  | true=>exact⟨ρ',P,Qd,R',by simpa using q,k⟩
  | false=>exact k _ _ _ R' (by simpa using q)⟩
theorem A2x (ha:PT X a (cOf C t)) (hb:PW X (.BoolOp .Or (b::P3) pos) (cOf C u)):PW X (.BoolOp .Or (a::b::P3) pos) (cOf C (dOr t u)):=PW.wk (A6q ha hb) λ_ _ _ zz7=>el3 zz7 fun ρ P Qd R ht k=>
 ⟨ρ,P,_,R,ht,λb ρ' H' R' q=>by
  cases b with
  | true=>exact k _ _ _ R' (by simpa using q)
  | false=>exact⟨ρ',P,Qd,R',by simpa using q,k⟩⟩
def dBV (t:DE) (f:Bool->List Sl->Prop)  (ρ:List Sl):Prop:=t ρ λd ρ'=>match d with
 | .bool b=>f b ρ'
 | _=>False
def A2y (ta tb:DE)  (ρ:List Sl) (Q:PyData->List Sl->Prop):Prop:=dBV ta (λb ρ'=>if b=true then tb ρ' Q else Q (.bool false) ρ') ρ
def A2z (ta tb:DE)  (ρ:List Sl) (Q:PyData->List Sl->Prop):Prop:=dBV ta (λb ρ'=>if b=true then Q (.bool true) ρ' else tb ρ' Q) ρ
def A20 (ta:DE)  (ρ:List Sl) (Q:PyData->List Sl->Prop):Prop:=dBV ta (λb ρ'=>Q (.bool (!b)) ρ') ρ
theorem B14 {f:Bool->List Sl->Prop} {ρ:List Sl} {σ:St} {P:List Pe} {H:Hp} {Q:VK} (R:Rel C ρ σ P H) (ht:dBV ta f ρ) (k:∀c ρ' H',Rel C ρ' σ P H'->f c ρ'->Q (.bl c) H'):eOf C ta σ H Q:=by
 refine⟨ρ,P,_,R,ht,λv d ρ' H' R' q=>?_⟩
 split at q
 ·obtain⟨col,r⟩:=R'
  have t:=r.pd _ D4
  cases (show ThV (Z col) H' v (.bool _) from t)
  exact k _ _ _ (Rel.pop ⟨col,r⟩) q
 ·exact q.elim
theorem d9 {op} (h:PE X a (eOf C ta)):PE X (.BoolOp op [a] pos) (eOf C ta):=C28 h
theorem m9 (ha:PE X a (eOf C ta)) (hb:PE X (.BoolOp .And (b::P3) pos) (eOf C tb)):PE X (.BoolOp .And (a::b::P3) pos) (eOf C (A2y ta tb)):=PE.wk (C29 ha hb) λ_ _ _ zz8=>el3 zz8 λ_ P Qd R ht k=>
 B14 R ht λc ρ' H' R' q=>⟨c,rfl,by
  cases c with
  | true=>exact F5 ⟨ρ',P,Qd,R',by simpa using q,k⟩
  | false=>
   obtain⟨col,r⟩:=R'
   exact D0 (k _ _ _ _ ⟨col,r.push (.bl false)⟩ (by simpa using q))⟩
theorem B15 (ha:PE X a (eOf C ta)) (hb:PE X (.BoolOp .Or (b::P3) pos) (eOf C tb)):PE X (.BoolOp .Or (a::b::P3) pos) (eOf C (A2z ta tb)):=PE.wk (C3a ha hb) λ_ _ _ zz9=>el3 zz9 λ_ P Qd R ht k=>
 B14 R ht λc ρ' H' R' q=>⟨c,rfl,by
  cases c with
  | true=>
   obtain⟨col,r⟩:=R'
   exact F5 (k _ _ _ _ ⟨col,r.push (.bl true)⟩ (by simpa using q))
  | false=>exact D0 ⟨ρ',P,Qd,R',by simpa using q,k⟩⟩
theorem C57 (ha:PE X a (eOf C ta)):PE X (.UnaryOp .Not a pos) (eOf C (A20 ta)):=PE.wk (B1b ha) λ_ _ _ zz10=>el3 zz10 λ_ _ _ R ht k=>
 B14 R ht λc ρ' H' zz11 q=>zz11.elim λcol r=>⟨c,rfl,k _ _ _ _ ⟨col,r.push (.bl _)⟩ q⟩
def A21 (ta:DE)  (ρ:List Sl) (Q:PyData->List Sl->Prop):Prop:=ta ρ λd ρ'=>match d with
 | .int i=>Q (.int (-i)) ρ'
 | _=>False
theorem A0b (ha:PE X a (eOf C ta)):PE X (.UnaryOp .USub a pos) (eOf C (A21 ta)):=PE.wk (B6k B6m ha) λ_ _ _ zz12=>el3 zz12 fun ρ P _ R ht k=>⟨ρ,P,_,R,ht,λv d ρ' H' R' q=>by
 split at q
 ·obtain⟨col,r⟩:=R'
  have t:=r.pd _ D4
  cases (show ThV (Z col) H' v (.int _) from t)
  exact⟨_,rfl,k _ _ _ _ ⟨col,(r.sub λ_ h=>C8 _ h).push (.int _)⟩ q⟩
 ·exact q.elim⟩
def dIf (c:DT) (ta tb:DE)  (ρ:List Sl) (Q:PyData->List Sl->Prop):Prop:=c ρ λb ρ'=>if b=true then ta ρ' Q else tb ρ' Q
theorem B71 {c:Expr} (hc:PT X c (cOf C t)) (ha:PE X a (eOf C ta)) (hb:PE X b (eOf C tb)):PE X (.IfExp c a b pos) (eOf C (dIf t ta tb)):=PE.wk (B1c hc ha hb) λ_ _ _ zz13=>el3 zz13 fun ρ P Qd R ht k=>
 ⟨ρ,P,_,R,ht,λb ρ' H' R' q=>by
  cases b with
  | true=>exact F5 ⟨ρ',P,Qd,R',by simpa using q,k⟩
  | false=>exact D0 ⟨ρ',P,Qd,R',by simpa using q,k⟩⟩
def A02 (g g':G2) (ta tb tc:DE)  (ρ:List Sl) (Q:PyData->List Sl->Prop):Prop:=ta ρ λa ρ1=>tb ρ1 λb ρ2=>g a b λz=>match z with
 | .bool k=>if k=true then tc ρ2 λc ρ3=>g' b c λd=>Q d ρ3 else Q (.bool false) ρ2
 | _=>False
end
def gI (c:Int->Int->Prop) (f:Int->Int->PyData)  (a b:PyData) (Q:PyData->Prop):Prop:=match a,b with
 | .int i,.int j=>c i j/\Q (f i j)
 | _,_=>False
def gI0 (f:Int->Int->PyData)  (a b:PyData) (Q:PyData->Prop):Prop:=match a,b with
 | .int i,.int j=>Q (f i j)
 | _,_=>False
section
variable {C:DC} {X:Cx}
theorem th2 {ρ:List Sl} {σ:St} {P:List Pe} {H:Hp} {v w:V} {a b:PyData} (r:Rel C ρ σ (.v w b::.v v a::P) H):∃col,F3 C col ρ σ P H/\ThV (Z col) H v a/\ThV (Z col) H w b:=by
 obtain⟨col,r⟩:=r
 exact⟨col,r.sub λ_ h=>C8 _ (C8 _ h),r.pd _ (C8 _ D4),r.pd _ D4⟩
theorem A44 {f:Int->Int->V} {g:Int->Int->PyData} (h:∀i j F H,ThV F H (f i j) (g i j)):T1 C (rI0 f) (gI0 g):=by
 intro ρ σ P H v w a b Qd Q R hg k
 unfold gI0 at hg
 split at hg
 ·obtain⟨col,r,t1,t2⟩:=th2 R
  cases t1;cases t2
  exact⟨_,_,rfl,rfl,k _ _ _ ⟨col,r.push (h _ _ _ _)⟩ hg⟩
 ·exact hg.elim
theorem B16 {c:Int->Int->Prop} {f:Int->Int->V} {g:Int->Int->PyData} (h:∀i j F H,ThV F H (f i j) (g i j)):T1 C (rI c f) (gI c g):=by
 intro ρ σ P H v w a b Qd Q R hg k
 unfold gI at hg
 split at hg
 ·obtain⟨col,r,t1,t2⟩:=th2 R
  cases t1;cases t2
  exact⟨_,_,rfl,rfl,hg.1,k _ _ _ ⟨col,r.push (h _ _ _ _)⟩ hg.2⟩
 ·exact hg.elim
def A22:G2:=gI0 λi j=>.int (i + j)
def A23:G2:=gI0 λi j=>.int (i - j)
def A24:G2:=gI A6x λi j=>.int (i * j)
def A25:G2:=gI B1y λi j=>.int (i / j)
def A26:G2:=gI B1i λi j=>.int (i ^ j.toNat)
def gLt:G2:=gI0 λi j=>.bool (decide (i < j))
def gLe:G2:=gI0 λi j=>.bool (decide (i<=j))
def gGt:G2:=gI0 λi j=>.bool (decide (j < i))
def gGe:G2:=gI0 λi j=>.bool (decide (j<=i))
theorem e7:T1 C (rI0 (λi j=>.int (i + j))) A22:=A44 (f:=λi j=>.int (i + j)) λ_ _ _ _=>.int _
theorem A88:T1 C (rI0 (λi j=>.int (i - j))) A23:=A44 (f:=λi j=>.int (i - j)) λ_ _ _ _=>.int _
theorem A89:T1 C (rI A6x (λi j=>.int (i * j))) A24:=B16 (f:=λi j=>.int (i * j)) λ_ _ _ _=>.int _
theorem B72:T1 C (rI B1y (λi j=>.int (i / j))) A25:=B16 (f:=λi j=>.int (i / j)) λ_ _ _ _=>.int _
theorem A0c:T1 C (rI B1i (λi j=>.int (i ^ j.toNat))) A26:=B16 (f:=λi j=>.int (i ^ j.toNat)) λ_ _ _ _=>.int _
theorem A45:T1 C (rI0 (λi j=>.bl (decide (i < j)))) gLt:=A44 (f:=λi j=>.bl (decide (i < j))) λ_ _ _ _=>.bl _
theorem C58:T1 C (rI0 (λi j=>.bl (decide (i<=j)))) gLe:=A44 (f:=λi j=>.bl (decide (i<=j))) λ_ _ _ _=>.bl _
theorem A63:T1 C (rI0 (λi j=>.bl (decide (j < i)))) gGt:=A44 (f:=λi j=>.bl (decide (j < i))) λ_ _ _ _=>.bl _
theorem C59:T1 C (rI0 (λi j=>.bl (decide (j<=i)))) gGe:=A44 (f:=λi j=>.bl (decide (j<=i))) λ_ _ _ _=>.bl _
def gEq (neg:Bool)  (a b:PyData) (Q:PyData->Prop):Prop:=a.canLay0=true/\b.canLay0=true/\min a.depth b.depth<=64/\Q (.bool (if neg then !PyData.eqv a b else PyData.eqv a b))
theorem A1p {K:B0} {neg:Bool}:T1 C (A80 K neg) (gEq neg):=by
 intro ρ σ P H v w a b Qd Q R hg k
 obtain⟨col,r,t1,t2⟩:=th2 R
 exact⟨a,b,t1.dat hg.1,t2.dat hg.2.1,hg.1,hg.2.1,hg.2.2.1,k _ _ _ ⟨col,r.push (.bl _)⟩ hg.2.2.2⟩
def isN:PyData->Bool
 | .none=>true
 | _=>false
def A0d (neg:Bool)  (a b:PyData) (Q:PyData->Prop):Prop:=match b with
 | .none=>Q (.bool (if neg then !isN a else isN a))
 | _=>False
theorem A64 {F:Addr->Prop} {H:Hp} {v:V} {a:PyData} (t:ThV F H v a):decide (v=V.non)=isN a:=by
 cases t <;> simp [isN]
theorem A0e:T1 C (λx y H Q=>y=.non/\Q (.bl (decide (x=.non))) H) (A0d false):=by
 intro ρ σ P H v w a b Qd Q R hg k
 unfold A0d at hg
 split at hg
 ·obtain⟨col,r,t1,t2⟩:=th2 R
  cases t2
  refine⟨rfl,k _ _ _ ⟨col,r.push (d:=.bool (isN a)) ?_⟩ hg⟩
  rw[A64 t1];exact .bl _
 ·exact hg.elim
theorem A65:T1 C (λx y H Q=>y=.non/\Q (.bl (!decide (x=.non))) H) (A0d true):=by
 intro ρ σ P H v w a b Qd Q R hg k
 unfold A0d at hg
 split at hg
 ·obtain⟨col,r,t1,t2⟩:=th2 R
  cases t2
  refine⟨rfl,k _ _ _ ⟨col,r.push (d:=.bool (!isN a)) ?_⟩ hg⟩
  rw[A64 t1];exact .bl _
 ·exact hg.elim
end
section
variable {X:Cx} {C:DC} {a b c:Expr} {ta tb tc:DE} {pos:Pos}
theorem B73 {f f':Int->Int->Bool} {σ:St} {H:Hp} {Q:VK} (h:eOf C (A02 (gI0 λi j=>.bool (f i j)) (gI0 λi j=>.bool (f' i j)) ta tb tc) σ H Q) :
  B1k (rI0 λi j=>.bl (f i j)) (rI0 λi j=>.bl (f' i j)) (eOf C ta) (eOf C tb) (eOf C tc) σ H Q:=by
 obtain⟨ρ,P,Qd,R,ht,k⟩:=h
 exact⟨ρ,P,_,R,ht,λv x ρ1 H1 R1 h1=>⟨ρ1,_,_,R1,h1,λw y ρ2 H2 R2 h2=>by
  obtain⟨col,r,t1,t2⟩:=th2 R2
  cases x with
  | int i=>
   cases y with
   | int j=>
    cases t1;cases t2
    refine⟨i,j,rfl,rfl,f i j,rfl,?_⟩
    have h2':if f i j=true then tc ρ2 (λc ρ3=>gI0 (λi j=>.bool (f' i j)) (.int j) c λd=>Qd d ρ3) else Qd (.bool false) ρ2:=h2
    cases e:f i j with
    | true=>
     rw[e] at h2'
     refine F5 ⟨ρ2,P,_,⟨col,r⟩,by simpa using h2',λu z ρ3 H3 R3 h3=>?_⟩
     obtain⟨col3,r3⟩:=R3
     have t3:=r3.pd _ D4
     cases z with
     | int l=>
      cases (show ThV (Z col3) H3 u (.int l) from t3)
      exact⟨j,l,rfl,rfl,k _ _ _ _ ⟨col3,(r3.sub λ_ h=>C8 _ h).push (.bl _)⟩ h3⟩
     | _=>exact h3.elim
    | false=>
     rw[e] at h2'
     exact D0 (k _ _ _ _ ⟨col,r.push (.bl false)⟩ (by simpa using h2'))
   | _=>exact h2.elim
  | _=>exact h2.elim⟩⟩
theorem A66 {op op':CmpOp} {f f':Int->Int->Bool} (ho:OpR X (compareOp op) (rI0 λi j=>.bl (f i j))) (ho':OpR X (compareOp op') (rI0 λi j=>.bl (f' i j))) (ha:PE X a (eOf C ta)) (hb:PE X b (eOf C tb)) (hc:PE X c (eOf C tc))
  (hm:autoParam (lastMarks [op,op'] [b,c]=false) A4P._auto_1):PE X (.Compare a [op,op'] [b,c] pos) (eOf C (A02 (gI0 λi j=>.bool (f i j)) (gI0 λi j=>.bool (f' i j)) ta tb tc)):=PE.wk (C3t ho ho' ha hb hc hm) λ_ _ _ h=>B73 h
theorem C6a {op op':CmpOp} {f f':Int->Int->Bool} (ho:OpR X (compareOp op) (rI0 λi j=>.bl (f i j))) (ho':OpR X (compareOp op') (rI0 λi j=>.bl (f' i j))) (ha:PE X a (eOf C ta)) (hb:PE X b (eOf C tb)) (hc:PE X c (eOf C tc))
  (hm:autoParam (lastMarks [op,op'] [b,c]=false) A4P._auto_1):PT X (.Compare a [op,op'] [b,c] pos) (cOf C (dT (A02 (gI0 λi j=>.bool (f i j)) (gI0 λi j=>.bool (f' i j)) ta tb tc))):=PT.wk (C3u ho ho' ha hb hc hm) λ_ _ _ h=>B73 (B13 h)
end
section
variable {X:Cx} {C:DC} {e a b:Expr} {es:List Expr} {t ta tb:DE} {u:DF} {pos:Pos}
theorem B74 {P P':List Pe} {x:Pe} (h:∀p∈P,p∈P'):∀p∈x::P,p∈x::P':=λp hp=>(J1.mp hp).elim (λe=>e▸D4) λhp=>C8 _ (h p hp)
def A27  (ρ:List Sl) (Q:List PyData->List Sl->Prop):Prop:=Q [] ρ
def A28 (t:DE) (u:DF)  (ρ:List Sl) (Q:List PyData->List Sl->Prop):Prop:=t ρ λd ρ1=>u ρ1 λds ρ2=>Q (d::ds) ρ2
theorem G0:PA X [] (vOf C A27):=PA.wk A4 λ_ _ _ zz1=>el3 zz1 λ_ _ _ R ht k=>k [] [] _ _ _ R (λ_ h=>h) .nil ht
theorem D8 (ha:PE X e (eOf C t)) (hr:PA X es (vOf C u)) (hs:autoParam (starEach (e::es) X.env=(false,eval e X.env)::starEach es X.env) RF._auto_1):PA X (e::es) (vOf C (A28 t u)):=PA.wk (A2 ha hr hs) λ_ _ _ zz2=>el3 zz2 fun ρ P _ R ht k=>
 ⟨ρ,P,_,R,ht,λ_ _ ρ1 _ R1 h1=>⟨ρ1,_,_,R1,h1,λ_ _ _ _ _ R2 s2 p2 h2=>k _ _ _ _ _ R2 (λp hp=>s2 p (C8 _ hp)) (.cons (s2 _ D4) p2) h2⟩⟩
def A29 (t:DF)  (ρ:List Sl) (Q:PyData->List Sl->Prop):Prop:=t ρ λds ρ'=>ds.length<=1000/\Q (.tuple ds) ρ'
theorem X0 {x1} (h:PA X es (vOf C u)):PE X (.Tuple es x1 pos) (eOf C (A29 u)):=PE.wk (Q0 h) λ_ _ _ zz3=>el3 zz3 fun ρ P _ R ht k=>⟨ρ,P,_,R,ht,λvs ds ρ' P' H' zz4 s p q=>zz4.elim λcol r=>
 ⟨by rw[(p.th r).len];exact A58 (A8x q.1),λb hb=>k _ _ _ _ ⟨col,(r.tup (p.th r) hb).sub (B74 s)⟩ q.2⟩⟩
def A3a (t:DF)  (ρ:List Sl) (Q:List PyData->List Sl->Prop):Prop:=t ρ λds ρ'=>ds.length<=1000/\Q ds ρ'
theorem Z5 (h:PA X es (vOf C u)):PE X (.List es pos) (fOf C (A3a u)):=PE.wk (V2 h) λ_ _ _ zz5=>el3 zz5 fun ρ P _ R ht k=>⟨ρ,P,_,R,ht,λvs ds ρ' P' H' zz6 s p q=>zz6.elim λcol r=>
 ⟨by rw[(p.th r).len];exact A58 (A8x q.1),λb hb=>k _ _ _ _ _ ⟨col,r.sub s,p.th r⟩ hb q.2⟩⟩
def dF (t:DF)  (ρ:List Sl) (Q:PyData->List Sl->Prop):Prop:=t ρ λds ρ'=>Q (.list ds) ρ'
theorem L3 (h:PE X e (fOf C u)):PE X e (eOf C (dF u)):=PE.wk h λ_ _ _ zz7=>el3 zz7 fun ρ P _ R ht k=>⟨ρ,P,_,R,ht,λ_ _ _ _ _ zz8 hp q=>el2 zz8 λcol r t=>k _ _ _ _ ⟨col,r.lst t hp⟩ q⟩
def ixD (a b:PyData):Option PyData:=match a,b with
 | .list xs,.int i=>atI xs i
 | .tuple xs,.int i=>atI xs i
 | _,_=>none
theorem A9a {F:Addr->Prop} {H:Hp} {vs:List V} {ds:List PyData} {i:Int} {d:PyData} (t:A9 F H vs ds) (h:atI ds i=some d):∃v,atI vs i=some v/\ThV F H v d:=by
 unfold atI at h ⊢
 rw[t.len]
 cases q:ixN ds.length i with
 | none=>rw[q] at h;cases h
 | some j=>
  rw[q] at h
  exact t.at h
theorem B75 {K:B0} {col:Addr->Nat} {H:Hp} {v w:V} {a b d:PyData} (t1:Red col H v a) (t2:ThV (Z col) H w b) (h:ixD a b=some d):∃u,ThV (Z col) H u d/\∀Q:VK,Q u H->rIx K v w H Q:=by
 unfold ixD at h
 split at h
 ·cases t2
  obtain⟨p,vs,rfl,e,t⟩:=t1.lst
  obtain⟨u,hu,tu⟩:=A9a t h
  exact⟨u,tu,λQ q=>.inl ⟨p,vs,_,u,rfl,rfl,SqL.of e,hu,q⟩⟩
 ·cases t2
  obtain⟨p,vs,rfl,e,t⟩:=t1.tup
  obtain⟨u,hu,tu⟩:=A9a t h
  exact⟨u,tu,λQ q=>.inr (.inl ⟨p,vs,_,u,rfl,rfl,SqT.of e,hu,q⟩)⟩
 ·cases h
def dIx (ta tb:DE)  (ρ:List Sl) (Q:PyData->List Sl->Prop):Prop:=ta ρ λa ρ1=>tb ρ1 λb ρ2=>bnd (ixD a b) λd=>Q d ρ2
theorem Q6 (ha:PE X a (eOf C ta)) (hb:PE X b (eOf C tb)) (hs:B1q b):PE X (.Subscript a b pos) (eOf C (dIx ta tb)):=PE.wk (C6 X6 ha hb hs) λ_ _ _ zz9=>el3 zz9 fun ρ P _ R ht k=>⟨ρ,P,_,R,ht,λv _ ρ1 H1 R1 h1=>⟨ρ1,_,_,R1,h1,λw _ ρ2 H2 R2 h2=>by
 obtain⟨d,hd,q⟩:=M3 h2
 obtain⟨col,r,t1,t2⟩:=th2 R2
 obtain⟨u,tu,f⟩:=B75 (K:=X.K) (.th t1) t2 hd
 exact f _ (k _ _ _ _ ⟨col,r.push tu⟩ q)⟩⟩
def A3b (i:Nat) (tb:DE)  (ρ:List Sl) (Q:PyData->List Sl->Prop):Prop:=bnd (S7 ρ i) λ_=>tb ρ λb ρ2=>bnd (S7 ρ2 i) λa=>bnd (ixD a b) λd=>Q d ρ2
theorem C7 {i:Nat} (ha:PE X a (W1 i)) (hb:PE X b (eOf C tb)) (hs:B1q b):PE X (.Subscript a b pos) (eOf C (A3b i tb)):=PE.wk (C6 X6 ha hb hs) fun σ H Q zz10=>el3 zz10 fun ρ P Qd zz11 ht k=>zz11.elim λcol0 r0=>by
 obtain⟨_,h0,ht⟩:=M3 ht
 obtain⟨v,ev,_⟩:=r0.slot h0
 refine⟨v,ev,ρ,P,_,⟨col0,r0⟩,ht,λw b ρ2 H2 R2 h2=>?_⟩
 obtain⟨a,ha,h2⟩:=M3 h2
 obtain⟨d,hd,q⟩:=M3 h2
 obtain⟨col,r⟩:=R2
 obtain⟨v',ev',t1⟩:=r.slot ha
 rw[ev] at ev'
 cases ev'
 obtain⟨u,tu,f⟩:=B75 (K:=X.K) t1 (r.pd _ D4) hd
 exact f _ (k _ _ _ _ ⟨col,(r.sub λ_ h=>C8 _ h).push tu⟩ q)
def A0f (C:DC) (r:List V->Hp->VK->Prop) (g:List PyData->(PyData->Prop)->Prop):Prop:=
 ∀{ρ:List Sl} {σ:St} {P:List Pe} {col:Addr->Nat} {H:Hp} {vs:List V} {ds:List PyData} {Qd:PyData->Prop} {Q:VK},F3 C col ρ σ P H->A9 (Z col) H vs ds->g ds Qd->(∀u d H',Rel C ρ σ (.v u d::P) H'->Qd d->Q u H')->r vs H Q
def dCb (g:List PyData->(PyData->Prop)->Prop) (u:DF)  (ρ:List Sl) (Q:PyData->List Sl->Prop):Prop:=u ρ λds ρ'=>g ds λd=>Q d ρ'
theorem Z6 {r:List V->Hp->VK->Prop} {g:List PyData->(PyData->Prop)->Prop} (hr:A0f C r g) (h:PE X e (tCB r (vOf C u))):PE X e (eOf C (dCb g u)):=PE.wk h λ_ _ _ zz12=>el3 zz12 fun ρ P _ R ht k=>⟨ρ,P,_,R,ht,λvs ds ρ' P' H' zz13 s p q=>zz13.elim λcol r=>
 hr (r.sub s) (p.th r) q λu d H2 R2 q2=>k _ _ _ _ R2 q2⟩
theorem A1q {F:Addr->Prop} {H:Hp} {vs:List V} {d:PyData} (t:A9 F H vs [d]):∃v,vs=[v]/\ThV F H v d:=by
 cases t with
 | cons x y=>cases y;exact⟨_,rfl,x⟩
theorem Q1 {F:Addr->Prop} {H:Hp} {vs:List V} {d d':PyData} (t:A9 F H vs [d,d']):∃v w,vs=[v,w]/\ThV F H v d/\ThV F H w d':=by
 cases t with
 | cons x y=>
  obtain⟨w,rfl,z⟩:=A1q y
  exact⟨_,w,rfl,x,z⟩
def lenD:PyData->Option Nat
 | .list xs=>some xs.length
 | .tuple xs=>some xs.length
 | _=>none
def A1r  (ds:List PyData) (Q:PyData->Prop):Prop:=match ds with
 | [d]=>bnd (lenD d) λn=>Q (.int n)
 | _=>False
abbrev B17 (K:B0):List V->Hp->VK->Prop:=λxs H Q=>∃p ys,xs=[.ref p]/\(SqL K H p ys\/SqT K H p ys)/\Q (.int ys.length) H
theorem B76 {K:B0} {col:Addr->Nat} {H:Hp} {v:V} {a:PyData} {n:Nat} {Q:VK} (t:Red col H v a) (h:lenD a=some n) (q:Q (.int n) H):B17 K [v] H Q:=by
 cases a with
 | list ds=>
  cases h
  obtain⟨p,vs,rfl,e,t⟩:=t.lst
  exact⟨p,vs,rfl,.inl (SqL.of e),by rw[t.len];exact q⟩
 | tuple ds=>
  cases h
  obtain⟨p,vs,rfl,e,t⟩:=t.tup
  exact⟨p,vs,rfl,.inr (SqT.of e),by rw[t.len];exact q⟩
 | _=>cases h
theorem B77 {K:B0}:A0f C (B17 K) A1r:=by
 intro ρ σ P col H vs ds Qd Q r t g k
 unfold A1r at g
 split at g
 ·obtain⟨v,rfl,t1⟩:=A1q t
  obtain⟨n,hn,q⟩:=M3 g
  exact B76 (.th t1) hn (k _ _ _ ⟨col,r.push (.int _)⟩ q)
 ·exact g.elim
def A3c (i:Nat)  (ρ:List Sl) (Q:PyData->List Sl->Prop):Prop:=bnd (S7 ρ i) λa=>bnd (lenD a) λn=>Q (.int n) ρ
theorem A46 {i:Nat} {K:B0} (h:PE X e (tCB (B17 K) (W6 (W1 i) V1))):PE X e (eOf C (A3c i)):=PE.wk h λ_ _ _ zz14=>el3 zz14 fun ρ P _ zz15 ht k=>zz15.elim λcol r=>by
 obtain⟨a,ha,ht⟩:=M3 ht
 obtain⟨n,hn,q⟩:=M3 ht
 obtain⟨v,ev,t⟩:=r.slot ha
 exact⟨v,ev,B76 t hn (k _ _ _ _ ⟨col,r.push (.int _)⟩ q)⟩
def gI2 (f:Int->Int->Int)  (ds:List PyData) (Q:PyData->Prop):Prop:=match ds with
 | [.int i,.int j]=>Q (.int (f i j))
 | _=>False
theorem B78 {f:Int->Int->Int}:A0f C (λxs H Q=>∃i j,xs=[.int i,.int j]/\Q (.int (f i j)) H) (gI2 f):=by
 intro ρ σ P col H vs ds Qd Q r t g k
 unfold gI2 at g
 split at g
 ·obtain⟨v,w,rfl,t1,t2⟩:=Q1 t
  cases t1;cases t2
  exact⟨_,_,rfl,k _ _ _ ⟨col,r.push (.int _)⟩ g⟩
 ·exact g.elim
def A3d:=gI2 λi j=>if j < i then j else i
def A3e:=gI2 λi j=>if j > i then j else i
theorem A9b:A0f C (λxs H Q=>∃i j,xs=[.int i,.int j]/\Q (.int (if j < i then j else i)) H) A3d:=B78 (f:=λi j=>if j < i then j else i)
theorem A9c:A0f C (λxs H Q=>∃i j,xs=[.int i,.int j]/\Q (.int (if j > i then j else i)) H) A3e:=B78 (f:=λi j=>if j > i then j else i)
def A1s  (ds:List PyData) (Q:PyData->Prop):Prop:=match ds with
 | [.int i]=>Q (.int (if i < 0 then -i else i))
 | _=>False
theorem C6b:A0f C (λxs H Q=>∃i,xs=[.int i]/\Q (.int (if i < 0 then -i else i)) H) A1s:=by
 intro ρ σ P col H vs ds Qd Q r t g k
 unfold A1s at g
 split at g
 ·obtain⟨v,rfl,t1⟩:=A1q t
  cases t1
  exact⟨_,rfl,k _ _ _ ⟨col,r.push (.int _)⟩ g⟩
 ·exact g.elim
def A1t  (ds:List PyData) (Q:PyData->Prop):Prop:=match ds with
 | [.int i]=>Q (.int i)
 | [.bool b]=>Q (.int (if b then 1 else 0))
 | _=>False
theorem C6c:A0f C (λxs H Q=>(∃i,xs=[.int i]/\Q (.int i) H)\/∃k,xs=[.bl k]/\Q (.int (if k then 1 else 0)) H) A1t:=by
 intro ρ σ P col H vs ds Qd Q r t g k
 unfold A1t at g
 split at g
 ·obtain⟨v,rfl,t1⟩:=A1q t
  cases t1
  exact .inl ⟨_,rfl,k _ _ _ ⟨col,r.push (.int _)⟩ g⟩
 ·obtain⟨v,rfl,t1⟩:=A1q t
  cases t1
  exact .inr ⟨_,rfl,k _ _ _ ⟨col,r.push (.int _)⟩ g⟩
 ·exact g.elim
def A3f:List PyData->Option (List Bool)
 | []=>some []
 | .bool b::r=>(A3f r).map (b::·)
 | _::_=>none
theorem C6d {F:Addr->Prop} {H:Hp} {ds:List PyData} {vs:List V} {bs:List Bool} (t:A9 F H vs ds) (h:A3f ds=some bs):vs=bs.map V.bl:=by
 induction ds generalizing vs bs with
 | nil=>cases t;cases h;rfl
 | cons d r ih=>
  cases t with
  | cons x y=>
   cases x with
   | bl b=>
    have h':(A3f r).map (b::·)=some bs:=h
    cases q:A3f r with
    | none=>rw[q] at h';cases h'
    | some cs=>
     rw[q] at h'
     cases h'
     rw[ih y q];rfl
   | _=>cases h
def gBs (f:List Bool->Bool)  (ds:List PyData) (Q:PyData->Prop):Prop:=match ds with
 | [.list xs]=>bnd (A3f xs) λbs=>Q (.bool (f bs))
 | _=>False
theorem C6e {K:B0} {f:List Bool->Bool}:A0f C (λxs H Q=>∃(p:Addr) (bs:List Bool),xs=[.ref p]/\SqL K H p (bs.map V.bl)/\Q (.bl (f bs)) H) (gBs f):=by
 intro ρ σ P col H vs ds Qd Q r t g k
 unfold gBs at g
 split at g
 ·obtain⟨bs,hb,q⟩:=M3 g
  obtain⟨v,rfl,t1⟩:=A1q t
  cases t1 with
  | lst _ e t2=>
   have z:=C6d t2 hb
   subst z
   exact⟨_,bs,rfl,SqL.of e,k _ _ _ ⟨col,r.push (.bl _)⟩ q⟩
 ·exact g.elim
def A3g:=gBs λbs=>bs.all id
theorem C6f {K:B0}:A0f C (λxs H Q=>∃(p:Addr) (bs:List Bool),xs=[.ref p]/\SqL K H p (bs.map V.bl)/\Q (.bl (bs.all id)) H) A3g:=C6e
abbrev B79 (K:B0):List V->Hp->VK->Prop:=λxs H Q=>∃p ys,xs=[.ref p]/\(SqL K H p ys\/SqT K H p ys)/\∀l,H l=none->Q (.ref l) (upd H l (.lst ys))
def A03:PyData->Option (List PyData)
 | .list xs=>some xs
 | .tuple xs=>some xs
 | _=>none
theorem B8a {col:Addr->Nat} {H:Hp} {v:V} {a:PyData} {ds:List PyData} (t:Red col H v a) (h:A03 a=some ds):∃p vs,v=.ref p/\(H p=some (.lst vs)\/H p=some (.tup vs))/\A9 (Z col) H vs ds:=by
 cases a with
 | list ds=>
  cases h
  obtain⟨p,vs,rfl,e,t⟩:=t.lst
  exact⟨p,vs,rfl,.inl e,t⟩
 | tuple ds=>
  cases h
  obtain⟨p,vs,rfl,e,t⟩:=t.tup
  exact⟨p,vs,rfl,.inr e,t⟩
 | _=>cases h
def A3h (i:Nat)  (ρ:List Sl) (Q:List PyData->List Sl->Prop):Prop:=bnd (S7 ρ i) λa=>bnd (A03 a) λds=>Q ds ρ
theorem B18 {i:Nat} {K:B0} (h:PE X e (tCB (B79 K) (W6 (W1 i) V1))):PE X e (fOf C (A3h i)):=PE.wk h λ_ _ _ zz16=>el3 zz16 fun ρ P _ zz17 ht k=>zz17.elim λcol r=>by
 obtain⟨a,ha,ht⟩:=M3 ht
 obtain⟨ds,hn,q⟩:=M3 ht
 obtain⟨v,ev,t⟩:=r.slot ha
 obtain⟨p,vs,rfl,e,t⟩:=B8a t hn
 exact⟨_,ev,p,vs,rfl,e.elim (λe=>.inl (SqL.of e)) (λe=>.inr (SqT.of e)),λl hl=>k _ _ _ _ _ ⟨col,r,t⟩ hl q⟩
def A3i (ta:DE)  (ρ:List Sl) (Q:List PyData->List Sl->Prop):Prop:=ta ρ λa ρ'=>bnd (A03 a) λds=>Q ds ρ'
theorem C6g {K:B0} (h:PE X e (tCB (B79 K) (W6 (eOf C ta) V1))):PE X e (fOf C (A3i ta)):=PE.wk h λ_ _ _ zz18=>el3 zz18 fun ρ P _ R ht k=>⟨ρ,P,_,R,ht,λv d ρ' H' zz19 q=>zz19.elim λcol r=>by
 obtain⟨ds,hn,q⟩:=M3 q
 obtain⟨p,vs,rfl,e,t⟩:=B8a (.th (r.pd _ D4)) hn
 exact⟨p,vs,rfl,e.elim (λe=>.inl (SqL.of e)) (λe=>.inr (SqT.of e)),λl hl=>k _ _ _ _ _ ⟨col,r.sub λ_ h=>C8 _ h,t⟩ hl q⟩⟩
abbrev DO:=List Sl->(Option Int->List Sl->Prop)->Prop
def oOf (C:DC) (t:DO):TO:=fun σ H Q=>∃ρ P Qd,Rel C ρ σ P H/\t ρ Qd/\∀o ρ' H',Rel C ρ' σ P H'->Qd o ρ'->Q o H'
def oN  (ρ:List Sl) (Q:Option Int->List Sl->Prop):Prop:=Q none ρ
def oS (t:DE)  (ρ:List Sl) (Q:Option Int->List Sl->Prop):Prop:=t ρ λd ρ'=>match d with
 | .int i=>Q (some i) ρ'
 | _=>False
theorem B19:PO X none (oOf C oN):=PO.wk B61 λ_ _ _ zz20=>el3 zz20 λ_ _ _ R ht k=>k _ _ _ R ht
theorem A67 (h:PE X e (eOf C t)):PO X (some e) (oOf C (oS t)):=PO.wk (B1o h) λ_ _ _ zz21=>el3 zz21 fun ρ P _ R ht k=>⟨ρ,P,_,R,ht,λv d ρ' H' R' q=>by
 split at q
 ·obtain⟨col,r⟩:=R'
  have t:=r.pd _ D4
  cases (show ThV (Z col) H' v (.int _) from t)
  exact⟨_,rfl,k _ _ _ (Rel.pop ⟨col,r⟩) q⟩
 ·exact q.elim⟩
def i9 (xs:List PyData) (lo hi:Option Int):List PyData:=(xs.drop (HT.sIx xs.length 0 lo)).take (HT.sIx xs.length xs.length hi - HT.sIx xs.length 0 lo)
theorem A9.drop {F:Addr->Prop} {H:Hp}:∀{vs:List V} {ds:List PyData} (n:Nat),A9 F H vs ds->A9 F H (vs.drop n) (ds.drop n)
 | _,_,0,h=>h
 | _,_,_ + 1,.nil=>.nil
 | _,_,n + 1,.cons _ t=>A9.drop n t
theorem A9.take {F:Addr->Prop} {H:Hp}:∀{vs:List V} {ds:List PyData} (n:Nat),A9 F H vs ds->A9 F H (vs.take n) (ds.take n)
 | _,_,0,_=>.nil
 | _,_,_ + 1,.nil=>.nil
 | _,_,n + 1,.cons x t=>.cons x (A9.take n t)
theorem B8b {F:Addr->Prop} {H:Hp} {vs:List V} {ds:List PyData} (t:A9 F H vs ds) (lo hi:Option Int):A9 F H (A2o vs lo hi) (i9 ds lo hi):=by
 unfold A2o i9
 rw[t.len]
 exact (t.drop _).take _
def Q7:PyData->Option (List PyData)
 | .list xs=>some xs
 | _=>none
def A3j (i:Nat) (tl th:DO)  (ρ:List Sl) (Q:List PyData->List Sl->Prop):Prop:=bnd (S7 ρ i) λ_=>tl ρ λlo ρ1=>th ρ1 λhi ρ2=>bnd (S7 ρ2 i) λa=>bnd (Q7 a) λxs=>Q (i9 xs lo hi) ρ2
theorem B8c {i:Nat} {lo hi:Option Expr} {p2:Pos} {tl th:DO} (ha:PE X a (W1 i)) (hl:PO X lo (oOf C tl)) (hh:PO X hi (oOf C th)):PE X (.Subscript a (.Slice lo hi none p2) pos) (fOf C (A3j i tl th)):=PE.wk (B1p B1r ha hl hh) fun σ H Q zz22=>el3 zz22 fun ρ P Qd zz23 ht k=>zz23.elim λcol0 r0=>by
 obtain⟨_,h0,ht⟩:=M3 ht
 obtain⟨v,ev,_⟩:=r0.slot h0
 refine⟨v,ev,ρ,P,_,⟨col0,r0⟩,ht,λlo ρ1 H1 R1 h1=>⟨ρ1,P,_,R1,h1,λhi ρ2 H2 R2 h2=>?_⟩⟩
 obtain⟨a,ha,h2⟩:=M3 h2
 obtain⟨xs,hx,q⟩:=M3 h2
 obtain⟨col,r⟩:=R2
 obtain⟨v',ev',t1⟩:=r.slot ha
 rw[ev] at ev'
 cases ev'
 cases a with
 | list ds=>
  cases hx
  obtain⟨p,vs,rfl,e,t⟩:=t1.lst
  exact⟨p,vs,rfl,SqL.of e,λb hb=>k _ _ _ _ _ ⟨col,r,B8b t lo hi⟩ hb q⟩
 | _=>cases hx
def dSl (ta:DE) (tl th:DO)  (ρ:List Sl) (Q:List PyData->List Sl->Prop):Prop:=ta ρ λa ρ0=>tl ρ0 λlo ρ1=>th ρ1 λhi ρ2=>bnd (Q7 a) λxs=>Q (i9 xs lo hi) ρ2
theorem B8d {lo hi:Option Expr} {p2:Pos} {tl th:DO} (ha:PE X a (eOf C ta)) (hl:PO X lo (oOf C tl)) (hh:PO X hi (oOf C th)):PE X (.Subscript a (.Slice lo hi none p2) pos) (fOf C (dSl ta tl th)):=PE.wk (B1p B1r ha hl hh) fun σ H Q zz24=>el3 zz24 fun ρ P Qd R ht k=>
 ⟨ρ,P,_,R,ht,λv a ρ0 H0 R0 h0=>⟨ρ0,_,_,R0,h0,λlo ρ1 H1 R1 h1=>⟨ρ1,_,_,R1,h1,λhi ρ2 H2 R2 h2=>by
  obtain⟨xs,hx,q⟩:=M3 h2
  obtain⟨col,r⟩:=R2
  cases a with
  | list ds=>
   cases hx
   obtain⟨p,vs,rfl,e,t⟩:=Red.lst (.th (r.pd _ D4))
   exact⟨p,vs,rfl,SqL.of e,λb hb=>k _ _ _ _ _ ⟨col,r.sub λ_ h=>C8 _ h,B8b t lo hi⟩ hb q⟩
  | _=>cases hx⟩⟩⟩
def A3k (ta tb:DE)  (ρ:List Sl) (Q:List PyData->List Sl->Prop):Prop:=ta ρ λa ρ1=>tb ρ1 λb ρ2=>bnd (Q7 a) λxs=>bnd (Q7 b) λys=>xs.length + ys.length<=100000/\Q (xs++ys) ρ2
theorem A68 (ha:PE X a (eOf C ta)) (hb:PE X b (eOf C tb)):PE X (.BinOp a .Add b pos) (fOf C (A3k ta tb)):=PE.wk (J5 B7d ha hb) fun σ H Q zz25=>el3 zz25 fun ρ P Qd R ht k=>
 ⟨ρ,P,_,R,ht,λv a ρ1 H1 R1 h1=>⟨ρ1,_,_,R1,h1,λw b ρ2 H2 R2 h2=>by
  obtain⟨xs,hx,h2⟩:=M3 h2
  obtain⟨ys,hy,h3,q⟩:=M3 h2
  obtain⟨col,r,t1,t2⟩:=th2 R2
  cases a with
  | list ds=>
   cases b with
   | list es=>
    cases hx;cases hy
    obtain⟨p,vs,rfl,e,t⟩:=Red.lst (.th t1)
    obtain⟨p',vs',rfl,e',t'⟩:=Red.lst (.th t2)
    exact⟨p,p',vs,vs',rfl,rfl,e,e',by rw[t.len,t'.len,sizeLine_eq];lia,λb hb=>k _ _ _ _ _ ⟨col,r,t.append t'⟩ hb q⟩
   | _=>cases hy
  | _=>cases hx⟩⟩
def A3l (xs:List PyData) (n:Nat):List PyData:=(E5 n xs).flatten
theorem B8e {F:Addr->Prop} {H:Hp} {vs:List V} {ds:List PyData} (t:A9 F H vs ds):∀n:Nat,A9 F H (E5 n vs).flatten (A3l ds n)
 | 0=>.nil
 | n + 1=>by
  unfold A3l
  rw[A0s,A0s,A4m,A4m]
  exact t.append (B8e t n)
def A3m (ta tb:DE)  (ρ:List Sl) (Q:List PyData->List Sl->Prop):Prop:=ta ρ λa ρ1=>tb ρ1 λb ρ2=>match b with
 | .int k=>bnd (Q7 a) λxs=>(-1000<=k/\k<=1000/\xs.length<=100)/\Q (A3l xs k.toNat) ρ2
 | _=>False
theorem B2a (ha:PE X a (eOf C ta)) (hb:PE X b (eOf C tb)):PE X (.BinOp a .Mult b pos) (fOf C (A3m ta tb)):=PE.wk (J5 C4z ha hb) fun σ H Q zz26=>el3 zz26 fun ρ P Qd R ht k=>
 ⟨ρ,P,_,R,ht,λv a ρ1 H1 R1 h1=>⟨ρ1,_,_,R1,h1,λw b ρ2 H2 R2 h2=>by
  split at h2
  ·obtain⟨xs,hx,⟨h3,h4,h5⟩,q⟩:=M3 h2
   obtain⟨col,r,t1,t2⟩:=th2 R2
   cases t2
   cases a with
   | list ds=>
    cases hx
    obtain⟨p,vs,rfl,e,t⟩:=Red.lst (.th t1)
    rename_i kk
    refine⟨p,kk,vs,rfl,rfl,e,by lia,by lia,?_,λb hb=>k _ _ _ _ _ ⟨col,r,B8e t _⟩ hb q⟩
    have hl:=t.len
    rw[<-hl] at h5
    have:vs.length * kk.toNat<=100 * 1000:=Nat.mul_le_mul h5 (by lia)
    rw[sizeLine_eq]
    lia
   | _=>cases hx
  ·exact h2.elim⟩⟩
def tyD:PyData->Option String
 | .none=>some "NoneType"
 | .bool _=>some "bool"
 | .int _=>some "int"
 | .str _=>some "str"
 | .list _=>some "list"
 | .tuple _=>some "tuple"
 | .dict _=>some "dict"
theorem C6h {K:B0} {col:Addr->Nat} {H:Hp} {v:V} {a:PyData} (t:Red col H v a):∃T,tyD a=some T/\A61 K H v (.type T):=by
 cases t with
 | th t=>cases t with
  | non=>exact⟨_,rfl,.o .non⟩
  | bl b=>exact⟨_,rfl,.o (.bl b)⟩
  | int i=>exact⟨_,rfl,.o (.int i)⟩
  | str x=>exact⟨_,rfl,.o (.str x)⟩
  | lst _ e _=>exact⟨_,rfl,.o (.lst e)⟩
  | tup _ e _=>exact⟨_,rfl,.o (.tup e)⟩
  | dic _ e u=>cases u with
   | t=>exact⟨_,rfl,.o (.dT e)⟩
   | k i j=>exact⟨_,rfl,.o (.dK e)⟩
   | f o ks=>exact⟨_,rfl,.f e⟩
 | ls e _=>exact⟨_,rfl,.o (.lst e)⟩
def e8 (T:String) (d:PyData):Bool:=match tyD d with
 | some t=>t == T||(T == "int" &&t == "bool")
 | none=>false
def A69 (K:B0) (T:String):Prop:=∀d t,tyD d=some t->X4 K (.type t) (.type T)=some (e8 T d)
abbrev C6i (K:B0):List V->Hp->VK->Prop:=λxs H Q=>∃x cv c t b,xs=[x,cv]/\E2 cv c/\A61 K H x t/\X4 K t c=some b/\Q (.bl b) H
def A3n (i:Nat) (T:String)  (ρ:List Sl) (Q:PyData->List Sl->Prop):Prop:=bnd (S7 ρ i) λa=>Q (.bool (e8 T a)) ρ
theorem A9d {i:Nat} {K:B0} {T:String} (hT:A69 K T) (h:PE X e (tCB (C6i K) (W6 (W1 i) (W6 (tC (.ty T)) V1)))):PE X e (eOf C (A3n i T)):=PE.wk h λ_ _ _ zz27=>el3 zz27 fun ρ P _ zz28 ht k=>zz28.elim λcol r=>by
 obtain⟨a,ha,q⟩:=M3 ht
 obtain⟨v,ev,t⟩:=r.slot ha
 obtain⟨t',e1,e2⟩:=C6h (K:=K) t
 exact⟨v,ev,v,.ty T,.type T,_,_,rfl,rfl,e2,hT a t' e1,k _ _ _ _ ⟨col,r.push (.bl _)⟩ q⟩
theorem C6j {K:B0}:A69 K "int" :=λd t h=>by cases d <;> cases h <;> with_unfolding_all rfl
theorem C6k {K:B0}:A69 K "bool" :=λd t h=>by cases d <;> cases h <;> with_unfolding_all rfl
theorem C6l {K:B0}:A69 K "list" :=λd t h=>by cases d <;> cases h <;> with_unfolding_all rfl
theorem C6m {K:B0}:A69 K "tuple" :=λd t h=>by cases d <;> cases h <;> with_unfolding_all rfl
end
inductive Md where
 | sh
 | bo
 | hd
 | b2
 | bd
def A1u:List PyData->Option (List (List PyData))
 | []=>some []
 | .list ds::r=>(A1u r).map (ds::·)
 | _=>none
def B2b:PyData->Option (List (List PyData))
 | .list xs=>A1u xs
 | _=>none
abbrev lls (dss:List (List PyData)):List PyData:=dss.map PyData.list
theorem C6n {xs:List PyData} {dss:List (List PyData)} (h:A1u xs=some dss):xs=lls dss:=by
 induction xs generalizing dss with
 | nil=>cases h;rfl
 | cons x r ih=>
  cases x with
  | list ds=>
   have h':(A1u r).map (ds::·)=some dss:=h
   cases q:A1u r with
   | none=>rw[q] at h';cases h'
   | some ess=>
    rw[q] at h'
    cases h'
    rw[ih q];rfl
  | _=>cases h
theorem C6o {d:PyData} {dss:List (List PyData)} (h:B2b d=some dss):d=.list (lls dss):=by
 cases d with
 | list xs=>rw[C6n h]
 | _=>cases h
theorem C6p {F:Addr->Prop} {H:Hp} {dss:List (List PyData)} {vs:List V} (t:A9 F H vs (lls dss)):∃as:List Addr,vs=as.map V.ref/\Rws F F H as dss:=by
 induction dss generalizing vs with
 | nil=>cases t;exact⟨[],rfl,.nil⟩
 | cons ds dss ih=>
  cases t with
  | cons x y=>
   obtain⟨as,rfl,r⟩:=ih y
   cases x with
   | lst n e z=>exact⟨_::as,rfl,.cons n e z r⟩
def slot2 (ρ:List Sl) (i:Nat):Option (List (List PyData)):=match ρ[i]? with
 | some (.o2 dss)=>some dss
 | some (.b2 dss)=>some dss
 | some (.sh d)=>B2b d
 | _=>none
def B2c (F:Addr->Prop) (hand:Option (Addr×Addr)) (H:Hp) (v:V) (d:PyData):Md->Prop
 | .sh=>ThV F H v d
 | .bo=>∃a vs ds,v=.ref a/\d=.list ds/\(∀q,hand=some q->a≠q.1)/\H a=some (.lst vs)/\A9 F H vs ds
 | .hd=>∃q,hand=some q/\v=.ref q.1
 | .b2=>∃a as dss,v=.ref a/\d=.list (lls dss)/\(∀q,hand=some q->a≠q.1)/\H a=some (.lst (as.map V.ref))/\Rws (λb=>∀q,hand=some q->b≠q.1) F H as dss
 | .bd=>ThV (λb=>∀q,hand=some q->b≠q.1) H v d
inductive X9 (F:Addr->Prop) (hand:Option (Addr×Addr)) (H:Hp):List Md->List V->List PyData->Prop
 | nil:X9 F hand H [] [] []
 | cons {m v d ms vs ds}:B2c F hand H v d m->X9 F hand H ms vs ds->X9 F hand H (m::ms) (v::vs) (d::ds)
theorem X9.len {F:Addr->Prop} {hand:Option (Addr×Addr)} {H:Hp} {ms:List Md} {vs:List V} {ds:List PyData} (t:X9 F hand H ms vs ds):vs.length=ms.length/\ds.length=ms.length:=by
 induction t with
 | nil=>exact⟨rfl,rfl⟩
 | cons _ t ih=>exact⟨congrArg (· + 1) ih.1,congrArg (· + 1) ih.2⟩
abbrev DSp:=List PyData->(PyData->Prop)->Prop
def spD (ms:List Md) (sp:DSp):Sp:=λvs H Q _=>∃F hand ds Qd,((∀b,H b=none->F b)/\∀b xs,H b=some (.tup xs)->F b)/\(∀q,hand=some q->¬ F q.1)/\Hq hand H/\X9 F hand H ms vs ds/\sp ds Qd/\∀d v H',Qd d->ThV F H' v d->Kq hand H H'->Hq hand H'->Q v H'
inductive Ar where
 | v (d:PyData)
 | s (i:Nat)
 | w (d:PyData)
inductive ArV (σ:St) (P:List Pe):List V->List Ar->Prop
 | nil:ArV σ P [] []
 | v {v d vs as}:Pe.v v d∈P->ArV σ P vs as->ArV σ P (v::vs) (.v d::as)
 | s {i v vs as}:σ[i]?=some (some v)->ArV σ P vs as->ArV σ P (v::vs) (.s i::as)
 | w {v d vs as}:Pe.w v d∈P->ArV σ P vs as->ArV σ P (v::vs) (.w d::as)
abbrev DA:=List Sl->(List Ar->List Sl->Prop)->Prop
def aOf (C:DC) (t:DA):TA:=fun σ H Q=>∃ρ P Qd,Rel C ρ σ P H/\t ρ Qd/\∀vs as ρ' P' H',Rel C ρ' σ P' H'->(∀p∈P,p∈P')->ArV σ P' vs as->Qd as ρ'->Q vs H'
def A04 (ρ:List Sl) (i:Nat):Bool:=match ρ[i]? with
 | some .no=>false
 | none=>false
 | _=>true
section
variable {X:Cx} {C:DC} {e:Expr} {es:List Expr} {t:DE} {u:DA}
def A3o  (ρ:List Sl) (Q:List Ar->List Sl->Prop):Prop:=Q [] ρ
def aV (t:DE) (u:DA)  (ρ:List Sl) (Q:List Ar->List Sl->Prop):Prop:=t ρ λd ρ1=>u ρ1 λas ρ2=>Q (.v d::as) ρ2
def aS (i:Nat) (u:DA)  (ρ:List Sl) (Q:List Ar->List Sl->Prop):Prop:=A04 ρ i=true/\u ρ λas ρ2=>Q (.s i::as) ρ2
theorem F0:PA X [] (aOf C A3o):=PA.wk A4 λ_ _ _ zz31=>el3 zz31 λ_ _ _ R ht k=>k [] [] _ _ _ R (λ_ h=>h) .nil ht
theorem B7 (ha:PE X e (eOf C t)) (hr:PA X es (aOf C u)) (hs:autoParam (starEach (e::es) X.env=(false,eval e X.env)::starEach es X.env) RF._auto_1):PA X (e::es) (aOf C (aV t u)):=PA.wk (A2 ha hr hs) λ_ _ _ zz32=>el3 zz32 fun ρ P _ R ht k=>
 ⟨ρ,P,_,R,ht,λ_ _ ρ1 _ R1 h1=>⟨ρ1,_,_,R1,h1,λ_ _ _ _ _ R2 s2 p2 h2=>k _ _ _ _ _ R2 (λp hp=>s2 p (C8 _ hp)) (.v (s2 _ D4) p2) h2⟩⟩
theorem C6q {col:Addr->Nat} {ρ:List Sl} {σ:St} {P:List Pe} {H:Hp} {i:Nat} (r:F3 C col ρ σ P H) (h:A04 ρ i=true):∃v,σ[i]?=some (some v):=by
 unfold A04 at h
 split at h
 ·cases h
 ·cases h
 ·rename_i s n1 n2
  cases q:ρ[i]? with
  | none=>exact absurd q n2
  | some s=>
   have z:=r.sl i s q
   cases s with
   | no=>exact absurd q n1
   | sh d=>obtain⟨v,e,_⟩:=z;exact⟨v,M6 e⟩
   | ow d=>obtain⟨a,_,e,_⟩:=z;exact⟨_,M6 e⟩
   | bo d=>obtain⟨a,_,e,_⟩:=z;exact⟨_,M6 e⟩
   | hd=>obtain⟨q,_,e⟩:=z;exact⟨_,M6 e⟩
   | o2 d=>obtain⟨a,_,e,_⟩:=z;exact⟨_,M6 e⟩
   | b2 d=>obtain⟨a,_,e,_⟩:=z;exact⟨_,M6 e⟩
   | di f ks=>obtain⟨a,e,_⟩:=z;exact⟨_,M6 e⟩
   | dm f ks=>obtain⟨a,e,_⟩:=z;exact⟨_,M6 e⟩
   | bd d=>obtain⟨v,e,_⟩:=z;exact⟨v,M6 e⟩
   | ot d=>obtain⟨v,e,_⟩:=z;exact⟨v,M6 e⟩
   | ob R=>obtain⟨v,e,_⟩:=z;exact⟨v,M6 e⟩
theorem F3.le {col:Addr->Nat} {ρ:List Sl} {σ:St} {P:List Pe} {H:Hp} (r:F3 C col ρ σ P H) {v:V} {d:PyData} (t:ThV (Le C) C.H0 v d):ThV (Le C) H v d:=t.mv λb o g e=>⟨g,r.kq b o e g.2⟩
theorem F3.slot2 {col:Addr->Nat} {ρ:List Sl} {σ:St} {P:List Pe} {H:Hp} (r:F3 C col ρ σ P H) {i:Nat} {dss:List (List PyData)} (h:slot2 ρ i=some dss):∃a as,σ[i]?=some (some (.ref a))/\(∀q,C.hand=some q->a≠q.1)/\H a=some (.lst (as.map V.ref))/\Rws (λb=>∀q,C.hand=some q->b≠q.1) (Z col) H as dss:=by
 unfold My.slot2 at h
 split at h
 ·rename_i dss' e
  cases h
  obtain⟨a,as,e1,c,e2,nd,t⟩:=r.sl i _ e
  exact⟨a,as,M6 e1,r.notH (by have:=c.1;lia),e2,t.mv (λb o z e=>⟨z,e⟩) λb o g e=>⟨r.notH (by have:=g.1;lia),e⟩⟩
 ·rename_i dss' e
  cases h
  obtain⟨a,as,e1,c,e2,t⟩:=r.sl i _ e
  exact⟨a,as,M6 e1,c.2,e2,t.mv (λb o z e=>⟨z,e⟩) λb o g e=>⟨g.2,e⟩⟩
 ·rename_i d e
  cases C6o h
  obtain⟨v,e1,t⟩:=r.sl i _ e
  cases t with
  | lst n e2 t=>
   obtain⟨as,rfl,t2⟩:=C6p t
   exact⟨_,as,M6 e1,r.notH (by rw[show col _=0 from n];decide),e2,t2.mv (λb o z e=>⟨z,e⟩) λb o g e=>⟨r.notH (by rw[show col b=0 from g];decide),e⟩⟩
 ·cases h
theorem Z7 {i:Nat} (ha:PE X e (W1 i)) (hr:PA X es (aOf C u)) (hs:autoParam (starEach (e::es) X.env=(false,eval e X.env)::starEach es X.env) RF._auto_1):PA X (e::es) (aOf C (aS i u)):=PA.wk (A2 ha hr hs) fun σ H Q zz33=>el3 zz33 fun ρ P Qd zz34 ht k=>zz34.elim λcol r=>by
 obtain⟨v,ev⟩:=C6q r ht.1
 exact⟨v,ev,ρ,P,_,⟨col,r⟩,ht.2,λ_ _ _ _ _ R2 s2 p2 h2=>k _ _ _ _ _ R2 s2 (.s ev p2) h2⟩
def arD (ρ:List Sl) (m:Md) (a:Ar):Option PyData:=match m,a with
 | .sh,.v d=>some d
 | .bo,.v (.list ds)=>some (.list ds)
 | .bo,.s i=>(S7 ρ i).bind λd=>(Q7 d).map PyData.list
 | .hd,.s i=>match ρ[i]? with
  | some .hd=>some .none
  | _=>none
 | .b2,.s i=>(slot2 ρ i).map λdss=>.list (lls dss)
 | .bd,.v d=>some d
 | .bd,.w d=>some d
 | .bd,.s i=>match ρ[i]? with
  | some (.bd d)=>some d
  | some (.sh d)=>some d
  | _=>none
 | _,_=>none
def U3 (ρ:List Sl):List Md->List Ar->Option (List PyData)
 | [],[]=>some []
 | m::ms,a::as=>(arD ρ m a).bind λd=>(U3 ρ ms as).map (d::·)
 | _,_=>none
theorem A3p {d:PyData} {xs:List PyData} (h:Q7 d=some xs):d=.list xs:=by
 cases d <;> cases h
 rfl
theorem B2d {col:Addr->Nat} {ρ:List Sl} {σ:St} {P:List Pe} {H:Hp} (r:F3 C col ρ σ P H) {m:Md} {v:V} {d:PyData} {a:Ar} (ha:match a with | .v d=>Pe.v v d∈P | .s i=>σ[i]?=some (some v) | .w d=>Pe.w v d∈P) (h:arD ρ m a=some d):B2c (Z col) C.hand H v d m:=by
 unfold arD at h
 split at h
 ·cases h;exact r.pd _ ha
 ·cases h
  have z:ThV (Z col) H v (.list _):=r.pd _ ha
  cases z with
  | lst za e t=>exact⟨_,_,_,rfl,rfl,r.notH (by rw[show col _=0 from za];decide),e,t⟩
 ·rename_i i
  have ha':σ[i]?=some (some v):=ha
  cases q:S7 ρ i with
  | none=>rw[q] at h;cases h
  | some d'=>
   rw[q] at h
   cases q2:Q7 d' with
   | none=>
    have h':(Q7 d').map PyData.list=some d:=h
    rw[q2] at h';cases h'
   | some xs=>
    have h':(Q7 d').map PyData.list=some d:=h
    rw[q2] at h'
    cases h'
    have:=A3p q2
    subst this
    unfold S7 at q
    split at q
    ·rename_i d'' e
     cases q
     obtain⟨v',e1,t⟩:=r.sl i _ e
     rw[M6 e1] at ha'
     cases ha'
     cases t with
     | lst za e t=>exact⟨_,_,_,rfl,rfl,r.notH (by rw[show col _=0 from za];decide),e,t⟩
    ·rename_i ds e
     cases q
     obtain⟨a,vs,e1,c,_,e2,t⟩:=r.sl i _ e
     rw[M6 e1] at ha'
     cases ha'
     exact⟨_,_,_,rfl,rfl,r.notH (by lia),e2,t⟩
    ·rename_i ds e
     cases q
     obtain⟨a,vs,e1,c,n,e2,t⟩:=r.sl i _ e
     rw[M6 e1] at ha'
     cases ha'
     exact⟨_,_,_,rfl,rfl,n,e2,t⟩
    ·cases q
 ·rename_i i
  have ha':σ[i]?=some (some v):=ha
  split at h
  ·rename_i e
   cases h
   obtain⟨q,e1,e2⟩:=r.sl i _ e
   rw[M6 e2] at ha'
   cases ha'
   exact⟨q,e1,rfl⟩
  ·cases h
 ·rename_i i
  have ha':σ[i]?=some (some v):=ha
  cases q:slot2 ρ i with
  | none=>rw[q] at h;cases h
  | some dss=>
   rw[q] at h
   cases h
   obtain⟨a,as,e1,n,e2,t⟩:=r.slot2 q
   rw[e1] at ha'
   cases ha'
   exact⟨a,as,dss,rfl,rfl,n,e2,t⟩
 ·cases h
  exact ThV.mv (λb o z e=>⟨r.notH (by rw[show col b=0 from z];decide),e⟩) (r.pd _ ha)
 ·cases h
  exact ThV.mv (λb o z e=>⟨z.2,e⟩) (r.le (r.pd _ ha))
 ·rename_i i
  have ha':σ[i]?=some (some v):=ha
  split at h
  ·rename_i e
   cases h
   obtain⟨v',e1,t⟩:=r.sl i _ e
   rw[M6 e1] at ha'
   cases ha'
   exact ThV.mv (λb o z e=>⟨z.2,e⟩) (r.le t)
  ·rename_i e
   cases h
   obtain⟨v',e1,t⟩:=r.sl i _ e
   rw[M6 e1] at ha'
   cases ha'
   exact ThV.mv (λb o z e=>⟨r.notH (by rw[show col b=0 from z];decide),e⟩) t
  ·cases h
 ·cases h
theorem A9e {col:Addr->Nat} {ρ:List Sl} {σ:St} {P:List Pe} {H:Hp} (r:F3 C col ρ σ P H):∀{ms:List Md} {vs:List V} {ds:List PyData} {as:List Ar},ArV σ P vs as->U3 ρ ms as=some ds->X9 (Z col) C.hand H ms vs ds
 | [],_,_,_,.nil,h=>by cases h;exact .nil
 | [],_,_,_,.v _ _,h=>by cases h
 | [],_,_,_,.s _ _,h=>by cases h
 | [],_,_,_,.w _ _,h=>by cases h
 | _::_,_,_,_,.nil,h=>by cases h
 | m::ms,_,ds,_,.v (d:=d0) (as:=as) hm t,h=>by
  have h':((arD ρ m (.v d0)).bind λd=>(U3 ρ ms as).map (d::·))=some ds:=h
  cases q:arD ρ m (.v d0) with
  | none=>rw[q] at h';cases h'
  | some d=>
   rw[q] at h'
   have h2:(U3 ρ ms as).map (d::·)=some ds:=h'
   cases q2:U3 ρ ms as with
   | none=>rw[q2] at h2;cases h2
   | some ds'=>
    rw[q2] at h2
    cases h2
    exact .cons (B2d r (a:=.v d0) hm q) (A9e r t q2)
 | m::ms,_,ds,_,.s (i:=i) (as:=as) hm t,h=>by
  have h':((arD ρ m (.s i)).bind λd=>(U3 ρ ms as).map (d::·))=some ds:=h
  cases q:arD ρ m (.s i) with
  | none=>rw[q] at h';cases h'
  | some d=>
   rw[q] at h'
   have h2:(U3 ρ ms as).map (d::·)=some ds:=h'
   cases q2:U3 ρ ms as with
   | none=>rw[q2] at h2;cases h2
   | some ds'=>
    rw[q2] at h2
    cases h2
    exact .cons (B2d r (a:=.s i) hm q) (A9e r t q2)
 | m::ms,_,ds,_,.w (d:=d0) (as:=as) hm t,h=>by
  have h':((arD ρ m (.w d0)).bind λd=>(U3 ρ ms as).map (d::·))=some ds:=h
  cases q:arD ρ m (.w d0) with
  | none=>rw[q] at h';cases h'
  | some d=>
   rw[q] at h'
   have h2:(U3 ρ ms as).map (d::·)=some ds:=h'
   cases q2:U3 ρ ms as with
   | none=>rw[q2] at h2;cases h2
   | some ds'=>
    rw[q2] at h2
    cases h2
    exact .cons (B2d r (a:=.w d0) hm q) (A9e r t q2)
def A3q (ms:List Md) (sp:DSp) (u:DA)  (ρ:List Sl) (Q:PyData->List Sl->Prop):Prop:=u ρ λas ρ'=>bnd (U3 ρ' ms as) λds=>sp ds λd=>Q d ρ'
theorem F1 {ms:List Md} {sp:DSp} {E:XK} (h:PE X e (B1m (spD ms sp) [] E (aOf C u))):PE X e (eOf C (A3q ms sp u)):=PE.wk h fun σ H Q zz35=>el3 zz35 fun ρ P Qd R ht k=>⟨ρ,P,_,R,ht,λvs as ρ' P' H' zz36 s p q=>zz36.elim λcol r=>by
 obtain⟨ds,hds,q⟩:=M3 q
 rw[Y6]
 obtain⟨col,r,tp⟩:=r.norm
 refine⟨Z col,C.hand,ds,_,⟨r.fresh,tp⟩,λq hq z=>?_,r.hq,A9e r p hds,q,λd v H2 q2 t2 k2 h2=>k _ _ _ _ ⟨col,(((r.mv k2 h2).sub s)).push t2⟩ q2⟩
 have:=r.hnd q hq
 rw[show col q.1=0 from z] at this
 cases this⟩
end
structure A7a (C:DC) (J:It) (xs:List PyData) (P:List Pe):Prop where
 go:∀{i:Nat} {ρ:List Sl} {σ:St} {P':List Pe} {H:Hp},(∀p∈P,p∈P')->Rel C ρ σ P' H->i < xs.length->J.go i H
 yld:∀{i:Nat} {ρ:List Sl} {σ:St} {P':List Pe} {H H':Hp} {x:V} {d:PyData},(∀p∈P,p∈P')->Rel C ρ σ P' H->xs[i]?=some d->J.yld i H x H'->Rel C ρ σ (.v x d::P') H'
 stop:∀{ρ:List Sl} {σ:St} {P':List Pe} {H:Hp},(∀p∈P,p∈P')->Rel C ρ σ P' H->J.stop xs.length H
theorem K8 {F:Addr->Prop} {H:Hp} {v:V} {xs:List PyData} (t:ThV F H v (.list xs)):∃a vs,v=.ref a/\F a/\H a=some (.lst vs)/\A9 F H vs xs:=by
 cases t with
 | lst za e t=>exact⟨_,_,rfl,za,e,t⟩
theorem V5 {F:Addr->Prop} {H:Hp} {v:V} {xs:List PyData} (t:ThV F H v (.tuple xs)):∃a vs,v=.ref a/\F a/\H a=some (.tup vs)/\A9 F H vs xs:=by
 cases t with
 | tup za e t=>exact⟨_,_,rfl,za,e,t⟩
def iOf (C:DC) (t:DF):TI:=fun σ H R=>∃ρ P Qd,Rel C ρ σ P H/\t ρ Qd/\∀xs ρ' P' H' J,Rel C ρ' σ P' H'->(∀p∈P,p∈P')->A7a C J xs P'->Qd xs ρ'->R J H'
section
variable {X:Cx} {C:DC} {tg e:Expr} {t:DE} {u:DF} {pos:Pos}
theorem PI.wk {tg e:Expr} {w w':TI} (h:PI X tg e w) (f:∀σ H R,w' σ H R->w σ H R):PI X tg e w':=λpins s σ H R I q=>h pins s σ H R I (f σ H R q)
theorem A9f {K:B0} {a:Addr} {vs:List V} {xs:List PyData} {P:List Pe}:A7a C (Itl K a) xs (.n a (.lst vs)::.s vs xs::P) where
 go:=λ{i ρ σ P' H} s R hi=>by
  obtain⟨col,r⟩:=R
  have h1:=r.pd _ (s _ D4)
  have h2:A9 (Z col) H vs xs:=r.pd _ (s _ (C8 _ D4))
  have hl:=h2.len
  exact⟨vs,vs[i],SqL.of h1.2.2,M9 (by lia)⟩
 yld:=λ{i ρ σ P' H H' x d} s R hi y=>by
  obtain⟨e,y⟩:=y
  subst e
  obtain⟨col,r⟩:=R
  have h1:=r.pd _ (s _ D4)
  have h2:A9 (Z col) H' vs xs:=r.pd _ (s _ (C8 _ D4))
  have hx:=y vs (SqL.of h1.2.2)
  obtain⟨d',e1,t⟩:=h2.get hx
  rw[hi] at e1
  cases e1
  exact⟨col,r.push t⟩
 stop:=λ{ρ σ P' H} s R=>by
  obtain⟨col,r⟩:=R
  have h1:=r.pd _ (s _ D4)
  have h2:A9 (Z col) H vs xs:=r.pd _ (s _ (C8 _ D4))
  have hl:=h2.len
  exact⟨vs,SqL.of h1.2.2,by lia⟩
def dIl (t:DE)  (ρ:List Sl) (Q:List PyData->List Sl->Prop):Prop:=t ρ λd ρ'=>bnd (Q7 d) λxs=>Q xs ρ'
theorem A9g (h:PE X e (eOf C t)):PI X tg e (iOf C (dIl t)):=PI.wk (Z0 h) λ_ _ _ zz1=>el3 zz1 fun ρ P _ R ht k=>⟨ρ,P,_,R,ht,λv d ρ' H' zz2 q=>zz2.elim λcol r=>by
 obtain⟨xs,hx,q⟩:=M3 q
 have:=A3p hx
 subst this
 obtain⟨a,vs,rfl,za,e1,t1⟩:=K8 (show ThV (Z col) H' v (.list xs) from r.pd _ D4)
 refine⟨a,rfl,⟨vs,SqL.of e1⟩,k xs ρ' (.n a (.lst vs)::.s vs xs::P) H' _ ⟨col,?_⟩ (λ_ h=>C8 _ (C8 _ h)) A9f q⟩
 exact ((r.sub λ_ h=>C8 _ h).add (x:=.s vs xs) t1).add (x:=.n a (.lst vs)) ⟨by rw[show col a=0 from za];decide,r.notH (by rw[show col a=0 from za];decide),e1⟩⟩
def dIv (i:Nat)  (ρ:List Sl) (Q:List PyData->List Sl->Prop):Prop:=match ρ[i]? with
 | some (.sh (.list xs))=>Q xs ρ
 | some (.ow xs)=>Q xs (ρ.set i (.sh (.list xs)))
 | some (.bo xs)=>Q xs ρ
 | _=>False
theorem A7b {i:Nat} (h:PE X e (W1 i)):PI X tg e (iOf C (dIv i)):=PI.wk (Z0 h) fun σ H R' zz5=>el3 zz5 fun ρ P Qd zz6 ht k=>zz6.elim λcol r=>by
 unfold dIv at ht
 split at ht
 ·rename_i xs e
  obtain⟨v,e1,t⟩:=r.sl i _ e
  obtain⟨a,vs,rfl,za,e2,t1⟩:=K8 t
  ·refine⟨_,M6 e1,a,rfl,⟨vs,SqL.of e2⟩,k xs ρ (.n a (.lst vs)::.s vs xs::P) H _ ⟨col,?_⟩ (λ_ h=>C8 _ (C8 _ h)) A9f ht⟩
   exact (r.add (x:=.s vs xs) t1).add (x:=.n a (.lst vs)) ⟨by rw[show col a=0 from za];decide,r.notH (by rw[show col a=0 from za];decide),e2⟩
 ·rename_i xs e
  obtain⟨a,e1,col',r'⟩:=r.freeze e
  obtain⟨a',vs,ea,za,e2,t1⟩:=K8 (show ThV (Z col') H (.ref a) (.list xs) from r'.pd _ D4)
  cases ea
  ·refine⟨_,M6 e1,a,rfl,⟨vs,SqL.of e2⟩,k xs _ (.n a (.lst vs)::.s vs xs::P) H _ ⟨col',?_⟩ (λ_ h=>C8 _ (C8 _ h)) A9f ht⟩
   exact ((r'.sub λ_ h=>C8 _ h).add (x:=.s vs xs) t1).add (x:=.n a (.lst vs)) ⟨by rw[show col' a=0 from za];decide,r'.notH (by rw[show col' a=0 from za];decide),e2⟩
 ·rename_i xs e
  obtain⟨a,vs,e1,c,n,e2,t⟩:=r.sl i _ e
  exact⟨_,M6 e1,a,rfl,⟨vs,SqL.of e2⟩,k xs ρ (.n a (.lst vs)::.s vs xs::P) H _ ⟨col,(r.add (x:=.s vs xs) t).add (x:=.n a (.lst vs)) ⟨c,n,e2⟩⟩ (λ_ h=>C8 _ (C8 _ h)) A9f ht⟩
 ·exact ht.elim
def U4 (lo:Int) (n:Nat):List PyData:=(G9 n).map λi=>.int (lo + ((i:Nat):Int))
theorem C6r {lo:Int} {n i:Nat} {d:PyData} (h:(U4 lo n)[i]?=some d):i < n/\d=.int (lo + i):=by
 unfold U4 at h
 rw[L8] at h
 by_cases hi:i < n
 ·rw[A79 hi] at h
  cases h
  exact⟨hi,rfl⟩
 ·rw[A2f (by rw[R6];lia)] at h
  cases h
theorem C6s {lo:Int} {n:Nat} {P:List Pe}:A7a C (Itr lo n) (U4 lo n) P where
 go:=λ{i _ _ _ _} _ _ hi=>by
  have:(U4 lo n).length=n:=by unfold U4;rw[C1,R6]
  show i < n
  lia
 yld:=λ{i ρ σ P' H H' x d} _ R hi y=>by
  obtain⟨e1,e2⟩:=y
  subst e1 e2
  obtain⟨_,e3⟩:=C6r hi
  subst e3
  obtain⟨col,r⟩:=R
  exact⟨col,r.push (.int _)⟩
 stop:=λ_ _=>by
  have:(U4 lo n).length=n:=by unfold U4;rw[C1,R6]
  show n<=(U4 lo n).length
  lia
def B2e (u:DF)  (ρ:List Sl) (Q:List PyData->List Sl->Prop):Prop:=u ρ λds ρ'=>match ds with
 | [.int j]=>(-(2 ^ 62)<=j/\j < 2 ^ 62)/\Q (U4 0 j.toNat) ρ'
 | _=>False
theorem A9h (h:PI X tg e (B6i (vOf C u))):PI X tg e (iOf C (B2e u)):=PI.wk h λ_ _ _ zz7=>el3 zz7 fun ρ P _ R ht k=>⟨ρ,P,_,R,ht,λvs ds ρ' P' H' zz8 s p q=>zz8.elim λcol r=>by
 split at q
 ·have t:=p.th r
  obtain⟨v,rfl,t1⟩:=A1q t
  cases t1
  exact⟨_,rfl,q.1.1,q.1.2,k _ _ P' _ _ ⟨col,r⟩ s C6s q.2⟩
 ·exact q.elim⟩
def A0g (xs:List PyData):List PyData:=xs.zipIdx.map λp=>.tuple [.int (p.2:Nat),p.1]
theorem C6t {xs:List PyData} {i:Nat} {d:PyData} (h:(A0g xs)[i]?=some d):∃x,xs[i]?=some x/\d=.tuple [.int (i:Nat),x]:=by
 unfold A0g at h
 rw[L8,List.getElem?_zipIdx] at h
 cases q:xs[i]? with
 | none=>rw[q] at h;cases h
 | some x=>rw[q] at h;cases h;exact⟨x,rfl,by rw[Nat.zero_add]⟩
theorem C6u {K:B0} {a:Addr} {vs:List V} {xs:List PyData} {P:List Pe}:A7a C (Ite K a) (A0g xs) (.n a (.lst vs)::.s vs xs::P) where
 go:=λ{i ρ σ P' H} s R hi=>by
  obtain⟨col,r⟩:=R
  have h1:=r.pd _ (s _ D4)
  have h2:A9 (Z col) H vs xs:=r.pd _ (s _ (C8 _ D4))
  have hl:=h2.len
  have hi':i < xs.length:=by unfold A0g at hi;rw[C1,List.length_zipIdx] at hi;exact hi
  exact⟨vs,vs[i],SqL.of h1.2.2,M9 (by lia)⟩
 yld:=λ{i ρ σ P' H H' x d} s R hi y=>by
  obtain⟨p,v,rfl,hp,rfl,y⟩:=y
  obtain⟨col,r⟩:=R
  have h1:=r.pd _ (s _ D4)
  have h2:A9 (Z col) H vs xs:=r.pd _ (s _ (C8 _ D4))
  have hx:=y vs (SqL.of h1.2.2)
  obtain⟨x,e1,rfl⟩:=C6t hi
  obtain⟨d',e2,t⟩:=h2.get hx
  rw[e1] at e2
  cases e2
  exact⟨col,r.tup (.cons (.int _) (.cons t .nil)) hp⟩
 stop:=λ{ρ σ P' H} s R=>by
  obtain⟨col,r⟩:=R
  have h1:=r.pd _ (s _ D4)
  have h2:A9 (Z col) H vs xs:=r.pd _ (s _ (C8 _ D4))
  have hl:=h2.len
  exact⟨vs,SqL.of h1.2.2,by unfold A0g;rw[C1,List.length_zipIdx];lia⟩
def B2f (t:DE)  (ρ:List Sl) (Q:List PyData->List Sl->Prop):Prop:=t ρ λd ρ'=>bnd (Q7 d) λxs=>Q (A0g xs) ρ'
theorem B8f {K:B0} (h:PI X tg e (B7q K (W6 (eOf C t) V1))):PI X tg e (iOf C (B2f t)):=PI.wk h λ_ _ _ zz11=>el3 zz11 fun ρ P _ R ht k=>⟨ρ,P,_,R,ht,λv d ρ' H' zz12 q=>zz12.elim λcol r=>by
 obtain⟨xs,hx,q⟩:=M3 q
 have:=A3p hx
 subst this
 obtain⟨a,vs,rfl,za,e1,t1⟩:=K8 (show ThV (Z col) H' v (.list xs) from r.pd _ D4)
 refine⟨a,rfl,⟨vs,SqL.of e1⟩,k _ ρ' (.n a (.lst vs)::.s vs xs::P) H' _ ⟨col,?_⟩ (λ_ h=>C8 _ (C8 _ h)) C6u q⟩
 exact ((r.sub λ_ h=>C8 _ h).add (x:=.s vs xs) t1).add (x:=.n a (.lst vs)) ⟨by rw[show col a=0 from za];decide,r.notH (by rw[show col a=0 from za];decide),e1⟩⟩
end
def A1v (tt:DT) (te:DE) (ρ:List Sl) (Q:List PyData->Prop):List PyData->List PyData->Prop
 | [],acc=>Q acc
 | x::r,acc=>tt (ρ++[.sh x]) λb ρ'=>ρ'=ρ++[.sh x]/\if b=true then te (ρ++[.sh x]) λd ρ''=>ρ''=ρ++[.sh x]/\A1v tt te ρ Q r (acc++[d]) else A1v tt te ρ Q r acc
def A0h (j:Nat) (it:DF) (tt:DT) (te:DE)  (ρ:List Sl) (Q:List PyData->List Sl->Prop):Prop:=it ρ λxs ρ1=>(ρ1.length=j/\xs.length<=1000)/\A1v tt te ρ1 (λds=>Q ds ρ1) xs []
def B2g  (ρ:List Sl) (Q:Bool->List Sl->Prop):Prop:=Q true ρ
section
variable {X:Cx} {C:DC}
theorem PTs.wk {es:List Expr} {t t':TT} (h:PTs X es t) (f:∀σ H Q,t' σ H Q->t σ H Q):PTs X es t':=λpins s σ H Q I q=>h pins s σ H Q I (f σ H Q q)
theorem A05:PTs X [] (cOf C B2g):=PTs.wk d8 λ_ _ _ zz13=>el3 zz13 λ_ _ _ R ht k=>k _ _ _ R ht
theorem Rel.ext {ρ:List Sl} {σ:St} {P:List Pe} {H:Hp} {x:V} {d:PyData} (R:Rel C ρ σ (.v x d::P) H):Rel C (ρ++[.sh d]) (σ++[some x]) P H:=by
 obtain⟨col,r⟩:=R
 have t:ThV (Z col) H x d:=r.pd _ D4
 have r:=r.sub λ_ h=>C8 _ h
 refine⟨col,{ r with sl:=λi s e=>?_,len:=by rw[P0,P0,r.len];rfl }⟩
 by_cases hi:i < ρ.length
 ·rw[A4j hi] at e
  rw[A4j (by rw[<-r.len];exact hi)]
  exact r.sl i s e
 ·rw[A6c (by lia)] at e
  rw[A6c (by rw[<-r.len];lia),<-r.len]
  match q:i - ρ.length with
  | 0=>
   rw[q] at e
   cases e
   exact⟨x,rfl,t⟩
  | n + 1=>rw[q] at e;simp at e
theorem F3.unext {col:Addr->Nat} {ρ ρ':List Sl} {σ σ':St} {P:List Pe} {H:Hp} (r:F3 C col (ρ++ρ') (σ++σ') P H) (hl:ρ.length=σ.length):F3 C col ρ σ P H:=by
 refine { r with sl:=λi s e=>?_,len:=hl }
 have hi:=(V9.mp e).1
 have:=r.sl i s (by rw[A4j hi];exact e)
 rw[A4j (by lia)] at this
 exact this
theorem A9.snoc {F:Addr->Prop} {H:Hp} {vs:List V} {ds:List PyData} {v:V} {d:PyData} (t:A9 F H vs ds) (x:ThV F H v d):A9 F H (vs++[v]) (ds++[d]):=t.append (.cons x .nil)
theorem C6v {σ:St} {n j:Nat} {x:V} (h1:n=σ.length + 1) (h2:j=σ.length):(Q5 n j σ).set j (some x)=σ++[some x]:=by
 subst h1 h2
 unfold Q5
 rw[B02 (by simp),List.set_append_right _ _ (E1 _),List.set_append_right _ _ (E1 _)]
 simp
theorem B2h {it:DF} {tt:DT} {te:DE} {n j:Nat} (hn:n=j + 1) {σ:St} {H:Hp} {Q:VK} (h:fOf C (A0h j it tt te) σ H Q):A4z (iOf C it) n j (λ_=>cOf C tt) (λ_=>eOf C te) σ H Q:=by
 obtain⟨ρ,P,Qd,R,ht,k⟩:=h
 refine⟨ρ,P,_,R,ht,λxs ρ1 P1 H1 J R1 s1 io q=>?_⟩
 obtain⟨⟨hj,hx⟩,q⟩:=q
 have lz:∀m,m<=1000->m<=sizeLine:=λm hm=>A58 (A8x hm)
 refine⟨λi m ys H'=>m=xs.length - i/\i<=xs.length/\ys.length<=i/\∃acc,Rel C ρ1 σ (.s ys acc::P1) H'/\A1v tt te ρ1 (λds=>Qd ds ρ1) (xs.drop i) acc,⟨xs.length,by simp,J7 _,E1 _,[],?_,q⟩,?_⟩
 ·obtain⟨col,r⟩:=R1
  exact⟨col,r.add (x:=.s [] []) .nil⟩
 rintro i m ys H2 ⟨rfl,hi,hy,acc,R2,q2⟩
 refine⟨lz _ (by lia),?_⟩
 have sub2:∀p∈P1,p∈Pe.s ys acc::P1:=λ_ h=>C8 _ h
 have hlen:ρ1.length=σ.length:=by obtain⟨col,r⟩:=R2;exact r.len
 by_cases hlt:i < xs.length
 ·rw[A6h hlt] at q2
  refine .inr ⟨io.go sub2 R2 hlt,λys' H'=>ys'.length<=i + 1/\∃acc,Rel C ρ1 σ (.s ys' acc::P1) H'/\A1v tt te ρ1 (λds=>Qd ds ρ1) (xs.drop (i + 1)) acc,λys' H' zz14=>zz14.elim λh1 h2=>⟨xs.length - (i + 1),by lia,rfl,hlt,h1,h2⟩,λx H3 y a=>?_⟩
  have R3:=(io.yld sub2 R2 (M9 hlt) y).ext
  rw[C6v (by rw[hn,<-hlen,hj]) (by rw[<-hlen,hj])]
  refine⟨_,_,_,R3,q2,λb ρ' H4 R4 q4=>?_⟩
  obtain⟨rfl,q4⟩:=q4
  cases b with
  | true=>
   refine F5 ⟨_,_,_,R4,by simpa using q4,λv d ρ'' H5 R5 q5=>?_⟩
   obtain⟨rfl,q5⟩:=q5
   refine⟨by rw[P0];simp;lia,acc++[d],?_,q5⟩
   obtain⟨col,r⟩:=R5
   have t1:ThV (Z col) H5 v d:=r.pd _ D4
   have t2:A9 (Z col) H5 ys acc:=r.pd _ (C8 _ D4)
   exact⟨col,((r.unext hlen).sub λ_ h=>C8 _ (C8 _ h)).add (x:=.s (ys++[v]) (acc++[d])) (t2.snoc t1)⟩
  | false=>
   refine D0 ⟨by lia,acc,?_,by simpa using q4⟩
   obtain⟨col,r⟩:=R4
   exact⟨col,r.unext hlen⟩
 ·have e:i=xs.length:=by lia
  subst e
  rw[B50] at q2
  refine .inl ⟨io.stop sub2 R2,λp hp=>k _ _ _ _ _ ?_ hp q2⟩
  obtain⟨col,r⟩:=R2
  exact⟨col,r.sub λp hp=>C8 _ (s1 p hp),r.pd _ D4⟩
end
structure X1 where
 nx:List Sl->Prop
 rt:PyData->Prop
 bk:List Sl->Prop:=λ_=>False
 ct:List Sl->Prop:=λ_=>False
 ro:Sl->Prop:=λ_=>False
abbrev DS:=X1->List Sl->Prop
def C6w (C:DC) (col:Addr->Nat) (H:Hp) (v:V):Sl->Prop
 | .ow ds=>∃a vs,v=.ref a/\C.H0 a=none/\col a≠0/\H a=some (.lst vs)/\A9 (Z col) H vs ds
 | .o2 dss=>∃a as,v=.ref a/\(C.H0 a=none/\col a≠0)/\H a=some (.lst (as.map V.ref))/\(a::as).Nodup/\Rws (λb=>C.H0 b=none/\col b≠0) (Z col) H as dss
 | .di false ks=>∃a,v=.ref a/\C.H0 a=none/\H a=some (.dT (dEn ks))
 | _=>False
structure C6x (C:DC) (P:List Pe) (Dd:X1) (D:Y8):Prop where
 nx:∀ρ σ H,Rel C ρ σ P H->Dd.nx ρ->D.nx σ H
 rt:∀v d ρ σ H,Rel C ρ σ (.v v d::P) H->Dd.rt d->D.rt v H
 bk:∀ρ σ H,Rel C ρ σ P H->Dd.bk ρ->D.bk σ H
 ct:∀ρ σ H,Rel C ρ σ P H->Dd.ct ρ->D.ct σ H
 ro:∀(v:V) (s:Sl) (ρ:List Sl) σ H col,F3 C col ρ σ P H->C6w C col H v s->Dd.ro s->D.rt v H
def sOf (C:DC) (t:DS):TS:=λD σ H=>∃ρ P Dd,Rel C ρ σ P H/\t Dd ρ/\C6x C P Dd D
section
variable {X:Cx} {C:DC} {st:Stmt} {sts:List Stmt} {e:Expr} {t u:DS} {te:DE} {tf:DF} {c:DT} {pos:Pos}
theorem PS.wk {t t':TS} (h:PS X st t) (f:∀D σ H,t' D σ H->t D σ H):PS X st t':=λpins s σ H D I q=>h pins s σ H D I (f D σ H q)
theorem PSs.wk {t t':TS} (h:PSs X sts t) (f:∀D σ H,t' D σ H->t D σ H):PSs X sts t':=λpins s σ H D I q=>h pins s σ H D I (f D σ H q)
def A3r (t u:DS)  (D:X1) (ρ:List Sl):Prop:=t { D with nx:=u D } ρ
def A3s  (D:X1) (ρ:List Sl):Prop:=D.nx ρ
theorem U5:PSs X [] (sOf C A3s):=PSs.wk G7 λ_ _ _ zz15=>el3 zz15 λ_ _ _ R ht E=>E.nx _ _ _ R ht
theorem D9 (h:PS X st (sOf C t)):PSs X [st] (sOf C t):=C5 h
theorem F8 (h1:PS X st (sOf C t)) (h2:PSs X sts (sOf C u)):PSs X (st::sts) (sOf C (A3r t u)):=PSs.wk (B5 h1 h2) λ_ _ _ zz16=>el3 zz16 fun ρ P Dd R ht E=>⟨ρ,P,{ Dd with nx:=u Dd },R,ht,⟨fun ρ' _ _ R' h=>⟨ρ',P,Dd,R',h,E⟩,E.rt,E.bk,E.ct,E.ro⟩⟩
def Go (f:List Sl->Prop) (ρ:List Sl):Prop:=f ρ
theorem go {f:List Sl->Prop} {ρ:List Sl} (h:f ρ):Go f ρ:=h
def A0i (t u:DS) (D:X1) (ρ:List Sl):Prop:=t { D with nx:=Go (u D) } ρ
theorem M7 (h1:PS X st (sOf C t)) (h2:PSs X sts (sOf C u)):PSs X (st::sts) (sOf C (A0i t u)):=PSs.wk (B5 h1 h2) λ_ _ _ zz17=>el3 zz17 fun ρ P Dd R ht E=>⟨ρ,P,{ Dd with nx:=Go (u Dd) },R,ht,⟨fun ρ' _ _ R' h=>⟨ρ',P,Dd,R',h,E⟩,E.rt,E.bk,E.ct,E.ro⟩⟩
def B2i (t:DS)  (D:X1) (ρ:List Sl):Prop:=∃M:List Sl->Prop,t { D with nx:=M } ρ/\∀ρ',M ρ'->D.nx ρ'
theorem B2j (h:PS X st (sOf C t)):PS X st (sOf C (B2i t)):=PS.wk h λ_ _ _ ⟨ρ,P,Dd,R,⟨M,h1,h2⟩,E⟩=>⟨ρ,P,{ Dd with nx:=M },R,h1,⟨fun ρ' σ' H' R' h=>E.nx ρ' σ' H' R' (h2 ρ' h),E.rt,E.bk,E.ct,E.ro⟩⟩
theorem C6y:PS X st (sOf C λ_ _=>False):=PS.wk A01 λ_ _ _ zz22=>el3 zz22 λ_ _ _ _ h _=>h
def A3t (te:DE)  (D:X1) (ρ:List Sl):Prop:=te ρ λd _=>D.rt d
theorem E9 (h:PE X e (eOf C te)):PS X (.Return (some e) pos) (sOf C (A3t te)):=PS.wk (F2 h) λ_ _ _ zz23=>el3 zz23 fun ρ P _ R ht E=>⟨ρ,P,_,R,ht,λv d _ _ R' q=>E.rt v d _ _ _ R' q⟩
def A3u (c:DT) (t u:DS)  (D:X1) (ρ:List Sl):Prop:=c ρ λb ρ'=>if b=true then t D ρ' else u D ρ'
theorem T2 {ce:Expr} {a b:List Stmt} (hc:PT X ce (cOf C c)) (ha:PSs X a (sOf C t)) (hb:PSs X b (sOf C u)):PS X (.If ce a b pos) (sOf C (A3u c t u)):=PS.wk (G4 hc ha hb) λ_ _ _ zz26=>el3 zz26 fun ρ P Dd R ht E=>⟨ρ,P,_,R,ht,λb ρ' _ R' q=>by
 cases b with
 | true=>exact F5 ⟨ρ',P,Dd,R',by simpa using q,E⟩
 | false=>exact D0 ⟨ρ',P,Dd,R',by simpa using q,E⟩⟩
def A1w (i:Nat) (te:DE)  (D:X1) (ρ:List Sl):Prop:=te ρ λd ρ'=>D.nx (ρ'.set i (.sh d))
theorem G1 {i:Nat} (hp:PS X st (A6v (eOf C te) (l6 i))):PS X st (sOf C (A1w i te)):=PS.wk hp λ_ _ _ zz28=>el3 zz28 fun ρ P _ R ht E=>⟨ρ,P,_,R,ht,λv d ρ' H' zz29 q=>zz29.elim λcol r=>E.nx _ _ _ ⟨col,((r.store (i:=i) (r.pd _ D4)).sub λ_ h=>C8 _ h)⟩ q⟩
def A1x (i:Nat) (tf:DF)  (D:X1) (ρ:List Sl):Prop:=tf ρ λds ρ'=>D.nx (ρ'.set i (.ow ds))
theorem A3v {i:Nat} (hp:PS X st (A6v (fOf C tf) (l6 i))):PS X st (sOf C (A1x i tf)):=PS.wk hp λ_ _ _ zz30=>el3 zz30 fun ρ P _ R ht E=>⟨ρ,P,_,R,ht,λp vs ds ρ' H1 zz31 hp q=>el2 zz31 λcol r t=>E.nx _ _ _ (r.own t hp) q⟩
theorem C6z {i n j:Nat} {it:DF} {tt:DT} (hn:n=j + 1) (hp:PS X st (λD σ H=>A4z (iOf C it) n j (λ_=>cOf C tt) (λ_=>eOf C te) σ H λv H1=>D.nx (σ.set i (some v)) H1)):PS X st (sOf C (A1x i (A0h j it tt te))):=
 PS.wk hp λ_ _ _ zz32=>el3 zz32 fun ρ P _ R ht E=>B2h hn ⟨ρ,P,_,R,ht,λp vs ds ρ' H1 zz33 hp q=>el2 zz33 λcol r t=>E.nx _ _ _ (r.own t hp) q⟩
theorem C60 {i n j:Nat} {it:DF} {tt:DT} (hn:n=j + 1) (hp:PS X st (λD σ H=>A4z (iOf C it) n j (λ_=>cOf C tt) (λ_=>eOf C te) σ H λv H1=>D.nx (σ.set i (some v)) H1)):PS X st (sOf C (A1w i (dF (A0h j it tt te)))):=
 PS.wk hp λ_ _ _ zz34=>el3 zz34 fun ρ P _ R ht E=>B2h hn ⟨ρ,P,_,R,ht,λp vs ds ρ' H1 zz35 hp q=>el2 zz35 λcol r t=>E.nx _ _ _ ⟨col,(((r.lst t hp).store (i:=i) ((r.lst t hp).pd _ D4)).sub λ_ h=>C8 _ h)⟩ q⟩
def A1y (i:Nat) (te:DE)  (D:X1) (ρ:List Sl):Prop:=match ρ[i]? with
 | some (.ow _)=>te ρ λd ρ'=>match ρ'[i]? with
  | some (.ow ds)=>ds.length<=1000/\D.nx (ρ'.set i (.ow (ds++[d])))
  | _=>False
 | _=>False
theorem A9i {i:Nat} {K:B0} (hp:PS X st (B1d (tBM K "list" B7c (W1 i) (W6 (eOf C te) V1)))):PS X st (sOf C (A1y i te)):=PS.wk hp λD σ H zz36=>el3 zz36 fun ρ P Dd zz37 ht E=>zz37.elim λcol r=>by
 unfold A1y at ht
 split at ht
 ·rename_i ds0 e0
  obtain⟨a,vs,e1,c,n,e2,t⟩:=r.sl i _ e0
  refine⟨.ref a,M6 e1,.inl ⟨rfl,vs,SqL.of e2⟩,ρ,P,_,⟨col,r⟩,ht,λv d ρ' H' zz38 q=>zz38.elim λcol' r'=>?_⟩
  split at q
  ·rename_i ds e0'
   obtain⟨a',vs',e1',c',n',e2',t'⟩:=r'.sl i _ e0'
   rw[e1] at e1'
   cases e1'
   exact⟨a,vs',v,rfl,rfl,e2',by rw[t'.len];exact A8x q.1,E.nx _ _ _ ⟨col',((r'.write e0' e1 (t'.snoc (r'.pd _ D4)))).sub λ_ h=>C8 _ h⟩ q.2⟩
  ·exact q.elim
 ·exact ht.elim
def A3w (i:Nat) (te tk:DE)  (D:X1) (ρ:List Sl):Prop:=te ρ λd ρ1=>match ρ1[i]? with
 | some (.ow _)=>tk ρ1 λk ρ2=>match ρ2[i]? with
  | some (.ow ds)=>match k with
   | .int k=>bnd (ixN ds.length k) λj=>D.nx (ρ2.set i (.ow (ds.set j d)))
   | _=>False
  | _=>False
 | _=>False
theorem A9.set {F:Addr->Prop} {H:Hp} {v:V} {d:PyData} (x:ThV F H v d):∀{vs:List V} {ds:List PyData} (j:Nat),A9 F H vs ds->A9 F H (vs.set j v) (ds.set j d)
 | _,_,_,.nil=>.nil
 | _,_,0,.cons _ t=>.cons x t
 | _,_,j + 1,.cons y t=>.cons y (A9.set x j t)
theorem A7c {i:Nat} {tk:DE} (hp:PS X st (A6v (eOf C te) (B6e (W1 i) (eOf C tk) B67))):PS X st (sOf C (A3w i te tk)):=PS.wk hp λD σ H zz39=>el3 zz39 fun ρ P Dd R ht E=>⟨ρ,P,_,R,ht,λv d ρ1 H1 zz40 q1=>zz40.elim λcol1 r1=>by
 split at q1
 ·rename_i ds0 e0
  obtain⟨a,vs,e1,c,n,e2,t⟩:=r1.sl i _ e0
  refine⟨.ref a,M6 e1,ρ1,_,_,⟨col1,r1⟩,q1,λw k ρ2 H2 zz41 q2=>zz41.elim λcol2 r2=>?_⟩
  split at q2
  ·rename_i ds e0'
   cases k with
   | int k'=>
    obtain⟨j,hj,q⟩:=M3 q2
    obtain⟨a',vs',e1',c',n',e2',t'⟩:=r2.sl i _ e0'
    rw[e1] at e1'
    cases e1'
    have tw:ThV (Z col2) H2 w (.int k'):=r2.pd _ D4
    cases tw
    refine⟨a,vs',k',j,rfl,rfl,e2',by rw[t'.len];exact hj,E.nx _ _ _ ⟨col2,((r2.write e0' e1 (A9.set (r2.pd (.v v d) (C8 _ D4)) j t'))).sub λ_ h=>C8 _ (C8 _ h)⟩ q⟩
   | _=>exact q2.elim
  ·exact q2.elim
 ·exact q1.elim⟩
abbrev DG:=PyData->List Sl->(List Sl->Prop)->Prop
def gOf (C:DC) (g:DG):TG:=λv σ H Q=>∃ρ P d Qd,Rel C ρ σ (.v v d::P) H/\g d ρ Qd/\∀ρ' σ',Rel C ρ' σ' P H->Qd ρ'->Q σ' H
theorem PG.wk {tg:Expr} {g g':TG} (h:PG X tg g) (f:∀v σ H Q,g' v σ H Q->g v σ H Q):PG X tg g':=λpins s σ H v u Q I r q=>h pins s σ H v u Q I r (f v σ H Q q)
def gN (i:Nat)  (d:PyData) (ρ:List Sl) (Q:List Sl->Prop):Prop:=Q (ρ.set i (.sh d))
theorem A9j {tg:Expr} {i:Nat} (h:PG X tg (l6 i)):PG X tg (gOf C (gN i)):=PG.wk h λ_ _ _ _ ⟨_,_,_,_,⟨col,r⟩,ht,k⟩=>k _ _ ⟨col,((r.store (i:=i) (r.pd _ D4)).sub λ_ h=>C8 _ h)⟩ ht
def gT2 (i j:Nat)  (d:PyData) (ρ:List Sl) (Q:List Sl->Prop):Prop:=match d with
 | .tuple [a,b]=>Q ((ρ.set i (.sh a)).set j (.sh b))
 | _=>False
theorem B8g {tg:Expr} {i j:Nat} {K:B0} (h:PG X tg (B6d K 2 (B1f (l6 i) (B1f (l6 j) B6c)))):PG X tg (gOf C (gT2 i j)):=PG.wk h λv σ H Q ⟨ρ,P,d,Qd,⟨col,r⟩,ht,k⟩=>by
 unfold gT2 at ht
 split at ht
 ·rename_i a b
  have z:ThV (Z col) H v (.tuple [a,b]):=r.pd _ D4
  cases z with
  | tup za e t=>
   obtain⟨x,y,rfl,t1,t2⟩:=Q1 t
   exact⟨_,_,rfl,SqT.of e,rfl,x,[y],rfl,y,[],rfl,rfl,k _ _ ⟨col,(((r.store (i:=i) t1).store (i:=j) t2).sub λ_ h=>C8 _ h)⟩ ht⟩
 ·exact ht.elim
def Blk (t:DS) (D:X1) (ρ:List Sl):Prop:=t D ρ
def B2k (it:DF) (g:DG) (tb:DS) (D:X1) (ρ:List Sl):Prop:=it ρ λxs ρ1=>∃I:List PyData->List Sl->Prop,I xs ρ1/\(∀x r ρ,I (x::r) ρ->g x ρ (Blk tb { nx:=I r,ct:=I r,bk:=D.nx,rt:=D.rt }))/\∀ρ,I [] ρ->D.nx ρ
theorem A47 {it:DF} {g:DG} {tb:DS} (hp:PS X st (B6j (iOf C it) (gOf C g) (sOf C tb))):PS X st (sOf C (B2k it g tb)):=PS.wk hp λD σ H zz46=>el3 zz46 fun ρ P Dd R ht E=>⟨ρ,P,_,R,ht,λxs ρ1 P1 H1 J R1 s1 io q=>by
 obtain⟨I,q0,qs,qd⟩:=q
 refine⟨λi m σ' H'=>m=xs.length - i/\i<=xs.length/\∃ρ',Rel C ρ' σ' P1 H'/\I (xs.drop i) ρ',⟨xs.length,by simp,J7 _,ρ1,R1,q0⟩,?_⟩
 rintro i m σ2 H2 ⟨rfl,hi,ρ2,R2,q2⟩
 by_cases hlt:i < xs.length
 ·rw[A6h hlt] at q2
  refine .inr ⟨io.go (λ_ h=>h) R2 hlt,fun σ' H'=>∃ρ',Rel C ρ' σ' P1 H'/\I (xs.drop (i + 1)) ρ',fun σ' H' h=>⟨xs.length - (i + 1),by lia,rfl,hlt,h⟩,λx H3 y=>?_⟩
  refine⟨ρ2,P1,_,_,io.yld (λ_ h=>h) R2 (M9 hlt) y,qs _ _ _ q2,fun ρ3 σ3 R3 q3=>?_⟩
  refine⟨ρ3,P1,⟨I (xs.drop (i + 1)),Dd.rt,Dd.nx,I (xs.drop (i + 1)),λ_=>False⟩,R3,q3,⟨fun ρ4 σ4 H4 R4 q4=>⟨ρ4,R4,q4⟩,λv d ρ4 σ4 H4 R4 q4=>E.rt v d ρ4 σ4 H4 (R4.sub (B74 s1)) q4,fun ρ4 σ4 H4 R4 q4=>E.nx ρ4 σ4 H4 (R4.sub s1) q4,fun ρ4 σ4 H4 R4 q4=>⟨ρ4,R4,q4⟩,λ_ _ _ _ _ _ _ _ h=>h.elim⟩⟩
 ·have e:i=xs.length:=by lia
  subst e
  rw[B50] at q2
  exact .inl ⟨io.stop (λ_ h=>h) R2,E.nx _ _ _ (R2.sub s1) (qd _ q2)⟩⟩
def A7d (c:DT) (tb:DS)  (D:X1) (ρ:List Sl):Prop:=∃W:Nat->List Sl->Prop,(∃m,W m ρ)/\∀m ρ,W m ρ->c ρ λb ρ1=>if b=true then Blk tb { nx:=fun ρ'=>∃m',m' < m/\W m' ρ',ct:=fun ρ'=>∃m',m' < m/\W m' ρ',bk:=D.nx,rt:=D.rt } ρ1 else D.nx ρ1
theorem A9k {tb:DS} (hp:PS X st (B1g (cOf C c) (sOf C tb))):PS X st (sOf C (A7d c tb)):=PS.wk hp λD σ H ⟨ρ,P,Dd,R,⟨W,⟨m0,w0⟩,turn⟩,E⟩=>by
 refine⟨λm σ' H'=>∃ρ',Rel C ρ' σ' P H'/\W m ρ',⟨m0,ρ,R,w0⟩,?_⟩
 rintro m σ1 H1 ⟨ρ1,R1,w1⟩
 refine⟨ρ1,P,_,R1,turn m ρ1 w1,λb ρ2 H2 R2 q2=>?_⟩
 cases b with
 | true=>
  refine F5 ⟨fun σ' H'=>∃ρ',Rel C ρ' σ' P H'/\∃m',m' < m/\W m' ρ',fun σ' H' zz48=>zz48.elim fun ρ' zz49=>zz49.elim λR' zz50=>zz50.elim λm' zz51=>zz51.elim λhm w=>⟨m',hm,ρ',R',w⟩,ρ2,P,⟨fun ρ'=>∃m',m' < m/\W m' ρ',Dd.rt,Dd.nx,fun ρ'=>∃m',m' < m/\W m' ρ',λ_=>False⟩,R2,by simpa [Blk] using q2,⟨fun ρ4 σ4 H4 R4 q4=>⟨ρ4,R4,q4⟩,E.rt,fun ρ4 σ4 H4 R4 q4=>E.nx ρ4 σ4 H4 R4 q4,fun ρ4 σ4 H4 R4 q4=>⟨ρ4,R4,q4⟩,λ_ _ _ _ _ _ _ _ h=>h.elim⟩⟩
 | false=>exact D0 (E.nx _ _ _ R2 (by simpa using q2))
end
open PySem.Spec PyProof.Rows
def Z8:Md->PyData->Sl
 | .sh,d=>.sh d
 | .bo,.list ds=>.bo ds
 | .bo,_=>.no
 | .hd,_=>.hd
 | .b2,d=>match B2b d with
  | some dss=>.b2 dss
  | none=>.no
 | .bd,d=>.bd d
theorem B8h:∀dss:List (List PyData),A1u (lls dss)=some dss
 | []=>rfl
 | ds::dss=>by
  show (A1u (lls dss)).map (ds::·)=some (ds::dss)
  rw[B8h dss];rfl
theorem C61 (dss:List (List PyData)):Z8 .b2 (.list (lls dss))=.b2 dss:=by
 show (match A1u (lls dss) with
  | some dss=>Sl.b2 dss
  | none=>.no)=_
 rw[B8h]
def A1z (n:Nat):List Md->List PyData->List Sl
 | m::ms,d::ds=>Z8 m d::A1z (n - 1) ms ds
 | _,_=>E5 n .no
def j0:List Str->List Md->List PyData->List Sl
 | [],_,_=>[]
 | _::N,ms,ds=>(match ms,ds with
  | m::_,d::_=>Z8 m d
  | _,_=>.no)::j0 N ms.tail ds.tail
theorem B8i:∀N:List Str,j0 N [] []=E5 N.length .no
 | []=>rfl
 | _::N=>by
  show Sl.no::j0 N [] []=_
  rw[B8i N];rfl
theorem B8j:∀{N:List Str} {ms:List Md} {ds:List PyData},ms.length<=N.length->ds.length=ms.length->j0 N ms ds=A1z N.length ms ds
 | N,[],[],_,_=>B8i N
 | _::N,m::ms,d::ds,h1,h2=>by
  show Z8 m d::j0 N ms ds=Z8 m d::A1z (N.length + 1 - 1) ms ds
  rw[B8j (by simpa using h1) (by simpa using h2)];rfl
 | [],_::_,_,h,_=>by simp at h
 | _,[],_::_,_,h=>by simp at h
 | _,_::_,[],_,h=>by simp at h
section
variable {P:Program} {w:World} {K:B0} {mg:Str->Option Value} {base:Heap}
theorem C62 {C:DC} {col:Addr->Nat} {H:Hp} {F:Addr->Prop} {hand:Option (Addr×Addr)} (hC:C.hand=hand) (hH:C.H0=H) (f:∀b,F b->col b=0) (lo:∀b,col b<=1) {ms:List Md} {vs:List V} {ds:List PyData} {n:Nat} (ar:X9 F hand H ms vs ds) :
  ∀(i:Nat) (s:Sl),(A1z n ms ds)[i]?=some s->∀j:Nat,SlR C col H j ((vs.map some++E5 (n - vs.length) none)[i]?).join s:=by
 induction ar generalizing n with
 | nil=>
  intro i s e j
  have e':(E5 n Sl.no)[i]?=some s:=e
  rw[B5w] at e'
  split at e'
  ·cases e';trivial
  ·cases e'
 | @cons m v d ms vs ds a t ih=>
  intro i s e j
  have e':(Z8 m d::A1z (n - 1) ms ds)[i]?=some s:=e
  cases i with
  | zero=>
   cases e'
   show SlR C col H j (some v) (Z8 m d)
   have mv0:∀b o,F b->H b=some o->Z col b/\H b=some o:=λb o z e=>⟨f b z,e⟩
   cases m with
   | sh=>exact⟨v,rfl,ThV.mv mv0 a⟩
   | bo=>
    obtain⟨ad,us,es,rfl,rfl,nh,e2,t2⟩:=a
    exact⟨ad,us,rfl,lo ad,by rw[hC];exact nh,e2,A9.mv mv0 t2⟩
   | hd=>
    obtain⟨q,hq,rfl⟩:=a
    exact⟨q,hC.trans hq,rfl⟩
   | b2=>
    obtain⟨ad,as,dss,rfl,rfl,nh,e2,t2⟩:=a
    rw[C61]
    exact⟨ad,as,rfl,⟨lo ad,by rw[hC];exact nh⟩,e2,t2.mv mv0 λb o g e=>⟨⟨lo b,by rw[hC];exact g⟩,e⟩⟩
   | bd=>exact⟨v,rfl,ThV.mv (λb o g e=>⟨⟨(by rw[hH,e];exact λq=>nomatch q),by rw[hC];exact g⟩,by rw[hH];exact e⟩) a⟩
  | succ i=>
   have:=ih (n:=n - 1) i s e' j
   rw[O9,A0t,A6i,G6,show n - (vs.length + 1)=n - 1 - vs.length by lia]
   exact this
theorem C63 {F:Addr->Prop} {hand:Option (Addr×Addr)} {H:Hp} {ms:List Md} {vs:List V} {ds:List PyData} {n:Nat} (a:X9 F hand H ms vs ds) (h:ms.length<=n):(A1z n ms ds).length=n:=by
 induction a generalizing n with
 | nil=>show (E5 n Sl.no).length=n;rw[A1g]
 | @cons m v d ms vs ds a t ih=>
  show (Z8 m d::A1z (n - 1) ms ds).length=n
  rw[G6] at h
  rw[G6,ih (by lia)]
  lia
open Classical in
theorem G5 {x qual:Str} {st:Stmt} {f:Addr} {fd:FuncData} {N ps:List Str} {k:Nat} {sp:DSp} {ms:List Md} (F:Fun K x qual st f fd) (S:D2 N ps (B6 st)) (hm:ms.length=ps.length)
  (hb:∀(C:DC) (cdv:Value) (A:Around) (outer:List Env) (s:Shared) (H:Hp) (E:XK),N9 k (A.deeper (envOfC qual (B6 st) s.heap.objs.size f cdv))->
   ∃t,PSs (N1 CX0 P w K mg base N qual (B6 st) f cdv A outer s H E).nox (A00 st) (sOf C t)/\∀ds Q,ds.length=ms.length->sp ds Q->t { nx:=λ_=>Q .none,rt:=Q } (j0 N ms ds)) :
  C0 P w K mg base CX0 (k + 1) f fd ps (spD ms sp):=by
 refine F.ok S (λvs H Q E h=>?_) (λcdv A outer s H vs Q E hr h=>?_)
 ·obtain⟨_,_,_,_,_,_,_,a,_⟩:=h
  rw[a.len.1,hm]
 ·obtain⟨G,hand,ds,Qd,h1,h2,h3,a,h4,h5⟩:=h
  obtain⟨t,ht,q⟩:=hb ⟨G,hand,H⟩ cdv A outer s H E hr
  have hN:ps.length<=N.length:=by have:=congrArg A6b S.pre;rw[b4] at this;lia
  let col:Addr->Nat:=λb=>if G b then 0 else 1
  have c0:∀b,G b->col b=0:=λb hb=>if_pos hb
  have c1:∀b,¬ G b->col b=1:=λb hb=>if_neg hb
  have lo:∀b,col b<=1:=λb=>by
   by_cases z:G b
   ·rw[c0 b z];lia
   ·rw[c1 b z];lia
  refine⟨_,ht,A1z N.length ms ds,[],⟨λ_=>Qd .none,Qd,λ_=>False,λ_=>False,λ_=>False⟩,⟨col,λb hb=>c0 b (h1.1 b hb),λb hb=>?_,λq hq=>c1 _ (h2 q hq),λi s e=>C62 (C:=⟨G,hand,H⟩) rfl rfl c0 lo a i s e i,λp hp=>(nomatch hp),Kq.refl,h3,h3,h1,?_⟩,by rw[<-B8j (by lia) a.len.2];exact q ds Qd a.len.2 h4,⟨fun ρ σ H' R h=>?_,λv d ρ σ H' R h=>?_,λ_ _ _ _ h=>h.elim,λ_ _ _ _ h=>h.elim,λ_ _ _ _ _ _ _ _ h=>h.elim⟩⟩
  ·by_cases z:G b
   ·exact z
   ·rw[c1 b z] at hb;cases hb
  ·rw[C63 a (by lia)]
   unfold L2.start
   rw[P0,C1,A1g,a.len.1]
   lia
  ·obtain⟨col',r⟩:=R
   exact h5 _ _ _ h .non r.kq r.hq
  ·obtain⟨col',r⟩:=R
   exact h5 _ _ _ h (ThV.mv (λb o z e=>⟨r.inF b z,e⟩) (r.pd _ D4)) r.kq r.hq
open Classical in
end
end My
namespace My
open PySem L2
section
variable {X:Cx} {C:DC} {tg e a b:Expr} {t ta tb:DE} {u:DF} {pos:Pos}
def A0j:List PyData->Option (List Int)
 | []=>some []
 | .int b::r=>(A0j r).map (b::·)
 | _::_=>none
theorem B2l {F:Addr->Prop} {H:Hp} {ds:List PyData} {vs:List V} {bs:List Int} (t:A9 F H vs ds) (h:A0j ds=some bs):vs=bs.map V.int:=by
 induction ds generalizing vs bs with
 | nil=>cases t;cases h;rfl
 | cons d r ih=>
  cases t with
  | cons x y=>
   cases x with
   | int b=>
    have h':(A0j r).map (b::·)=some bs:=h
    cases q:A0j r with
    | none=>rw[q] at h';cases h'
    | some cs=>
     rw[q] at h'
     cases h'
     rw[ih y q];rfl
   | _=>cases h
theorem A7e:∀ns:List Int,A0j (ns.map PyData.int)=some ns
 | []=>rfl
 | n::ns=>by
  show (A0j (ns.map PyData.int)).map (n::·)=some (n::ns)
  rw[A7e ns];rfl
def gIn (neg:Bool)  (a b:PyData) (Q:PyData->Prop):Prop:=match a,b with
 | .int i,.list xs=>bnd (A0j xs) λns=>Q (.bool (if neg then !(ns.contains i) else ns.contains i))
 | _,_=>False
theorem B8k (i:Int):∀ns:List Int,inV (V.int i) (ns.map V.int)=ns.contains i
 | []=>rfl
 | n::ns=>by
  have:=B8k i ns
  unfold inV at this ⊢
  rw[O9,A2e,this,List.contains_cons]
  congr 1
  show (n == i)=(i == n)
  exact Bool.beq_comm
theorem B8l:∀ns:List Int,(ns.map V.int).all A0z=true
 | []=>rfl
 | n::ns=>by rw[O9,List.all_cons,B8l ns];rfl
theorem C64 {K:B0} {neg:Bool}:T1 C (rIn K neg) (gIn neg):=by
 intro ρ σ P H v w a b Qd Q R hg k
 unfold gIn at hg
 split at hg
 ·obtain⟨ns,hn,q⟩:=M3 hg
  obtain⟨col,r,t1,t2⟩:=th2 R
  cases t1
  cases t2 with
  | lst za e t=>
   have z:=B2l t hn
   subst z
   refine⟨_,_,rfl,.inl (SqL.of e),rfl,B8l ns,k _ _ _ ⟨col,r.push ?_⟩ q⟩
   rw[B8k]
   exact .bl _
 ·exact hg.elim
def A3x (i:Nat) (tk:DE)  (ρ:List Sl) (Q:PyData->List Sl->Prop):Prop:=bnd (S7 ρ i) λa0=>bnd (Q7 a0) λ_=>tk ρ λk ρ2=>match k with
 | .int k=>bnd (S7 ρ2 i) λa=>bnd (Q7 a) λxs=>bnd (A0j xs) λns=>(k∈ns/\ns.length<=100000)/\Q (.int (ns.idxOf k:Nat)) ρ2
 | _=>False
theorem B8m {i:Nat} {K:B0} (h:PE X e (tBM K "list" (B7s K) (W1 i) (W6 (eOf C t) V1))):PE X e (eOf C (A3x i t)):=PE.wk h fun σ H Q zz1=>el3 zz1 fun ρ P Qd zz2 ht k=>zz2.elim λcol0 r0=>by
 obtain⟨a0,h0,ht⟩:=M3 ht
 obtain⟨xs0,hx0,ht⟩:=M3 ht
 have:=A3p hx0
 subst this
 obtain⟨v,ev,t0⟩:=r0.slot h0
 obtain⟨a,vs,rfl,e0,_⟩:=t0.lst
 refine⟨_,ev,.inl ⟨rfl,vs,SqL.of e0⟩,ρ,P,_,⟨col0,r0⟩,ht,λw d ρ2 H2 R2 h2=>?_⟩
 split at h2
 ·rename_i kk
  obtain⟨a1,h1,h2⟩:=M3 h2
  obtain⟨xs,hx,h2⟩:=M3 h2
  obtain⟨ns,hn,⟨hk,hz⟩,q⟩:=M3 h2
  have:=A3p hx
  subst this
  obtain⟨col,r⟩:=R2
  obtain⟨v',ev',t1⟩:=r.slot h1
  rw[ev] at ev'
  cases ev'
  obtain⟨a',vs',e',e1,t1⟩:=t1.lst
  cases e'
  have z:=B2l t1 hn
  subst z
  have tw:ThV (Z col) H2 w (.int kk):=r.pd _ D4
  cases tw
  exact⟨a,ns,kk,rfl,rfl,SqL.of e1,hk,hz,k _ _ _ _ ⟨col,(r.sub λ_ h=>C8 _ h).push (.int _)⟩ q⟩
 ·exact h2.elim
def A3y (t:DE)  (ρ:List Sl) (Q:List PyData->List Sl->Prop):Prop:=t ρ λd ρ'=>bnd (Q7 d) λxs=>Q xs.reverse ρ'
theorem A9.rev {F:Addr->Prop} {H:Hp} {vs:List V} {ds:List PyData} (t:A9 F H vs ds):A9 F H vs.reverse ds.reverse:=by
 induction vs generalizing ds with
 | nil=>cases t;exact .nil
 | cons v vs ih=>
  cases t with
  | cons x t=>
   rw[A78,A78]
   exact (ih t).append (.cons x .nil)
theorem C65 {K:B0} (h:PE X e (fun σ H Q=>W6 (eOf C t) V1 σ H λvs H1=>∃a xs,vs=[.ref a]/\SqL K H1 a xs/\∀p,H1 p=none->Q (.ref p) (upd H1 p (.lst xs.reverse)))):PE X e (fOf C (A3y t)):=PE.wk h λ_ _ _ zz3=>el3 zz3 fun ρ P _ R ht k=>⟨ρ,P,_,R,ht,λv d ρ' H' zz4 q=>zz4.elim λcol r=>by
 obtain⟨xs,hx,q⟩:=M3 q
 have:=A3p hx
 subst this
 obtain⟨a,vs,rfl,e,t⟩:=Red.lst (.th (r.pd _ D4))
 exact⟨a,vs,rfl,SqL.of e,λp hp=>k _ _ _ _ _ ⟨col,r.sub λ_ h=>C8 _ h,t.rev⟩ hp q⟩⟩
theorem C66 {K:B0} {a:Addr} {vs:List V} {xs:List PyData} {P:List Pe}:A7a C (Itv K a vs.length) xs.reverse (.n a (.lst vs)::.s vs xs::P) where
 go:=λ{i ρ σ P' H} s R hi=>by
  obtain⟨col,r⟩:=R
  have h1:=r.pd _ (s _ D4)
  have h2:A9 (Z col) H vs xs:=r.pd _ (s _ (C8 _ D4))
  have hl:=h2.len
  rw[b5] at hi
  exact⟨vs,vs.reverse[i]'(by rw[b5];lia),SqL.of h1.2.2,rfl,M9 _⟩
 yld:=λ{i ρ σ P' H H' x d} s R hi y=>by
  obtain⟨e,y⟩:=y
  subst e
  obtain⟨col,r⟩:=R
  have h1:=r.pd _ (s _ D4)
  have h2:A9 (Z col) H' vs xs:=r.pd _ (s _ (C8 _ D4))
  have hx:=y vs (SqL.of h1.2.2)
  obtain⟨d',e1,t⟩:=h2.rev.get hx
  rw[hi] at e1
  cases e1
  exact⟨col,r.push t⟩
 stop:=λ{ρ σ P' H} s R=>by
  obtain⟨col,r⟩:=R
  have h2:A9 (Z col) H vs xs:=r.pd _ (s _ (C8 _ D4))
  have hl:=h2.len
  show vs.length<=xs.reverse.length
  rw[b5];lia
def B2m (t:DE)  (ρ:List Sl) (Q:List PyData->List Sl->Prop):Prop:=t ρ λd ρ'=>bnd (Q7 d) λxs=>Q xs.reverse ρ'
theorem C67 {K:B0} (h:PI X tg e (B7w K (W6 (eOf C t) V1))):PI X tg e (iOf C (B2m t)):=PI.wk h λ_ _ _ zz5=>el3 zz5 fun ρ P _ R ht k=>⟨ρ,P,_,R,ht,λv d ρ' H' zz6 q=>zz6.elim λcol r=>by
 obtain⟨xs,hx,q⟩:=M3 q
 have:=A3p hx
 subst this
 obtain⟨a,vs,rfl,za,e1,t1⟩:=K8 (show ThV (Z col) H' v (.list xs) from r.pd _ D4)
 refine⟨a,vs,rfl,SqL.of e1,k _ ρ' (.n a (.lst vs)::.s vs xs::P) H' _ ⟨col,?_⟩ (λ_ h=>C8 _ (C8 _ h)) C66 q⟩
 exact ((r.sub λ_ h=>C8 _ h).add (x:=.s vs xs) t1).add (x:=.n a (.lst vs)) ⟨by rw[show col a=0 from za];decide,r.notH (by rw[show col a=0 from za];decide),e1⟩⟩
theorem A10 {n j:Nat} {it:DF} {tt:DT} {te:DE} (hn:n=j + 1) (h:PE X e (A4z (iOf C it) n j (λ_=>cOf C tt) (λ_=>eOf C te))):PE X e (fOf C (A0h j it tt te)):=PE.wk h λ_ _ _ h=>B2h hn h
end
theorem C68 {α:Type} {x:α} {xs:List α}:atI (x::xs) 0=some x:=z4 (j:=0) rfl
theorem A48 {α:Type} {x:α}:atI [x] 0=some x:=rfl
theorem A49 {α:Type} {x y:α}:atI [x,y] 0=some x:=rfl
theorem A5a {α:Type} {x y:α}:atI [x,y] 1=some y:=rfl
theorem A5b {α:Type} {x y z:α}:atI [x,y,z] 0=some x:=rfl
theorem A5c {α:Type} {x y z:α}:atI [x,y,z] 1=some y:=rfl
theorem A5d {α:Type} {x y z:α}:atI [x,y,z] 2=some z:=rfl
theorem A5e {a b:Prop}:(if true=true then a else b)=a:=rfl
theorem A5f {a b:Prop}:(if false=true then a else b)=b:=rfl
theorem A5g {a b:Bool}:(if true=true then a else b)=a:=rfl
theorem A5h {a b:Bool}:(if false=true then a else b)=b:=rfl
theorem A5i {a b:Int}:(if true=true then a else b)=a:=rfl
theorem A5j {a b:Int}:(if false=true then a else b)=b:=rfl
theorem A5k {α:Type} {a:α} {Q:α->Prop}:bnd (some a) Q=Q a:=rfl
theorem A06 {α:Type} {te:DE} {ρ:List Sl} {Q:List PyData->Prop} {g f:α->PyData}:∀{xs:List α} {acc:List PyData},(∀x∈xs,∀Q':PyData->List Sl->Prop,Q' (f x) (ρ++[.sh (g x)])->te (ρ++[.sh (g x)]) Q')->Q (acc++xs.map f)->A1v B2g te ρ Q (xs.map g) acc
 | [],acc,_,q=>by
  have q':Q (acc++[]):=q
  rw[Y6] at q'
  exact q'
 | x::r,acc,h,q=>by
  refine⟨rfl,?_⟩
  rw[if_pos rfl]
  refine h x D4 _ ⟨rfl,A06 (λy hy=>h y (C8 _ hy)) ?_⟩
  rw[A6e]
  exact q
theorem B2n {α:Type} {tt:DT} {te:DE} {ρ:List Sl} {Q:List PyData->Prop} {g f:α->PyData} {p:α->Bool}:∀{xs:List α} {acc:List PyData},(∀x∈xs,∀Q':Bool->List Sl->Prop,Q' (p x) (ρ++[.sh (g x)])->tt (ρ++[.sh (g x)]) Q')->(∀x∈xs,p x=true->∀Q':PyData->List Sl->Prop,Q' (f x) (ρ++[.sh (g x)])->te (ρ++[.sh (g x)]) Q')->
  Q (acc++(xs.filter p).map f)->A1v tt te ρ Q (xs.map g) acc
 | [],acc,_,_,q=>by
  have q':Q (acc++[]):=q
  rw[Y6] at q'
  exact q'
 | x::r,acc,h1,h2,q=>by
  refine h1 x D4 _ ⟨rfl,?_⟩
  cases e:p x with
  | true=>
   rw[if_pos rfl]
   refine h2 x D4 e _ ⟨rfl,B2n (λy hy=>h1 y (C8 _ hy)) (λy hy=>h2 y (C8 _ hy)) ?_⟩
   rw[B51 e] at q
   rw[A6e]
   exact q
  | false=>
   rw[if_neg Q8]
   refine B2n (λy hy=>h1 y (C8 _ hy)) (λy hy=>h2 y (C8 _ hy)) ?_
   rw[B52 (by rw[e];exact Q8)] at q
   exact q
theorem B2o {xs:List PyData} {k:Nat}:i9 xs none (some ((k:Nat):Int))=xs.take k:=by
 unfold i9
 rw[HT.sIx_none,HT.sIx_nat,List.drop_zero,Nat.sub_zero]
 by_cases h:k<=xs.length
 ·rw[B03 h]
 ·rw[Nat.min_eq_right (by lia),B02 (E1 _),B02 (by lia)]
theorem C69 {xs:List PyData} {i j:Nat} (h1:i<=xs.length) (h2:j<=xs.length):i9 xs (some ((i:Nat):Int)) (some ((j:Nat):Int))=(xs.drop i).take (j - i):=by
 unfold i9
 rw[HT.sIx_nat,HT.sIx_nat,B03 h1,B03 h2]
section
variable {X:Cx} {C:DC}
end
theorem B8n {te:DE} {ρ:List Sl} {Q:List PyData->Prop} {R:PyData->Prop}:∀{xs acc:List PyData},(∀x∈xs,∀Q':PyData->List Sl->Prop,(∀d,R d->Q' d (ρ++[.sh x]))->te (ρ++[.sh x]) Q')->(∀ds:List PyData,ds.length=xs.length->(∀d∈ds,R d)->Q (acc++ds))->A1v B2g te ρ Q xs acc
 | [],acc,_,q=>by
  have q':=q [] rfl (λd hd=>nomatch hd)
  rw[Y6] at q'
  exact q'
 | x::r,acc,h,q=>by
  refine⟨rfl,?_⟩
  rw[if_pos rfl]
  refine h x D4 _ λd hd=>⟨rfl,B8n (λy hy=>h y (C8 _ hy)) λds hl hR=>?_⟩
  rw[A6e]
  refine q ([d]++ds) (by simp [hl]) λe he=>?_
  rcases V8.mp he with z | z
  ·have:e=d:=by simpa using z
   subst this;exact hd
  ·exact hR e z
section
variable {X:Cx} {C:DC}
open Classical in
end
def O6 (b:Nat×Int):PyData:=.tuple [.int (b.1:Nat),.int b.2]
section
variable {X:Cx} {C:DC} {e:Expr} {u:DF}
end
section
variable {X:Cx} {C:DC} {tg e:Expr} {t u:DE}
end
section
variable {X:Cx} {C:DC}
end
section
variable {X:Cx} {C:DC} {st:Stmt} {te:DE}
end
section
variable {X:Cx} {C:DC} {st:Stmt}
end
theorem Rws.mvm {G F G' F':Addr->Prop} {H H':Hp} {as:List Addr} {dss:List (List PyData)} (t:Rws G F H as dss) (f:∀b o,F b->H b=some o->F' b/\H' b=some o) (g:∀b o,b∈as->G b->H b=some o->G' b/\H' b=some o):Rws G' F' H' as dss:=by
 induction t with
 | nil=>exact .nil
 | cons x e y _ ih=>
  have:=g _ _ D4 x e
  exact .cons this.1 this.2 (y.mv f) (ih λb o hb=>g b o (C8 _ hb))
section
variable {C:DC} {col col':Addr->Nat} {ρ:List Sl} {σ σ':St} {P:List Pe} {H H':Hp} {p:Addr}
end
section
variable {X:Cx} {C:DC} {a b e:Expr} {pos:Pos}
end
section
variable {X:Cx} {C:DC} {e:Expr}
end
section
variable {X:Cx} {C:DC} {st:Stmt} {e:Expr} {te:DE} {pos:Pos} {u:DA}
end
section
variable {X:Cx} {C:DC} {e:Expr} {ta:DE}
end
end My
namespace My
abbrev Tb:=List (Option Int)
abbrev Rn:=List (Option Nat)
abbrev Wy:=Nat×Nat×Int
def K5 (st lv c:Int):Option Int:=if lv + c < 0 then none else some (if st < lv + c then st else lv + c)
def gt {α:Type} (t:List (Option α)) (p:Nat):Option α:=(t[p]?).join
def N3 (st:Int) (t:Tb) (w:Wy):Option Int:=match gt t w.1 with
 | none=>none
 | some l=>K5 st l w.2.2
def X2:Option Int->Option Int->Bool
 | none,_=>false
 | some _,none=>true
 | some a,some b=>decide (b < a)
def leO (a b:Option Int):Prop:=X2 a b=false
theorem S0 {a b:Int}:leO (some a) (some b)↔a<=b:=by unfold leO X2;simp
theorem A9l {b:Option Int}:leO none b:=rfl
theorem j1 {a:Int}:¬ leO (some a) none:=by unfold leO X2;simp
theorem A3z (a:Option Int):leO a a:=by
 cases a with
 | none=>rfl
 | some x=>exact S0.mpr (t8 x)
theorem A0k {a b c:Option Int} (h1:leO a b) (h2:leO b c):leO a c:=by
 cases a with
 | none=>rfl
 | some x=>
  cases b with
  | none=>exact absurd h1 j1
  | some y=>
   cases c with
   | none=>exact absurd h2 j1
   | some z=>exact S0.mpr (B04 (S0.mp h1) (S0.mp h2))
theorem C7a {a b:Option Int} (h1:leO a b) (h2:leO b a):a=b:=by
 cases a with
 | none=>cases b with
  | none=>rfl
  | some y=>exact absurd h2 j1
 | some x=>cases b with
  | none=>exact absurd h1 j1
  | some y=>rw[Int.le_antisymm (S0.mp h1) (S0.mp h2)]
theorem C7b {a b:Option Int} (h:X2 a b=true):leO b a:=by
 cases a with
 | none=>cases h
 | some x=>cases b with
  | none=>rfl
  | some y=>unfold X2 at h;exact S0.mpr (by have:=of_decide_eq_true h;lia)
theorem B2p {a b:Option Int} (h:X2 a b=true):¬ leO a b:=λz=>by unfold leO at z;rw[z] at h;cases h
theorem B2q {a b:Option Int}:X2 a b=true\/leO a b:=by
 cases e:X2 a b with
 | true=>exact .inl rfl
 | false=>exact .inr e
theorem B8o {st a b c:Int} (h:a<=b):leO (K5 st a c) (K5 st b c):=by
 unfold K5
 by_cases h1:a + c < 0
 ·rw[if_pos h1];rfl
 ·have h2:¬ b + c < 0:=by lia
  rw[if_neg h1,if_neg h2]
  apply S0.mpr
  split <;> split <;> lia
theorem B2r {st l c x:Int} (h0:0<=st) (h:K5 st l c=some x):0<=x/\x<=st:=by
 unfold K5 at h
 split at h
 ·cases h
 ·have:=Option.some.inj h
  subst this
  split <;> lia
def leT (t u:Tb):Prop:=∀p,leO (gt t p) (gt u p)
theorem B2s (t:Tb):leT t t:=λ_=>A3z _
theorem B8p {t u v:Tb} (a:leT t u) (b:leT u v):leT t v:=λp=>A0k (a p) (b p)
theorem C7c {st:Int} {t u:Tb} {w:Wy} (h:leT t u):leO (N3 st t w) (N3 st u w):=by
 have:=h w.1
 unfold N3
 cases e:gt t w.1 with
 | none=>rfl
 | some a=>
  rw[e] at this
  cases e2:gt u w.1 with
  | none=>rw[e2] at this;exact absurd this j1
  | some b=>rw[e2] at this;exact B8o (S0.mp this)
theorem C7d {st:Int} {t:Tb} {w:Wy} {x:Int} (h0:0<=st) (h:N3 st t w=some x):0<=x/\x<=st:=by
 unfold N3 at h
 split at h
 ·cases h
 ·exact B2r h0 h
structure F7 (m:Nat) (st:Int) (t:Tb):Prop where
 len:t.length=m
 bd:∀p x,gt t p=some x->0<=x/\x<=st
structure J6 (m:Nat) (ws:List Wy):Prop where
 m1:1<=m
 m2:m<=12
 few:ws.length<=40
 st:∀w∈ws,w.1 < m
 en:∀w∈ws,w.2.1 < m
 lo:∀w∈ws,-1000000000000000000<=w.2.2
 hi:∀w∈ws,w.2.2<=1000000000000000000
theorem A5l {α:Type} {t:List (Option α)} {p:Nat} (h:t.length<=p):gt t p=none:=by unfold gt;rw[A2f h];rfl
theorem A7f {α:Type} {t:List (Option α)} {p:Nat} (h:p < t.length):t[p]?=some (gt t p):=by unfold gt;rw[M9 h];rfl
theorem A30 {α:Type} {t:List (Option α)} {i j:Nat} {x:Option α} (h:i < t.length):gt (t.set i x) j=if i=j then x else gt t j:=by
 unfold gt
 rw[A1h]
 by_cases e:i=j
 ·rw[if_pos e,if_pos h,if_pos e];rfl
 ·rw[if_neg e,if_neg e]
theorem A5m {α:Type} {m p:Nat}:gt (E5 m (none:Option α)) p=none:=by
 unfold gt
 rw[B5w]
 split <;> rfl
theorem B8q {t u:Tb} (hl:t.length=u.length) (h:∀p,gt t p=gt u p):t=u:=by
 apply List.ext_getElem?
 intro i
 by_cases hi:i < t.length
 ·rw[A7f hi,A7f (by lia),h i]
 ·rw[A2f (by lia),A2f (by lia)]
theorem C7e {t u:Tb} (hl:t.length=u.length) (h1:leT t u) (h2:leT u t):t=u:=B8q hl λp=>C7a (h1 p) (h2 p)
def A11 (st:Int) (t:Tb) (acc:Tb×Rn) (p:Wy×Nat):Tb×Rn:=
 if X2 (N3 st t p.1) (gt acc.1 p.1.2.1)=true then (acc.1.set p.1.2.1 (N3 st t p.1),acc.2.set p.1.2.1 (some p.2)) else acc
def N7 (m:Nat) (ws:List Wy) (st:Int) (t s:Tb):Tb×Rn:=ws.zipIdx.foldl (A11 st t) (s,E5 m none)
structure A5n (m:Nat) (ws:List Wy) (st:Int) (t s:Tb) (L:List (Wy×Nat)) (acc:Tb×Rn):Prop where
 l1:acc.1.length=m
 l2:acc.2.length=m
 up:leT s acc.1
 no:∀p,gt acc.2 p=none->gt acc.1 p=gt s p
 yes:∀p n,gt acc.2 p=some n->∃w,ws[n]?=some w/\w.2.1=p/\gt acc.1 p=N3 st t w/\X2 (N3 st t w) (gt s p)=true
 top:∀q∈L,leO (N3 st t q.1) (gt acc.1 q.1.2.1)
theorem C7f {m:Nat} {ws:List Wy} {st:Int} {t s:Tb} {L:List (Wy×Nat)} {acc:Tb×Rn} (ok:J6 m ws) (I:A5n m ws st t s L acc) {q:Wy×Nat} (hq:ws[q.2]?=some q.1):A5n m ws st t s (L++[q]) (A11 st t acc q):=by
 have hw:q.1∈ws:=Q9 hq
 have he:q.1.2.1 < m:=ok.en _ hw
 unfold A11
 by_cases c:X2 (N3 st t q.1) (gt acc.1 q.1.2.1)=true
 ·rw[if_pos c]
  have g1:∀j,gt (acc.1.set q.1.2.1 (N3 st t q.1)) j=if q.1.2.1=j then N3 st t q.1 else gt acc.1 j:=λj=>A30 (by rw[I.l1];exact he)
  have g2:∀j,gt (acc.2.set q.1.2.1 (some q.2)) j=if q.1.2.1=j then some q.2 else gt acc.2 j:=λj=>A30 (by rw[I.l2];exact he)
  have hup:∀j,leO (gt acc.1 j) (gt (acc.1.set q.1.2.1 (N3 st t q.1)) j):=λj=>by
   rw[g1]
   by_cases e:q.1.2.1=j
   ·rw[if_pos e,<-e];exact C7b c
   ·rw[if_neg e];exact A3z _
  refine⟨by rw[W0];exact I.l1,by rw[W0];exact I.l2,λp=>A0k (I.up p) (hup p),λp hp=>?_,λp n hp=>?_,λr hr=>?_⟩
  ·rw[g2] at hp
   by_cases e:q.1.2.1=p
   ·rw[if_pos e] at hp;cases hp
   ·rw[if_neg e] at hp;rw[g1,if_neg e];exact I.no p hp
  ·rw[g2] at hp
   by_cases e:q.1.2.1=p
   ·rw[if_pos e] at hp
    cases hp
    refine⟨q.1,hq,e,by rw[g1,if_pos e],?_⟩
    rcases B2q (a:=N3 st t q.1) (b:=gt s p) with z | z
    ·exact z
    ·exact absurd (A0k z (I.up p)) (B2p (e▸c))
   ·rw[if_neg e] at hp;rw[g1,if_neg e];exact I.yes p n hp
  ·rcases V8.mp hr with hr | hr
   ·exact A0k (I.top r hr) (hup _)
   ·have:r=q:=by simpa using hr
    subst this
    rw[g1,if_pos rfl];exact A3z _
 ·rw[if_neg c]
  refine⟨I.l1,I.l2,I.up,I.no,I.yes,λr hr=>?_⟩
  rcases V8.mp hr with hr | hr
  ·exact I.top r hr
  ·have:r=q:=by simpa using hr
   subst this
   rcases B2q (a:=N3 st t r.1) (b:=gt acc.1 r.1.2.1) with z | z
   ·exact absurd z c
   ·exact z
theorem B8r {m:Nat} {ws:List Wy} {st:Int} {t s:Tb} (ok:J6 m ws):∀(R L:List (Wy×Nat)) (acc:Tb×Rn),A5n m ws st t s L acc->(∀q∈R,ws[q.2]?=some q.1)->A5n m ws st t s (L++R) (R.foldl (A11 st t) acc)
 | [],L,acc,I,_=>by rw[Y6];exact I
 | q::R,L,acc,I,h=>by
  have:=B8r ok R (L++[q]) _ (C7f ok I (h q D4)) λr hr=>h r (C8 _ hr)
  rw[A6e] at this
  exact this
theorem n6 {m:Nat} {ws:List Wy} {st:Int} {t s:Tb} (ok:J6 m ws) (hs:s.length=m):A5n m ws st t s ws.zipIdx (N7 m ws st t s):=by
 have h0:A5n m ws st t s [] (s,E5 m none):=⟨hs,by rw[A1g],B2s s,λ_ _=>rfl,λp n h=>(by rw[A5m] at h;cases h),λq hq=>(nomatch hq)⟩
 have:=B8r ok ws.zipIdx [] _ h0 λq hq=>by
  obtain⟨w,n⟩:=q
  rw[C2l] at hq
  exact hq
 rw[T9] at this
 exact this
theorem B8s {m:Nat} {ws:List Wy} {st:Int} {t s:Tb} (ok:J6 m ws) (hs:s.length=m) {w:Wy} (hw:w∈ws):leO (N3 st t w) (gt (N7 m ws st t s).1 w.2.1):=by
 obtain⟨n,hn,e⟩:=A6g.mp hw
 exact (n6 ok hs).top (w,n) (by rw[C2l];show ws[n]?=some w;rw[M9 hn,e])
theorem C7g {m:Nat} {ws:List Wy} {st:Int} {t s:Tb} (ok:J6 m ws) (h0:0<=st) (hs:F7 m st s):F7 m st (N7 m ws st t s).1:=by
 have I:=n6 (st:=st) (t:=t) ok hs.len
 refine⟨I.l1,λp x h=>?_⟩
 cases e:gt (N7 m ws st t s).2 p with
 | none=>rw[I.no p e] at h;exact hs.bd p x h
 | some n=>
  obtain⟨w,_,_,e2,_⟩:=I.yes p n e
  rw[e2] at h
  exact C7d h0 h
def A31 (ws:List Wy) (st:Int) (t:Tb):Prop:=∀w∈ws,leO (N3 st t w) (gt t w.2.1)
theorem C7h {m:Nat} {ws:List Wy} {st:Int} {t s L:Tb} (ok:J6 m ws) (hs:s.length=m) (h1:leT t L) (h2:leT s L) (c:A31 ws st L):leT (N7 m ws st t s).1 L:=λp=>by
 have I:=n6 (st:=st) (t:=t) ok hs
 cases e:gt (N7 m ws st t s).2 p with
 | none=>rw[I.no p e];exact h2 p
 | some n=>
  obtain⟨w,hw,e1,e2,_⟩:=I.yes p n e
  rw[e2,<-e1]
  exact A0k (C7c h1) (c w (Q9 hw))
structure N4 (m:Nat) (ws:List Wy) (st:Int) (b t:Tb):Prop where
 tab:F7 m st t
 up:leT b t
 cl:A31 ws st t
 le:∀L,F7 m st L->leT b L->A31 ws st L->leT t L
theorem N4.uniq {m:Nat} {ws:List Wy} {st:Int} {b t u:Tb} (h:N4 m ws st b t) (h':N4 m ws st b u):t=u:=C7e (h.tab.len.trans h'.tab.len.symm) (h.le u h'.tab h'.up h'.cl) (h'.le t h.tab h.up h.cl)
abbrev Rw:=Tb×Rn
def M4 (m:Nat) (ws:List Wy) (st:Int):Nat->Rw->List Rw
 | 0,r=>[r]
 | k + 1,r=>if (N7 m ws st r.1 r.1).1=r.1 then [r] else r::M4 m ws st k (N7 m ws st r.1 r.1)
inductive Rows (m:Nat) (ws:List Wy) (st:Int) (b:Tb):List Rw->Prop
 | one:Rows m ws st b [(b,E5 m none)]
 | more {r rs}:Rows m ws st b (r::rs)->(N7 m ws st r.1 r.1).1≠r.1->Rows m ws st b (N7 m ws st r.1 r.1::r::rs)
theorem B8t {m:Nat} {ws:List Wy} {st:Int} {b:Tb}:∀(k:Nat) (r:Rw) (rs:List Rw),Rows m ws st b (r::rs)->∃r' rs',(rs.reverse++M4 m ws st k r).reverse=r'::rs'/\Rows m ws st b (r'::rs')/\((N7 m ws st r'.1 r'.1).1=r'.1\/(r'::rs').length=rs.length + k + 1)
 | 0,r,rs,h=>⟨r,rs,by simp [M4],h,.inr (by simp)⟩
 | k + 1,r,rs,h=>by
  unfold M4
  by_cases c:(N7 m ws st r.1 r.1).1=r.1
  ·rw[if_pos c]
   exact⟨r,rs,by simp,h,.inl c⟩
  ·rw[if_neg c]
   obtain⟨r',rs',e,h',z⟩:=B8t k _ (r::rs) (.more h c)
   refine⟨r',rs',?_,h',?_⟩
   ·rw[<-e];simp
   ·rcases z with z | z
    ·exact .inl z
    ·refine .inr ?_
     rw[z,G6];lia
section
variable {m:Nat} {ws:List Wy} {st:Int} {b:Tb}
theorem Rows.ok (ok:J6 m ws) (h0:0<=st) (hb:F7 m st b):∀{r:Rw} {rs:List Rw},Rows m ws st b (r::rs)->F7 m st r.1/\r.2.length=m/\leT b r.1
 | _,_,.one=>⟨hb,by simp,B2s b⟩
 | _,_,.more (r:=r) h c=>by
  obtain⟨a1,_,a3⟩:=Rows.ok ok h0 hb h
  have I:=n6 (st:=st) (t:=r.1) ok a1.len
  exact⟨C7g ok h0 a1,I.l2,B8p a3 I.up⟩
theorem Rows.under (ok:J6 m ws) (hb:b.length=m) {L:Tb} (h1:leT b L) (c:A31 ws st L):∀{r:Rw} {rs:List Rw},Rows m ws st b (r::rs)->r.1.length=m/\leT r.1 L
 | _,_,.one=>⟨hb,h1⟩
 | _,_,.more (r:=r) h _=>by
  obtain⟨a1,a2⟩:=Rows.under ok hb h1 c h
  exact⟨(n6 (st:=st) (t:=r.1) ok a1).l1,C7h ok a1 a2 a2 c⟩
theorem Rows.least (ok:J6 m ws) (h0:0<=st) (hb:F7 m st b) {r:Rw} {rs:List Rw} (h:Rows m ws st b (r::rs)) (c:(N7 m ws st r.1 r.1).1=r.1):N4 m ws st b r.1:=by
 obtain⟨a1,_,a3⟩:=h.ok ok h0 hb
 refine⟨a1,a3,λw hw=>?_,λL _ h1 cl=>(h.under ok hb.len h1 cl).2⟩
 have:=B8s (st:=st) (t:=r.1) (s:=r.1) ok a1.len hw
 rw[c] at this
 exact this
end
abbrev Ef:=Option (Int×Int×Int)
def EOk (st:Int) (e:Int×Int×Int):Prop:=0<=e.1/\e.1<=st/\0<=e.2.2/\e.2.2<=st/\0<=e.1 + e.2.1/\e.2.2<=st + e.2.1
def K9 (e:Ef) (x:Int):Option Int:=match e with
 | none=>none
 | some (l,g,t)=>if x < l then none else some (if t < x + g then t else x + g)
def Y0 (a b:Ef):Ef:=match a,b with
 | some (l1,g1,t1),some (l2,g2,t2)=>if t1 < l2 then none else some (if l2 - g1 > l1 then l2 - g1 else l1,g1 + g2,if t2 < t1 + g2 then t2 else t1 + g2)
 | _,_=>none
theorem A5o {a b:Int×Int×Int} (h:¬ a.2.2 < b.1):Y0 (some a) (some b)=some (if b.1 - a.2.1 > a.1 then b.1 - a.2.1 else a.1,a.2.1 + b.2.1,if b.2.2 < a.2.2 + b.2.1 then b.2.2 else a.2.2 + b.2.1):=by
 obtain⟨l1,g1,t1⟩:=a
 obtain⟨l2,g2,t2⟩:=b
 unfold Y0
 simp only at h
 simp only[if_neg h]
theorem A7g {a b:Int×Int×Int} (h:a.2.2 < b.1):Y0 (some a) (some b)=none:=by
 obtain⟨l1,g1,t1⟩:=a
 obtain⟨l2,g2,t2⟩:=b
 unfold Y0
 simp only at h
 simp only[if_pos h]
theorem C7i {st:Int} {a b r:Int×Int×Int} (ha:EOk st a) (hb:EOk st b) (h:Y0 (some a) (some b)=some r):EOk st r:=by
 by_cases c:a.2.2 < b.1
 ·rw[A7g c] at h;cases h
 ·rw[A5o c] at h
  cases h
  obtain⟨l1,g1,t1⟩:=a
  obtain⟨l2,g2,t2⟩:=b
  obtain⟨h1,h2,h3,h4,h5,h6⟩:=ha
  obtain⟨i1,i2,i3,i4,i5,i6⟩:=hb
  simp only at h1 h2 h3 h4 h5 h6 i1 i2 i3 i4 i5 i6 c
  refine⟨?_,?_,?_,?_,?_,?_⟩ <;> dsimp only <;> (repeat' split) <;> lia
theorem C7j {a b r:Int×Int×Int} (h:Y0 (some a) (some b)=some r) (x:Int):K9 (some r) x=(K9 (some a) x).bind (K9 (some b)):=by
 by_cases c:a.2.2 < b.1
 ·rw[A7g c] at h;cases h
 ·rw[A5o c] at h
  cases h
  obtain⟨l1,g1,t1⟩:=a
  obtain⟨l2,g2,t2⟩:=b
  simp only at c
  unfold K9
  dsimp only
  by_cases c1:x < l1
  ·rw[if_pos c1,if_pos (by split <;> lia)]
   rfl
  ·rw[if_neg c1]
   show _=(if (if t1 < x + g1 then t1 else x + g1) < l2 then none else some (if t2 < (if t1 < x + g1 then t1 else x + g1) + g2 then t2 else (if t1 < x + g1 then t1 else x + g1) + g2))
   obtain⟨y,ey,y1,y2,y3⟩:∃y,(if t1 < x + g1 then t1 else x + g1)=y/\y<=t1/\y<=x + g1/\(y=t1\/y=x + g1):=⟨_,rfl,by split <;> lia,by split <;> lia,by split <;> lia⟩
   obtain⟨m,em,m1,m2,m3⟩:∃m,(if l2 - g1 > l1 then l2 - g1 else l1)=m/\l1<=m/\l2 - g1<=m/\(m=l1\/m=l2 - g1):=⟨_,rfl,by split <;> lia,by split <;> lia,by split <;> lia⟩
   obtain⟨n,en,n1,n2,n3⟩:∃n,(if t2 < t1 + g2 then t2 else t1 + g2)=n/\n<=t2/\n<=t1 + g2/\(n=t2\/n=t1 + g2):=⟨_,rfl,by split <;> lia,by split <;> lia,by split <;> lia⟩
   rw[ey,em,en]
   by_cases c2:x < m
   ·rw[if_pos c2,if_pos (show y < l2 by lia)]
   ·rw[if_neg c2,if_neg (show ¬ y < l2 by lia)]
    congr 1
    split <;> split <;> lia
def OkE (st:Int):Ef->Prop
 | none=>True
 | some e=>EOk st e
theorem OkE.join {st:Int} {a b:Ef} (ha:OkE st a) (hb:OkE st b):OkE st (Y0 a b):=by
 rcases a with _ | a
 ·exact trivial
 ·rcases b with _ | b
  ·exact trivial
  ·cases q:Y0 (some a) (some b) with
   | none=>exact trivial
   | some r=>exact C7i ha hb q
theorem C7k {st:Int} (h:0<=st):EOk st (0,0,st):=⟨t8 _,h,h,t8 _,by simp,by simp⟩
def j2 (st c:Int):Ef:=if st + c < 0 then none else some (if -c > 0 then -c else 0,c,if st + c < st then st + c else st)
def foF (st:Int) (w:Ef) (cs:List Int):Ef:=cs.foldl (λw c=>Y0 w (j2 st c)) w
def fxF (st:Int) (cs:List Int):Ef:=foF st (some (0,0,st)) cs
theorem C7l {st:Int} (h:0<=st) (c:Int):OkE st (j2 st c):=by
 unfold j2
 split
 ·exact trivial
 ·refine⟨?_,?_,?_,?_,?_,?_⟩ <;> dsimp only <;> (repeat' split) <;> lia
theorem B8u {st:Int} (h:0<=st):∀(cs:List Int) {w:Ef},OkE st w->OkE st (foF st w cs)
 | [],_,hw=>hw
 | c::cs,w,hw=>B8u h cs (hw.join (C7l h c))
theorem C7m {st:Int} (h:0<=st) (cs:List Int):OkE st (fxF st cs):=B8u h cs (C7k h)
theorem C7n (a b:Ef) (x:Int):K9 (Y0 a b) x=(K9 a x).bind (K9 b):=by
 rcases a with _ | a
 ·rfl
 ·rcases b with _ | b
  ·show none=(K9 (some a) x).bind (K9 none)
   cases K9 (some a) x <;> rfl
  ·by_cases c:a.2.2 < b.1
   ·rw[A7g c]
    obtain⟨l1,g1,t1⟩:=a
    obtain⟨l2,g2,t2⟩:=b
    simp only at c
    show none=_
    unfold K9
    dsimp only
    by_cases c1:x < l1
    ·rw[if_pos c1];rfl
    ·rw[if_neg c1]
     show none=if (if t1 < x + g1 then t1 else x + g1) < l2 then none else _
     rw[if_pos (by split <;> lia)]
   ·exact C7j (A5o c) x |>.symm▸(by rw[A5o c])
def wkF (st:Int) (o:Option Int) (cs:List Int):Option Int:=cs.foldl (λo c=>o.bind (λx=>K5 st x c)) o
theorem A9m (st:Int):∀cs:List Int,wkF st none cs=none
 | []=>rfl
 | _::cs=>A9m st cs
theorem C7o {st x c:Int} (h0:0<=x) (h1:x<=st):K9 (j2 st c) x=K5 st x c:=by
 unfold j2 K5
 by_cases d:st + c < 0
 ·rw[if_pos d,if_pos (by lia)]
  rfl
 ·rw[if_neg d]
  unfold K9
  dsimp only
  by_cases e:x + c < 0
  ·rw[if_pos e,if_pos (by split <;> lia)]
  ·rw[if_neg e,if_neg (by split <;> lia)]
   congr 1
   split <;> split <;> (try split) <;> lia
theorem B8v {st:Int} (h:0<=st) (x:Int):∀(cs:List Int) (w:Ef),(∀y,K9 w x=some y->0<=y/\y<=st)->K9 (foF st w cs) x=wkF st (K9 w x) cs
 | [],_,_=>rfl
 | c::cs,w,hw=>by
  have e:K9 (Y0 w (j2 st c)) x=(K9 w x).bind (λy=>K5 st y c):=by
   rw[C7n]
   cases q:K9 w x with
   | none=>rfl
   | some y=>exact C7o (hw y q).1 (hw y q).2
  show K9 (foF st (Y0 w (j2 st c)) cs) x=wkF st ((K9 w x).bind (λy=>K5 st y c)) cs
  rw[B8v h x cs _ ?_,e]
  intro y q
  rw[e] at q
  cases q2:K9 w x with
  | none=>rw[q2] at q;cases q
  | some z=>rw[q2] at q;exact B2r h q
theorem B8w {st x:Int} (h0:0<=x) (h1:x<=st):K9 (some (0,0,st)) x=some x:=by
 unfold K9
 dsimp only
 rw[if_neg (by lia)]
 congr 1
 split <;> lia
theorem A9n {st x:Int} (h0:0<=x) (h1:x<=st) (cs:List Int):K9 (fxF st cs) x=wkF st (some x) cs:=by
 unfold fxF
 rw[B8v (by lia) x cs _ ?_,B8w h0 h1]
 intro y q
 rw[B8w h0 h1] at q
 cases q
 exact⟨h0,h1⟩
theorem B8x {st:Int}:∀(cs:List Int) {w:Int×Int×Int} {r:Int×Int×Int},foF st (some w) cs=some r->r.2.1=w.2.1 + cs.sum
 | [],w,r,q=>by
  have q':some w=some r:=q
  cases q'
  simp
 | c::cs,w,r,q=>by
  have q':foF st (Y0 (some w) (j2 st c)) cs=some r:=q
  cases q2:Y0 (some w) (j2 st c) with
  | none=>
   rw[q2] at q'
   have:∀cs:List Int,foF st none cs=none:=by
    intro cs
    induction cs with
    | nil=>rfl
    | cons c cs ih=>exact ih
   rw[this] at q'
   cases q'
  | some a=>
   rw[q2] at q'
   rw[B8x cs q']
   have ga:a.2.1=w.2.1 + c:=by
    unfold j2 at q2
    split at q2
    ·cases q2
    ·by_cases d:w.2.2 < (if -c > 0 then -c else 0)
     ·rw[A7g (by exact d)] at q2;cases q2
     ·rw[A5o (by exact d)] at q2;cases q2;rfl
   rw[ga,B53]
   lia
theorem C7p {st:Int} {cs:List Int} {r:Int×Int×Int} (q:fxF st cs=some r):r.2.1=cs.sum:=by
 rw[B8x cs q]
 show 0 + cs.sum=cs.sum
 lia
def P5 (ws:List Wy) (n:Nat):Nat:=match ws[n]? with
 | some w=>w.1
 | none=>0
def A07 (ws:List Wy) (n:Nat):Nat:=match ws[n]? with
 | some w=>w.2.1
 | none=>0
def Y1 (ws:List Wy) (n:Nat):Int:=match ws[n]? with
 | some w=>w.2.2
 | none=>0
def wlk (ws:List Wy):List Rw->Nat->Nat×List Nat
 | [],p=>(p,[])
 | r::rs,p=>match gt r.2 p with
  | none=>wlk ws rs p
  | some n=>((wlk ws rs (P5 ws n)).1,(wlk ws rs (P5 ws n)).2++[n])
structure Wk (ws:List Wy) (st:Int) (b:Tb) (N:List Nat) (P:Nat->Nat) (L:Nat->Int):Prop where
 way:∀k n,N[k]?=some n->∃w,ws[n]?=some w/\w.1=P k/\w.2.1=P (k + 1)/\K5 st (L k) w.2.2=some (L (k + 1))
 beg:gt b (P 0)=some (L 0)
 rise:∀k,1<=k->k<=N.length->X2 (some (L k)) (gt b (P k))=true
 strict:∀i j,i < j->j<=N.length->P i=P j->L i < L j
theorem C7q {a b c:Option Int} (h:X2 a c=true) (z:leO b c):X2 a b=true:=by
 rcases B2q (a:=a) (b:=b) with q | q
 ·exact q
 ·exact absurd (A0k q z) (B2p h)
section
variable {m:Nat} {ws:List Wy} {st:Int} {b:Tb}
theorem B8y (ok:J6 m ws) (h0:0<=st) (hb:F7 m st b):∀{r:Rw} {rs:List Rw},Rows m ws st b (r::rs)->∀p,((rs=[]/\∃l,gt b p=some l)\/(∃n,gt r.2 p=some n))->
  ∃N P L,wlk ws (r::rs) p=(P 0,N)/\N.length=rs.length/\P N.length=p/\gt r.1 p=some (L N.length)/\Wk ws st b N P L/\∀k,k<=N.length->leO (some (L k)) (gt r.1 (P k))
 | _,_,.one,p,h=>by
  rcases h with ⟨_,l,hl⟩ | ⟨n,hn⟩
  ·refine⟨[],λ_=>p,λ_=>l,?_,rfl,rfl,hl,⟨λk n e=>by simp at e,hl,λk h1 h2=>?_,λi j h1 h2=>?_⟩,λk _=>by show leO (some l) (gt b p);rw[hl];exact A3z _⟩
   ·unfold wlk
    rw[A5m]
    rfl
   ·simp at h2;lia
   ·simp at h2;lia
  ·rw[A5m] at hn;cases hn
 | _,_,.more (r:=r) (rs:=rs) h c,p,hp=>by
  obtain⟨a1,_,a3⟩:=h.ok ok h0 hb
  have I:=n6 (st:=st) (t:=r.1) ok a1.len
  have hp':∃n,gt (N7 m ws st r.1 r.1).2 p=some n:=by
   rcases hp with ⟨z,_⟩ | z
   ·cases z
   ·exact z
  obtain⟨n,hn⟩:=hp'
  obtain⟨w,hw,e1,e2,e3⟩:=I.yes p n hn
  obtain⟨l,hl⟩:∃l,N3 st r.1 w=some l:=by
   cases q:N3 st r.1 w with
   | none=>rw[q] at e3;cases e3
   | some l=>exact⟨l,rfl⟩
  obtain⟨l',hl',hs⟩:∃l',gt r.1 w.1=some l'/\K5 st l' w.2.2=some l:=by
   have hl2:=hl
   unfold N3 at hl2
   split at hl2
   ·cases hl2
   ·rename_i l' e;exact⟨l',e,hl2⟩
  rw[hl] at e2 e3
  have hq:(rs=[]/\∃l,gt b w.1=some l)\/(∃n,gt r.2 w.1=some n):=by
   cases h with
   | one=>exact .inl ⟨rfl,l',hl'⟩
   | @more r0 rs0 h' c'=>
    obtain⟨b1,_,_⟩:=h'.ok ok h0 hb
    have I0:=n6 (st:=st) (t:=r0.1) ok b1.len
    cases e:gt (N7 m ws st r0.1 r0.1).2 w.1 with
    | some n'=>exact .inr ⟨n',rfl⟩
    | none=>
     have e4:=I0.no w.1 e
     have e5:N3 st r0.1 w=some l:=by
      unfold N3
      rw[<-e4,hl']
      exact hs
     have:=B8s (st:=st) (t:=r0.1) (s:=r0.1) ok b1.len (Q9 hw)
     rw[e5,e1] at this
     exact absurd this (B2p e3)
  obtain⟨N,P,L,f1,f2,f3,f4,W,f6⟩:=B8y ok h0 hb h w.1 hq
  have eL:L N.length=l':=by rw[hl'] at f4;exact (Option.some.inj f4).symm
  let P':Nat->Nat:=λk=>if k<=N.length then P k else p
  let L':Nat->Int:=λk=>if k<=N.length then L k else l
  have p1:∀k,k<=N.length->P' k=P k:=λk hk=>if_pos hk
  have p2:∀k,¬ k<=N.length->P' k=p:=λk hk=>if_neg hk
  have l1:∀k,k<=N.length->L' k=L k:=λk hk=>if_pos hk
  have l2:∀k,¬ k<=N.length->L' k=l:=λk hk=>if_neg hk
  have hlen:(N++[n]).length=N.length + 1:=by simp
  refine⟨N++[n],P',L',?_,by rw[hlen,f2];rfl,by rw[hlen];exact p2 _ (by lia),by rw[hlen,l2 _ (by lia)];exact e2,⟨λk n' e=>?_,by rw[p1 0 (J7 _),l1 0 (J7 _)];exact W.beg,λk k1 k2=>?_,λi j hij hj hp=>?_⟩,λk hk=>?_⟩
  ·show (match gt (N7 m ws st r.1 r.1).2 p with
    | none=>wlk ws (r::rs) p
    | some n=>((wlk ws (r::rs) (P5 ws n)).1,(wlk ws (r::rs) (P5 ws n)).2++[n]))=_
   rw[hn]
   have:P5 ws n=w.1:=by unfold P5;rw[hw]
   show ((wlk ws (r::rs) (P5 ws n)).1,(wlk ws (r::rs) (P5 ws n)).2++[n])=_
   rw[this,f1,p1 0 (J7 _)]
  ·by_cases hk:k < N.length
   ·rw[A4j hk] at e
    rw[p1 k (by lia),p1 (k + 1) (by lia),l1 k (by lia),l1 (k + 1) (by lia)]
    exact W.way k n' e
   ·rw[A6c (by lia)] at e
    have hk':k=N.length:=by
     match q:k - N.length with
     | 0=>lia
     | z + 1=>rw[q] at e;simp at e
    subst hk'
    rw[Nat.sub_self] at e
    cases e
    refine⟨w,hw,?_,?_,?_⟩
    ·rw[p1 _ (E1 _),f3]
    ·rw[p2 _ (by lia),e1]
    ·rw[l1 _ (E1 _),l2 _ (by lia),eL];exact hs
  ·by_cases hk:k<=N.length
   ·rw[p1 k hk,l1 k hk];exact W.rise k k1 hk
   ·rw[p2 k hk,l2 k hk];exact C7q e3 (a3 p)
  ·by_cases hk:j<=N.length
   ·rw[l1 i (by lia),l1 j hk]
    rw[p1 i (by lia),p1 j hk] at hp
    exact W.strict i j hij hk hp
   ·rw[hlen] at hj
    rw[p1 i (by lia),p2 j hk] at hp
    rw[l1 i (by lia),l2 j hk]
    have z:=f6 i (by lia)
    rw[hp] at z
    cases q:gt r.1 p with
    | none=>rw[q] at z;exact absurd z j1
    | some y=>
     rw[q] at z e3
     have z1:=S0.mp z
     have z2:y < l:=of_decide_eq_true e3
     lia
  ·by_cases hk':k<=N.length
   ·rw[p1 k hk',l1 k hk'];exact A0k (f6 k hk') (I.up _)
   ·rw[p2 k hk',l2 k hk',e2];exact A3z _
end
def seg (N:List Nat) (i j:Nat):List Nat:=(N.drop i).take (j - i)
def chs (ws:List Wy) (ns:List Nat):List Int:=ns.map (Y1 ws)
theorem A5p (N:List Nat) (i:Nat):seg N i i=[]:=by unfold seg;rw[Nat.sub_self];rfl
theorem B2t {N:List Nat} {i j:Nat} (h:i<=j) (h2:j < N.length):seg N i (j + 1)=seg N i j++[N[j]]:=by
 unfold seg
 have e:j + 1 - i=j - i + 1:=by lia
 rw[e,A2g,List.getElem?_drop,show i + (j - i)=j by lia,M9 h2]
 rfl
theorem A5q {N:List Nat} {i j:Nat} (h:j<=N.length):(seg N i j).length=j - i:=by
 unfold seg
 rw[b4,List.length_drop]
 lia
theorem B2u (st:Int) (o:Option Int) (xs ys:List Int):wkF st o (xs++ys)=wkF st (wkF st o xs) ys:=by unfold wkF;rw[List.foldl_append]
section
variable {ws:List Wy} {st:Int} {b:Tb} {N:List Nat} {P:Nat->Nat} {L:Nat->Int}
theorem Wk.ch (W:Wk ws st b N P L) {k:Nat} (h:k < N.length):K5 st (L k) (Y1 ws N[k])=some (L (k + 1)):=by
 obtain⟨w,hw,_,_,e⟩:=W.way k N[k] (M9 h)
 unfold Y1
 rw[hw]
 exact e
theorem Wk.seg (W:Wk ws st b N P L) {i:Nat}:∀{j:Nat},i<=j->j<=N.length->wkF st (some (L i)) (chs ws (My.seg N i j))=some (L j)
 | 0,h1,_=>by
  have:i=0:=by lia
  subst this
  rw[A5p];rfl
 | j + 1,h1,h2=>by
  by_cases e:i=j + 1
  ·subst e
   rw[A5p];rfl
  ·rw[B2t (by lia) (by lia)]
   unfold chs
   rw[P2,B2u]
   have:=W.seg (i:=i) (j:=j) (by lia) (by lia)
   unfold chs at this
   rw[this]
   exact W.ch (by lia)
theorem Wk.bd (W:Wk ws st b N P L) (h0:0<=st) {m:Nat} (hb:F7 m st b):∀k,k<=N.length->0<=L k/\L k<=st
 | 0,_=>hb.bd _ _ W.beg
 | k + 1,h=>B2r h0 (W.ch (k:=k) (by lia))
theorem Wk.pl (W:Wk ws st b N P L) {m:Nat} (ok:J6 m ws) (hb:F7 m st b):∀k,k<=N.length->P k < m
 | 0,_=>by
  by_cases h:P 0 < m
  ·exact h
  ·have:=W.beg
   rw[A5l (by rw[hb.len];lia)] at this
   cases this
 | k + 1,h=>by
  obtain⟨w,hw,_,e,_⟩:=W.way k N[k] (M9 (by lia))
  rw[<-e]
  exact ok.en w (Q9 hw)
theorem Wk.lid (W:Wk ws st b N P L) {T:Tb} (c:A31 ws st T) {i:Nat} {x:Int} (hx:leO (some x) (gt T (P i))):∀{j:Nat} {y:Int},i<=j->j<=N.length->wkF st (some x) (chs ws (My.seg N i j))=some y->leO (some y) (gt T (P j))
 | 0,y,h1,_,e=>by
  have:i=0:=by lia
  subst this
  rw[A5p] at e
  cases e
  exact hx
 | j + 1,y,h1,h2,e=>by
  by_cases q:i=j + 1
  ·subst q
   rw[A5p] at e
   cases e
   exact hx
  ·rw[B2t (by lia) (by lia)] at e
   unfold chs at e
   rw[P2,B2u] at e
   obtain⟨w,hw,e1,e2,_⟩:=W.way j N[j] (M9 (by lia))
   cases z:wkF st (some x) ((My.seg N i j).map (Y1 ws)) with
   | none=>rw[z] at e;cases e
   | some v=>
    rw[z] at e
    have e':K5 st v (Y1 ws N[j])=some y:=e
    have ih:=W.lid c hx (j:=j) (y:=v) (by lia) (by lia) z
    have hc:Y1 ws N[j]=w.2.2:=by unfold Y1;rw[hw]
    cases g:gt T (P j) with
    | none=>rw[g] at ih;exact absurd ih j1
    | some u=>
     rw[g] at ih
     have s1:=B8o (st:=st) (c:=w.2.2) (S0.mp ih)
     rw[<-hc,e',hc] at s1
     have s2:=c w (Q9 hw)
     unfold N3 at s2
     rw[e1,g,e2] at s2
     exact A0k s1 s2
end
def N8 (st lv:Int):List Int->List Int
 | []=>[lv]
 | c::cs=>match K5 st lv c with
  | none=>[lv]
  | some x=>lv::N8 st x cs
theorem C7r {st lv c:Int} {cs:List Int} (h:K5 st lv c=none):N8 st lv (c::cs)=[lv]:=by rw[N8,h]
theorem C7s {st lv c x:Int} {cs:List Int} (h:K5 st lv c=some x):N8 st lv (c::cs)=lv::N8 st x cs:=by rw[N8,h]
theorem B2v {st:Int}:∀{cs:List Int} {x y:Int},wkF st (some x) cs=some y->∀k,k<=cs.length->∃z,(N8 st x cs)[k]?=some z/\wkF st (some x) (cs.take k)=some z
 | [],x,y,_,k,hk=>by
  have:k=0:=by simpa using hk
  subst this
  exact⟨x,rfl,rfl⟩
 | c::cs,x,y,h,k,hk=>by
  cases e:K5 st x c with
  | none=>
   have h':wkF st (K5 st x c) cs=some y:=h
   rw[e,A9m] at h'
   cases h'
  | some x1=>
   have h':wkF st (K5 st x c) cs=some y:=h
   rw[e] at h'
   unfold N8
   rw[e]
   cases k with
   | zero=>exact⟨x,rfl,rfl⟩
   | succ k=>
    obtain⟨z,z1,z2⟩:=B2v h' k (by simpa using hk)
    refine⟨z,z1,?_⟩
    show wkF st (K5 st x c) (cs.take k)=some z
    rw[e];exact z2
theorem B2w {st:Int}:∀{cs:List Int} {x y:Int},wkF st (some x) cs=some y->(N8 st x cs).length=cs.length + 1
 | [],_,_,_=>rfl
 | c::cs,x,y,h=>by
  have h':wkF st (K5 st x c) cs=some y:=h
  cases e:K5 st x c with
  | none=>rw[e,A9m] at h';cases h'
  | some x1=>
   rw[e] at h'
   unfold N8
   rw[e,G6,G6,B2w h']
theorem B8z {st:Int}:∀{cs:List Int} {x y:Int},wkF st (some x) cs=some y->y=x + cs.sum\/st∈N8 st x cs
 | [],x,y,h=>by
  cases h
  exact .inl (by simp)
 | c::cs,x,y,h=>by
  have h':wkF st (K5 st x c) cs=some y:=h
  cases e:K5 st x c with
  | none=>rw[e,A9m] at h';cases h'
  | some x1=>
   rw[e] at h'
   have hd:(N8 st x1 cs).head?=some x1:=by
    cases cs with
    | nil=>rfl
    | cons d ds=>
     unfold N8
     cases K5 st x1 d <;> rfl
   by_cases q:x1=st
   ·refine .inr ?_
    unfold N8
    rw[e]
    refine C8 _ ?_
    have hm:=List.mem_of_head? hd
    have e3:(st∈N8 st x1 cs)=(x1∈N8 st x1 cs):=congrArg (·∈N8 st x1 cs) q.symm
    rw[e3]
    exact hm
   ·have e1:x1=x + c:=by
     unfold K5 at e
     split at e
     ·cases e
     ·have e2:=Option.some.inj e
      split at e2
      ·exact absurd e2.symm q
      ·exact e2.symm
    rcases B8z h' with z | z
    ·refine .inl ?_
     rw[z,e1,B53];lia
    ·refine .inr ?_
     unfold N8
     rw[e]
     exact C8 _ z
structure Rnd (st:Int) (cs:List Int) (x:Int) (le g tp:Int) (k:Nat):Prop where
 fx:fxF st cs=some (le,g,tp)
 g0:0 < g
 gs:g=cs.sum
 xt:x < tp
 tst:tp<=st
 kl:k<=cs.length
 ki:(N8 st tp cs).idxOf st=k
 km:st∈N8 st tp cs
 kw:wkF st (some tp) (cs.take k)=some st
 ll:(N8 st tp cs).length=cs.length + 1
theorem C7t {st:Int} {cs:List Int} {x y:Int} (h0:0<=x) (h1:x<=st) (w:wkF st (some x) cs=some y) (hy:x < y):∃le g tp k,Rnd st cs x le g tp k/\le<=x:=by
 have hp:=A9n h0 h1 cs
 rw[w] at hp
 have hok:=C7m (by lia) cs (st:=st)
 cases e:fxF st cs with
 | none=>rw[e] at hp;cases hp
 | some r=>
  obtain⟨le,g,tp⟩:=r
  rw[e] at hp hok
  have gs:=C7p e
  obtain⟨o1,o2,o3,o4,o5,o6⟩:=hok
  simp only at o1 o2 o3 o4 o5 o6 gs
  unfold K9 at hp
  dsimp only at hp
  split at hp
  ·cases hp
  ·rename_i hle
   have hy2:=Option.some.inj hp
   have g0:0 < g:=by split at hy2 <;> lia
   have xt:x < tp:=by split at hy2 <;> lia
   have wt:=A9n (st:=st) (x:=tp) o3 o4 cs
   rw[e] at wt
   unfold K9 at wt
   dsimp only at wt
   rw[if_neg (by lia),if_pos (by lia)] at wt
   have km:st∈N8 st tp cs:=by
    rcases B8z wt.symm with z | z
    ·lia
    ·exact z
   have hlt:=B01.mpr km
   have ll:=B2w wt.symm
   rw[ll] at hlt
   obtain⟨z,z1,z2⟩:=B2v wt.symm ((N8 st tp cs).idxOf st) (by lia)
   have ez:z=st:=by
    have hl2:=B01.mpr km
    rw[M9 hl2,C2j hl2] at z1
    exact (Option.some.inj z1).symm
   subst ez
   exact⟨le,g,tp,_,⟨e,g0,gs,xt,o4,by lia,rfl,km,z2,ll⟩,by lia⟩
section
variable {m:Nat} {ws:List Wy} {st:Int} {b:Tb} {N:List Nat} {P:Nat->Nat} {L:Nat->Int}
theorem B2x {N:List Nat} {i j k:Nat} (h:k<=j - i):(seg N i j).take k=seg N i (i + k):=by
 unfold seg
 rw[List.take_take,show min k (j - i)=k by lia,show i + k - i=k by lia]
theorem C7u (W:Wk ws st b N P L) {i j:Nat} (hij:i < j) (hj:j<=N.length) (hp:P i=P j) {le g tp:Int} {k:Nat} (hle:le<=L i) (R:Rnd st (chs ws (seg N i j)) (L i) le g tp k) {T:Tb} (hT:F7 m st T) (hb:leT b T) (c:A31 ws st T) :
  leO (some st) (gt T (P (i + k))):=by
 have kl:k<=j - i:=by
  have:=R.kl
  unfold chs at this
  rw[C1,A5q hj] at this
  exact this
 have h0:leO (some (L 0)) (gt T (P 0)):=by rw[<-W.beg];exact hb _
 have hi:=W.lid c h0 (j:=i) (J7 _) (by lia) (W.seg (J7 _) (by lia))
 cases q:gt T (P i) with
 | none=>rw[q] at hi;exact absurd hi j1
 | some z=>
  rw[q] at hi
  have hz:=S0.mp hi
  obtain⟨z0,z1⟩:=hT.bd _ _ q
  have wz:=A9n z0 z1 (chs ws (seg N i j))
  rw[R.fx] at wz
  unfold K9 at wz
  dsimp only at wz
  rw[if_neg (by lia)] at wz
  have hr:=W.lid c (x:=z) (by rw[q];exact A3z _) (j:=j) (by lia) hj wz.symm
  rw[<-hp,q] at hr
  have hr':=S0.mp hr
  have:=R.g0
  have htz:tp<=z:=by split at hr' <;> lia
  have ht:leO (some tp) (gt T (P i)):=by rw[q];exact S0.mpr htz
  refine W.lid c ht (j:=i + k) (by lia) (by lia) ?_
  have kw:=R.kw
  unfold chs at kw ⊢
  rw[<-A0u,B2x kl] at kw
  exact kw
theorem C7v (W:Wk ws st b N P L) (h0:0<=st) (hb:F7 m st b) {i j k:Nat} (hij:i < j) (hj:j<=N.length) (hp:P i=P j) (hk:i + k<=j):gt b (P (i + k))≠some st:=λe=>by
 have key:∀q,1<=q->q<=N.length->gt b (P q)≠some st:=λq h1 h2 e=>by
  have r:=W.rise q h1 h2
  rw[e] at r
  have:=of_decide_eq_true r
  have:=(W.bd h0 hb q h2).2
  lia
 by_cases hk0:i + k=0
 ·rw[hk0] at e
  have:i=0:=by lia
  rw[this] at hp
  rw[hp] at e
  exact key j (by lia) hj e
 ·exact key (i + k) (by lia) (by lia) e
theorem N4.fill (hb:F7 m st b) {p:Nat} (hp:p < m) {t:Tb} (h:N4 m ws st (b.set p (some st)) t) (hl:∀T,F7 m st T->leT b T->A31 ws st T->leO (some st) (gt T p)):N4 m ws st b t:=by
 have g:∀j,gt (b.set p (some st)) j=if p=j then some st else gt b j:=λj=>A30 (by rw[hb.len];exact hp)
 refine⟨h.tab,λq=>A0k ?_ (h.up q),h.cl,λT hT h1 h2=>h.le T hT (λq=>?_) h2⟩
 ·rw[g]
  by_cases e:p=q
  ·rw[if_pos e]
   cases z:gt b q with
   | none=>rfl
   | some x=>exact S0.mpr (hb.bd _ _ z).2
  ·rw[if_neg e];exact A3z _
 ·rw[g]
  by_cases e:p=q
  ·rw[if_pos e,<-e];exact hl T hT h1 h2
  ·rw[if_neg e];exact h1 q
theorem C7w (h0:0<=st) (hb:F7 m st b) {p:Nat} (hp:p < m):F7 m st (b.set p (some st)):=by
 refine⟨by rw[W0];exact hb.len,λq x h=>?_⟩
 rw[A30 (by rw[hb.len];exact hp)] at h
 by_cases e:p=q
 ·rw[if_pos e] at h;cases h;exact⟨h0,t8 _⟩
 ·rw[if_neg e] at h;exact hb.bd q x h
end
def A32 (st:Int) (b:Tb):Nat:=b.countP λx=>!(x == some st)
theorem B80 (st:Int):∀(b:Tb) (p:Nat),p < b.length->gt b p≠some st->A32 st (b.set p (some st)) < A32 st b
 | [],_,h,_=>by simp at h
 | x::b,0,_,h=>by
  have hx:x≠some st:=h
  show List.countP _ (some st::b) < List.countP _ (x::b)
  rw[List.countP_cons_of_neg (by simp),List.countP_cons_of_pos (by simp [hx])]
  lia
 | x::b,p + 1,h1,h2=>by
  have ih:=B80 st b p (by simpa using h1) h2
  show List.countP _ (x::b.set p (some st)) < List.countP _ (x::b)
  unfold A32 at ih
  rw[List.countP_cons,List.countP_cons]
  lia
theorem B2y:∀(m:Nat) (l:List Nat),l.Nodup->(∀x∈l,x < m)->l.length<=m
 | 0,l,_,h=>by
  cases l with
  | nil=>exact E1 _
  | cons x r=>exact absurd (h x D4) (by lia)
 | m + 1,l,nd,h=>by
  by_cases c:m∈l
  ·have h1:=B2y m (l.erase m) (nd.erase m) λx hx=>by
    have h2:=h x (List.mem_of_mem_erase hx)
    have h3:x≠m:=λe=>by
     subst e
     exact absurd hx (nd.not_mem_erase)
    lia
   rw[List.length_erase_of_mem c] at h1
   lia
  ·have:=B2y m l nd λx hx=>by
    have h2:=h x hx
    have h3:x≠m:=λe=>c (e▸hx)
    lia
   lia
abbrev Sp2:=Nat×Int
def j4 (m:Nat) (b:Sp2):Tb:=(E5 m none).set b.1 (some b.2)
def enF (t:Tb) (g:Sp2):Bool:=match gt t g.1 with
 | none=>false
 | some l=>decide (g.2<=l)
section
variable {m:Nat} {ws:List Wy} {st:Int} {b g:Sp2}
theorem C7x:(j4 m b).length=m:=by unfold j4;rw[W0,A1g]
end
section
variable {ws:List Wy} {row:List Nat} {cs:List Int} {st sc gv x y:Int} {p0:Nat}
end
section
variable {m:Nat} {row:List Nat} {cs:List Int} {sc gv:Int} {B S ws:List Wy}
end
section
variable {m:Nat} {ws:List Wy} {row:List Nat} {cs:List Int} {sc gv st x y:Int} {p0 pl:Nat}
end
section
variable {m:Nat} {ws:List Wy} {st:Int}
end
section
variable {m:Nat} {st:Int}
def Bet (ws ws':List Wy):Prop:=∀w∈ws,∃w'∈ws',w'.1=w.1/\w'.2.1=w.2.1/\w.2.2<=w'.2.2
theorem C7y (ws:List Wy):Bet ws ws:=λw hw=>⟨w,hw,rfl,rfl,t8 _⟩
def A7h (st:Int) (t:Tb):Tb:=t.map λo=>o.map λx=>if st < x then st else x
theorem A7i (t:Tb) (p:Nat):gt (A7h st t) p=(gt t p).map λx=>if st < x then st else x:=by
 unfold gt A7h
 rw[L8]
 cases t[p]? with
 | none=>rfl
 | some o=>rfl
theorem C7z (t:Tb):leT (A7h st t) t:=λp=>by
 rw[A7i]
 cases gt t p with
 | none=>exact A9l
 | some x=>
  refine S0.mpr ?_
  show (if st < x then st else x)<=x
  split <;> lia
theorem C70 {ws ws':List Wy} {st':Int} {b b' t t':Tb} (h0:0<=st) (hs:st<=st') (hb0:F7 m st b) (hw:Bet ws ws') (hb:leT b b') (h:N4 m ws st b t) (h':N4 m ws' st' b' t'):leT t t':=by
 refine B8p (h.le (A7h st t') ⟨by unfold A7h;rw[C1];exact h'.tab.len,λp x e=>?_⟩ (λp=>?_) λw hw1=>?_) (C7z t')
 ·rw[A7i] at e
  cases z:gt t' p with
  | none=>rw[z] at e;cases e
  | some y=>
   rw[z] at e
   have e':(if st < y then st else y)=x:=Option.some.inj e
   obtain⟨y0,_⟩:=h'.tab.bd p y z
   subst e'
   split <;> lia
 ·rw[A7i]
  have h1:=A0k (hb p) (h'.up p)
  cases z:gt b p with
  | none=>exact A9l
  | some x=>
   rw[z] at h1
   cases z2:gt t' p with
   | none=>rw[z2] at h1;exact absurd h1 j1
   | some y=>
    rw[z2] at h1
    have:=S0.mp h1
    have:=(hb0.bd p x z).2
    refine S0.mpr ?_
    show x<=(if st < y then st else y)
    split <;> lia
 ·obtain⟨w',hw',e1,e2,e3⟩:=hw w hw1
  have c:=h'.cl w' hw'
  unfold N3 at c ⊢
  rw[e1,e2] at c
  rw[A7i,A7i]
  cases z:gt t' w.1 with
  | none=>exact A9l
  | some x=>
   rw[z] at c
   have c':leO (K5 st' x w'.2.2) (gt t' w.2.1):=c
   show leO (K5 st (if st < x then st else x) w.2.2) _
   generalize hx:(if st < x then st else x)=y
   have hy:y<=x:=by rw[<-hx];split <;> lia
   unfold K5 at c' ⊢
   by_cases d:y + w.2.2 < 0
   ·rw[if_pos d];exact A9l
   ·rw[if_neg d]
    rw[if_neg (by lia)] at c'
    cases z2:gt t' w.2.1 with
    | none=>rw[z2] at c';exact absurd c' j1
    | some u=>
     rw[z2] at c'
     have c2:=S0.mp c'
     refine S0.mpr ?_
     show _<=(if st < u then st else u)
     split at c2 <;> split <;> split <;> lia
end
end My
namespace L2
open PySem PySem.Spec PyProof.Rows
def B81 (N:List Str) (osc scope:Scope) (x:Str) (j:Nat):Bool:=
 decide N.Nodup&&decide (N[j]?=some x)&&decide (scope.kind=.function)&&decide (osc.kind=.function)&&(scope.names.lookup x == some .local)&&
  scope.names.all λy=>match y.2 with
   | .cell=>false
   | .local=>scope.names.lookup y.1 == some .local&&(y.1 == x||!(N.contains y.1))
   | .free=>osc.names.lookup y.1 == some .cell
   | _=>true
theorem M2.old {N:List Str} {osc scope:Scope} {x:Str} {j:Nat} (h:B81 N osc scope x j=true):M2 N N osc scope j x:=by
 unfold B81 at h
 simp only[A0r,decide_eq_true_eq,List.all_eq_true,beq_iff_eq] at h
 obtain⟨⟨⟨⟨⟨h1,h0⟩,h2⟩,h3⟩,h4⟩,h5⟩:=h
 refine⟨h1,h0,λi y _ e=>e,A0q _,h2,λy hy e=>?_,λy hy e=>?_,λy hy e=>?_,h4,h3,λy hy e=>?_⟩
 ·have:=h5 y hy;rw[e] at this;cases this
 ·have:=h5 y hy
  rw[e] at this
  simp only[A0r,beq_iff_eq] at this
  exact this.1
 ·have:=h5 y hy
  rw[e] at this
  simp only[A0r,Bool.or_eq_true,beq_iff_eq,Bool.not_eq_true',List.contains_eq_mem,decide_eq_false_iff_not] at this
  exact this.2
 ·have:=h5 y hy
  rw[e] at this
  simp only[beq_iff_eq] at this
  exact this
end L2
namespace My
open PySem L2
section
variable {X:Cx} {C:DC}
variable {st:Stmt} {te:DE}
end
section
variable {X:Cx} {C:DC} {st:Stmt} {te:DE} {tg e:Expr} {u:DF}
end
section
variable {C:DC}
def A12 (d:Int) (ds:List PyData) (Q:PyData->Prop):Prop:=match ds with
 | [.list xs]=>bnd (A0j xs) λns=>(ns=[]->Q (.int d))/\∀M,A84 ns M->Q (.int M)
 | _=>False
theorem C71 {K:B0} {d:Int}:A0f C (B11 d K) (A12 d):=by
 intro ρ σ P col H vs ds Qd Q r t g k
 unfold A12 at g
 split at g
 ·rename_i xs
  cases hn:A0j xs with
  | none=>rw[hn] at g;exact g.elim
  | some ns=>
   rw[hn] at g
   obtain⟨g1,g2⟩:=g
   obtain⟨v,rfl,t1⟩:=A1q t
   cases t1 with
   | lst _ e t2=>
    have z:=B2l t2 hn
    subst z
    exact⟨_,ns,rfl,SqL.of e,λq=>k _ _ _ ⟨col,r.push (.int d)⟩ (g1 q),λM hM=>k _ _ _ ⟨col,r.push (.int M)⟩ (g2 M hM)⟩
 ·exact g.elim
section
variable {X:Cx} {st:Stmt} {ta:DF}
variable {a b:Expr} {te:DE} {pos:Pos}
end
end
section
variable {X:Cx} {C:DC} {st:Stmt} {te:DE}
end
section
variable {C:DC}
end
section
variable {X:Cx} {C:DC}
end
section
variable {C:DC}
end
section
variable {X:Cx} {C:DC} {st:Stmt} {te:DE}
end
section
variable {C:DC}
end
section
variable {C:DC} {col col2:Addr->Nat} {ρ:List Sl} {σ:St} {P:List Pe} {H H2:Hp} {i:Nat} {ds:List PyData} {a:Addr} {vs:List V}
variable {X:Cx} {e:Expr}
end
end My
namespace L2
open PySem PySem.Spec PyProof.Rows
section
variable {κ:Type} [DecidableEq κ]
def T3 (kvs:List (κ×V)) (k:κ):Option V:=(kvs.find? λkv=>decide (kv.1=k)).map (·.2)
def S1 (kvs:List (κ×V)) (k:κ) (v:V):List (κ×V):=
 if (kvs.any λkv=>decide (kv.1=k))=true then kvs.map (λkv=>if kv.1=k then (kv.1,v) else kv) else kvs++[(k,v)]
def A08 (kvs:List (κ×V)) (k:κ):List (κ×V):=kvs.filter λkv=>decide (kv.1≠k)
theorem A7j {p:κ×V} {r:List (κ×V)} {k:κ} (e:p.1=k):T3 (p::r) k=some p.2:=by simp [T3,A6j,e]
theorem A7k {p:κ×V} {r:List (κ×V)} {k:κ} (e:¬ p.1=k):T3 (p::r) k=T3 r k:=by simp [T3,A6j,e]
theorem B82 (k:κ):∀kvs:List (κ×V),(kvs.any λkv=>decide (kv.1=k))=(T3 kvs k).isSome
 | []=>rfl
 | p::r=>by
  rw[A2e]
  by_cases e:p.1=k
  ·simp only[A7j e,decide_eq_true e,Bool.true_or,Option.isSome_some]
  ·rw[A7k e,decide_eq_false e,Bool.false_or];exact B82 k r
theorem B83 (kvs:List (κ×V)) (k:κ) (v:V):(S1 kvs k v).length<=kvs.length + 1:=by
 unfold S1
 split
 ·rw[C1];lia
 ·rw[P0,G6,A4o];lia
theorem U9.isSome_eq {o:Option V} {u:Option Value} (r:U9 o u):o.isSome=u.isSome:=by
 cases o with
 | none=>cases u with
  | none=>rfl
  | some _=>exact (show False from r).elim
 | some _=>cases u with
  | none=>exact (show False from r).elim
  | some _=>rfl
theorem KV.val {kvs:List (κ×V)} {vs:List (κ×Value)} (r:KV kvs vs) (k:κ):U9 (T3 kvs k) (valueAt vs k):=by
 unfold KV at r
 induction r with
 | nil=>exact True.intro
 | @cons p q ps qs h t ih=>
  obtain⟨h1,h2⟩:=h
  by_cases e:p.1=k
  ·have e':q.1=k:=h1.symm.trans e
   have b:valueAt (q::qs) k=some q.2:=by simp [valueAt,A6j,e']
   rw[A7j e,b];exact h2
  ·have e':¬ q.1=k:=λz=>e (h1.trans z)
   have b:valueAt (q::qs) k=valueAt qs k:=by simp [valueAt,A6j,e']
   rw[A7k e,b];exact ih
theorem KV.any {kvs:List (κ×V)} {vs:List (κ×Value)} (r:KV kvs vs) (k:κ):(kvs.any λkv=>decide (kv.1=k))=vs.any λkv=>decide (kv.1=k):=by
 unfold KV at r
 induction r with
 | nil=>rfl
 | cons h t ih=>rw[A2e,A2e,ih,h.1]
theorem KV.repl {kvs:List (κ×V)} {vs:List (κ×Value)} (r:KV kvs vs) (k:κ) {y:V} {u:Value} (ry:E2 y u) :
  KV (kvs.map λkv=>if kv.1=k then (kv.1,y) else kv) (vs.map λkv=>if kv.1=k then (kv.1,u) else kv):=by
 unfold KV at r ⊢
 induction r with
 | nil=>exact .nil
 | @cons p q ps qs h t ih=>
  rw[O9,O9]
  refine .cons ?_ ih
  obtain⟨h1,h2⟩:=h
  by_cases e:p.1=k
  ·rw[if_pos e,if_pos (h1.symm.trans e)];exact⟨h1,ry⟩
  ·rw[if_neg e,if_neg (λz=>e (h1.trans z))];exact⟨h1,h2⟩
theorem KV.put {kvs:List (κ×V)} {vs:List (κ×Value)} (r:KV kvs vs) (k:κ) {y:V} {u:Value} (ry:E2 y u):KV (S1 kvs k y) (stored vs k u):=by
 unfold S1 stored
 rw[r.any k]
 by_cases e:(vs.any λkv=>decide (kv.1=k))=true
 ·rw[if_pos e,if_pos e];exact r.repl k ry
 ·rw[if_neg e,if_neg e];exact Paired.snoc r ⟨rfl,ry⟩
theorem KV.drop {kvs:List (κ×V)} {vs:List (κ×Value)} (r:KV kvs vs) (k:κ):KV (A08 kvs k) (without vs k):=by
 unfold KV at r ⊢
 unfold A08 without
 induction r with
 | nil=>exact .nil
 | @cons p q ps qs h t ih=>
  obtain⟨h1,h2⟩:=h
  rw[List.filter_cons,List.filter_cons]
  by_cases e:p.1=k
  ·have a:¬ decide (p.1≠k)=true:=by simp [e]
   have b:¬ decide (q.1≠k)=true:=by simp [h1.symm.trans e]
   rw[if_neg a,if_neg b];exact ih
  ·have e':¬ q.1=k:=λz=>e (h1.trans z)
   have a:decide (p.1≠k)=true:=by simp [e]
   have b:decide (q.1≠k)=true:=by simp [e']
   rw[if_pos a,if_pos b];exact .cons ⟨h1,h2⟩ ih
theorem KV.length {kvs:List (κ×V)} {vs:List (κ×Value)} (r:KV kvs vs):kvs.length=vs.length:=Paired.length r
theorem C72 (kvs:List (κ×V)) (k:κ):(A08 kvs k).length<=kvs.length:=A8a _ _
end
theorem A5r {P:Program} {w:World} {k:Key} {u:Value} (r:E2 (kV k) u):(U8 P w).is k u=true:=by
 cases k with
 | inl i=>obtain⟨t,e⟩:=(show ∃t,u=Value.int i t from r);subst e;exact C2x P w i t
 | inr x=>obtain⟨t,e⟩:=(show ∃t,u=Value.str x t from r);subst e;exact C2y P w x t
theorem B84 {P:Program} {w:World}:∀{ks:List Key} {us:List Value},C4 (ks.map kV) us->ItemsAre (U8 P w) ks us
 | [],_,r=>by rw[A6d] at r;cases r;exact .nil
 | k::ks,_,r=>by
  rw[O9] at r
  cases r with
  | cons h t=>exact .cons (A5r h) (B84 t)
abbrev KT (H:Hp):List (List Key×V)->List (List Key×Addr×Value)->Prop:=Paired λp q=>p.1=q.1/\H q.2.1=some (.tup (p.1.map kV))/\E2 p.2 q.2.2
theorem KT.val {H:Hp} {kvs:List (List Key×V)} {xs:List (List Key×Addr×Value)} (r:KT H kvs xs) (k:List Key):U9 (T3 kvs k) ((atKey xs k).map (·.2)):=by
 induction r with
 | nil=>exact True.intro
 | @cons p q ps qs h t ih=>
  obtain⟨h1,_,h2⟩:=h
  by_cases e:p.1=k
  ·have e':q.1=k:=h1.symm.trans e
   have b:atKey (q::qs) k=some q.2:=by simp [atKey,A6j,e']
   rw[A7j e,b];exact h2
  ·have e':¬ q.1=k:=λz=>e (h1.trans z)
   have b:atKey (q::qs) k=atKey qs k:=by simp [atKey,A6j,e']
   rw[A7k e,b];exact ih
theorem KT.repl {H:Hp} {kvs:List (List Key×V)} {xs:List (List Key×Addr×Value)} (r:KT H kvs xs) (k:List Key) {y:V} {u:Value} (ry:E2 y u) :
  KT H (kvs.map λkv=>if kv.1=k then (kv.1,y) else kv) (xs.map (putAt k u)):=by
 induction r with
 | nil=>exact .nil
 | @cons p q ps qs h t ih=>
  rw[O9,O9]
  refine .cons ?_ ih
  obtain⟨h1,h2,h3⟩:=h
  unfold putAt
  by_cases e:p.1=k
  ·rw[if_pos e,if_pos (h1.symm.trans e)];exact⟨h1,h2,ry⟩
  ·rw[if_neg e,if_neg (λz=>e (h1.trans z))];exact⟨h1,h2,h3⟩
theorem KT.put {H:Hp} {kvs:List (List Key×V)} {xs:List (List Key×Addr×Value)} (r:KT H kvs xs) (k:List Key) {b:Addr} {y:V} {u:Value} (hb:H b=some (.tup (k.map kV))) (ry:E2 y u) :
  KT H (S1 kvs k y) (storedH xs k b u):=by
 have e:(kvs.any λkv=>decide (kv.1=k))=(atKey xs k).isSome:=by
  rw[B82,(r.val k).isSome_eq,Option.isSome_map]
 unfold S1 storedH
 rw[e]
 by_cases q:(atKey xs k).isSome=true
 ·rw[if_pos q,if_pos q];exact r.repl k ry
 ·rw[if_neg q,if_neg q];exact Paired.snoc r ⟨rfl,hb,ry⟩
theorem KT.keeps {H H':Hp} {kvs:List (List Key×V)} {xs:List (List Key×Addr×Value)} (r:KT H kvs xs) (ht:∀b ys,H b=some (.tup ys)->H' b=some (.tup ys)):KT H' kvs xs:=
 Paired.mapP r λ_ _ z=>⟨z.1,ht _ _ z.2.1,z.2.2⟩
section
variable {P:Program} {w:World} {H:Hp} {h:Heap} {a:Addr}
theorem B85 {u:HO} (ok:HOk P w H h) (e:Rd H a u):K3 P w H h a u:=e.ok ok
theorem A33 {kvs:List (Key×V)} (ok:HOk P w H h) (e:Rd H a (.dK kvs)):kvs.length<=sizeLine/\(a == sysModules)=false/\∃vs,KV kvs vs/\h.DictOf (U8 P w) a vs:=
 show K3 P w H h a (.dK kvs) from B85 ok e
theorem A9o {kvs:List (Key×V)} (ok:HOk P w H h) (e:H a=some (.dK kvs)):kvs.length<=sizeLine/\(a == sysModules)=false/\∃vs,KV kvs vs/\h.DictOf (U8 P w) a vs:=A33 ok (.inl e)
theorem A7l {ks:List Key} (ok:HOk P w H h) (e:H a=some (.tup (ks.map kV))):(tupleKind (U8 P w)).is h ks a:=by
 obtain⟨_,its,r,o,h1,h2,n,h3⟩:=(show K3 P w H h a (.tup (ks.map kV)) from ok a _ e)
 exact⟨o,its.toArray,n,h1,h2,h3,by simpa using B84 r⟩
theorem A5s {kvs:List (List Key×V)} (ok:HOk P w H h) (e:Rd H a (.dT kvs)):kvs.length<=sizeLine/\(a == sysModules)=false/\
  ∃xs,KT H kvs xs/\h.DictOfH (tupleKind (U8 P w)) a xs:=by
 obtain⟨z,y,xs,r,o,es,ep,h1,h2,h3,h4,h5⟩:=(show K3 P w H h a (.dT kvs) from B85 ok e)
 refine⟨z,y,xs,r,o,es,ep,h1,h2,h3,h4,λx hx=>?_,h5⟩
 have all:∀{l:List (List Key×V)} {m:List (List Key×Addr×Value)},KT H l m->∀x∈m,(tupleKind (U8 P w)).is h x.1 x.2.1:=by
  intro l m q
  induction q with
  | nil=>intro x hx;exact nomatch hx
  | @cons p q ps qs hq t ih=>
   intro x hx
   rcases J1.mp hx with e | hx
   ·subst e
    exact A7l ok (by rw[<-hq.1];exact hq.2.1)
   ·exact ih x hx
 exact all r x hx
theorem B2z {kvs:List (List Key×V)} (ok:HOk P w H h) (e:H a=some (.dT kvs)):kvs.length<=sizeLine/\(a == sysModules)=false/\
  ∃xs,KT H kvs xs/\h.DictOfH (tupleKind (U8 P w)) a xs:=A5s ok (.inl e)
end
def V6 (H:Hp) (a:Addr) (y:V) (r:Option V):Prop:=
 (∃kvs k,Rd H a (.dK kvs)/\y=kV k/\r=T3 kvs k)\/∃kvs k b,Rd H a (.dT kvs)/\y=.ref b/\H b=some (.tup (k.map kV))/\r=T3 kvs k
def j5 (H:Hp) (a:Addr) (y v:V) (H':Hp):Prop:=
 (∃kvs k,H a=some (.dK kvs)/\y=kV k/\kvs.length < sizeLine/\H'=upd H a (.dK (S1 kvs k v)))\/
 ∃kvs k b,H a=some (.dT kvs)/\y=.ref b/\H b=some (.tup (k.map kV))/\kvs.length < sizeLine/\H'=upd H a (.dT (S1 kvs k v))
theorem V6.k {H:Hp} {a:Addr} {kvs:List (Key×V)} {k:Key} (e:H a=some (.dK kvs)):V6 H a (kV k) (T3 kvs k):=.inl ⟨kvs,k,.inl e,rfl,rfl⟩
theorem j5.k {H:Hp} {a:Addr} {kvs:List (Key×V)} {k:Key} {v:V} (e:H a=some (.dK kvs)) (hl:kvs.length < sizeLine):j5 H a (kV k) v (upd H a (.dK (S1 kvs k v))):=.inl ⟨kvs,k,e,rfl,hl,rfl⟩
theorem j5.t {H:Hp} {a b:Addr} {kvs:List (List Key×V)} {k:List Key} {v:V} (e:H a=some (.dT kvs)) (eb:H b=some (.tup (k.map kV))) (hl:kvs.length < sizeLine) :
  j5 H a (.ref b) v (upd H a (.dT (S1 kvs k v))):=.inr ⟨kvs,k,b,e,rfl,eb,hl,rfl⟩
section
variable {X:Cx} {pins:List (Addr×Obj)} {σ:St} {H:Hp} {s:Shared} {a:Addr} {y v:V} {u r:Value} {o:Option V} {A:Around} {E:Value->Shared->Prop}
theorem Inv.big (I:Inv X pins σ H s):sysModules < s.heap.objs.size:=by
 have h:mainGlobals < s.heap.objs.size:=(I.mod.glob.keeps I.bk).lt
 exact Nat.lt_trans DD h
theorem C73 {Q:Value->Shared->Prop} (hu:A.units + 1 < cLine) (I:Inv X pins σ H s) (g:V6 H a y (some v)) (ry:E2 y u) (h:∀w' s',Inv X pins σ H s'->E2 v w'->Q w' s') :
  wpAny (model X.prog X.w) A (getItem (.ref a) u) Q E s:=by
 rcases g with ⟨kvs,k,e,ey,l⟩ | ⟨kvs,k,b,e,ey,eb,l⟩
 ·subst ey
  obtain⟨z,hd,vs,rel,dd⟩:=A33 I.hok e
  obtain⟨w',hw,rw'⟩:=U9.some_of (v:=v) (o:=valueAt vs k) (by rw[l];exact rel.val k)
  exact wpAny_getItem_of (A5r ry) dd.mapOf hw (h w' _ (I.tok _) rw')
 ·subst ey
  cases (show u=Value.ref b from ry)
  obtain⟨z,hd,xs,rel,dd⟩:=A5s I.hok e
  obtain⟨w',hw,rw'⟩:=U9.some_of (v:=v) (o:=(atKey xs k).map (·.2)) (by rw[l];exact rel.val k)
  obtain⟨p,hp,hp2⟩:=A0v.mp hw
  refine wpAny_getItem_heap (tupleKind_room_in1 hu) (A7l I.hok eb) dd hp ?_
  rw[hp2]
  exact h w' _ (I.tok _) rw'
theorem C74 {Q:Value->Shared->Prop} (hu:A.units + 1 < cLine) (I:Inv X pins σ H s) (g:V6 H a y o) (ry:E2 y u) (h:∀s',Inv X pins σ H s'->Q (.bool o.isSome) s') :
  wpAny (model X.prog X.w) A (compareOp .In u (.ref a)) Q E s:=by
 rcases g with ⟨kvs,k,e,ey,l⟩ | ⟨kvs,k,b,e,ey,eb,l⟩
 ·subst ey
  obtain⟨z,hd,vs,rel,dd⟩:=A33 I.hok e
  refine wpAny_in_of (A5r ry) hd dd.mapOf ?_
  rw[<-(rel.val k).isSome_eq,<-l]
  exact h _ (I.tok _)
 ·subst ey
  cases (show u=Value.ref b from ry)
  obtain⟨z,hd,xs,rel,dd⟩:=A5s I.hok e
  refine wpAny_in_heap (tupleKind_room_in1 hu) (A7l I.hok eb) hd dd ?_
  have q:=(rel.val k).isSome_eq
  rw[Option.isSome_map] at q
  rw[<-q,<-l]
  exact h _ (I.tok _)
theorem C75 {Q:Value->Shared->Prop} (hu:A.units + 1 < cLine) (I:Inv X pins σ H s) (g:V6 H a y o) (ry:E2 y u) (h:∀s',Inv X pins σ H s'->Q (.bool (!o.isSome)) s') :
  wpAny (model X.prog X.w) A (compareOp .NotIn u (.ref a)) Q E s:=by
 rcases g with ⟨kvs,k,e,ey,l⟩ | ⟨kvs,k,b,e,ey,eb,l⟩
 ·subst ey
  obtain⟨z,hd,vs,rel,dd⟩:=A33 I.hok e
  refine wpAny_notIn_of (A5r ry) hd dd.mapOf ?_
  rw[<-(rel.val k).isSome_eq,<-l]
  exact h _ (I.tok _)
 ·subst ey
  cases (show u=Value.ref b from ry)
  obtain⟨z,hd,xs,rel,dd⟩:=A5s I.hok e
  refine wpAny_notIn_heap (tupleKind_room_in1 hu) (A7l I.hok eb) hd dd ?_
  have q:=(rel.val k).isSome_eq
  rw[Option.isSome_map] at q
  rw[<-q,<-l]
  exact h _ (I.tok _)
theorem B20 {h':Heap} {t':Nat} {ob:HO} (I:Inv X pins σ H s) (mu:Mut (H a)) (hs:Heap.SameBut a s.heap h') (he:∃q,h'.get? a=some q) (new:K3 X.prog X.w (upd H a ob) h' a ob) :
  Inv X pins σ (upd H a ob) { s with heap:=h',toks:=t' }:=
 I.write (x:=a) (e:=a) mu (.inl rfl) (λb q hb z=>(hs.2 b hb).trans z) he new
theorem B86 {P:Program} {w:World} {H':Hp} {h':Heap} {kvs:List (Key×V)} {vs:List (Key×Value)} (z:kvs.length<=sizeLine) (hd:(a == sysModules)=false) (rel:KV kvs vs) (dd:h'.DictOf (U8 P w) a vs) :
  K3 P w H' h' a (.dK kvs):=⟨z,hd,vs,rel,dd⟩
theorem C76 {H':Hp} {Q:Unit->Shared->Prop} (hu:A.units + 1 < cLine) (I:Inv X pins σ H s) (g:j5 H a y v H') (ry:E2 y u) (rv:E2 v r) (h:∀s',Inv X pins σ H' s'->Q () s') :
  wpAny (model X.prog X.w) A (setItem (.ref a) u r) Q E s:=by
 rcases g with ⟨kvs,k,e,ey,l,eH⟩ | ⟨kvs,k,b,e,ey,eb,l,eH⟩
 ·subst ey eH
  obtain⟨z,hd,vs,rel,dd⟩:=A9o I.hok e
  have hz:vs.length<=sizeLine:=by rw[<-rel.length];exact z
  have hl:(S1 kvs k v).length<=sizeLine:=by have:=B83 kvs k v;lia
  refine wpAny_setItem_pairs (hsz:=hz) (A5r ry) dd λh' dd' hs=>h _ ?_
  have he:∃q,h'.get? a=some q:=let ⟨q,_,_,hq,_⟩:=dd';⟨q,hq⟩
  exact B20 I (by rw[e];exact True.intro) hs he (B86 hl hd (rel.put k rv) dd')
 ·subst ey eH
  cases (show u=Value.ref b from ry)
  obtain⟨z,hd,xs,rel,dd⟩:=B2z I.hok e
  have hz:xs.length<=sizeLine:=by rw[<-Paired.length rel];exact z
  have hl:(S1 kvs k v).length<=sizeLine:=by have:=B83 kvs k v;lia
  refine wpAny_setItem_heap (hsz:=hz) (tupleKind_room_in1 hu) (A7l I.hok eb) dd λh' dd' hs=>h _ ?_
  obtain⟨q,es,ep,hq,h2,h3,h4,_,h5⟩:=dd'
  refine B20 I (by rw[e];exact True.intro) hs ⟨q,hq⟩ ⟨hl,hd,_,(rel.put k eb rv).keeps λc ys ec=>?_,q,es,ep,hq,h2,h3,h4,h5⟩
  rw[B4 (B57 ec e (λz=>nomatch z))]
  exact ec
end
section
variable {X:Cx} {pins:List (Addr×Obj)} {σ:St} {H:Hp} {s:Shared} {a:Addr} {kvs:List (Key×V)} {k:Key} {u:Value} {A:Around} {E:Value->Shared->Prop}
theorem C77 {v:V} {more:List Value} {Q:Value->Shared->Prop} (I:Inv X pins σ H s) (e:H a=some (.dK kvs)) (ry:E2 (kV k) u) (l:T3 kvs k=some v) (hm:more=[]\/∃x,more=[x])
  (h:∀w' s',Inv X pins σ (upd H a (.dK (A08 kvs k))) s'->E2 v w'->Q w' s'):wpAny (model X.prog X.w) A (call (.builtin "dict.pop") (.ref a::u::more)) Q E s:=by
 obtain⟨z,hd,vs,rel,dd⟩:=A9o I.hok e
 obtain⟨w',hw,rw'⟩:=U9.some_of (v:=v) (o:=valueAt vs k) (by rw[<-l];exact rel.val k)
 have hp:(keyPart u).isSome=true:=by
  cases k with
  | inl i=>obtain⟨t,q⟩:=(show ∃t,u=Value.int i t from ry);subst q;rfl
  | inr x=>obtain⟨t,q⟩:=(show ∃t,u=Value.str x t from ry);subst q;rfl
 have ha:argsOk "dict.pop" ⟨.ref a::u::more,[]⟩:=by
  rcases hm with q | ⟨x,q⟩
  ·subst q;exact PySem.F.args_dict_pop_2 _ _
  ·subst q;exact PySem.F.args_dict_pop_3 _ _ _
 refine call_meetsIn PySem.F.slot_dict_pop dd.typeIs PySem.F.entry_dict_pop ha (meets_dict_pop_there (U8 X.prog X.w) a (A5r ry) more hm hp)
  ⟨vs,w',dd,by rw[<-rel.length];exact z,hw,λh' dd' hs=>h w' _ ?_ rw'⟩
 have he:∃q,h'.get? a=some q:=let ⟨q,_,_,hq,_⟩:=dd';⟨q,hq⟩
 exact B20 I (by rw[e];exact True.intro) hs he (B86 (T8 (C72 kvs k) z) hd (rel.drop k) dd')
theorem C78 {Q:Value->Shared->Prop} (I:Inv X pins σ H s) (e:Rd H a (.dK kvs)) (h:∀t s',Inv X pins σ H s'->Q (.int kvs.length t) s'):wpAny (model X.prog X.w) A (call (.builtin "len") [.ref a]) Q E s:=by
 obtain⟨z,hd,vs,rel,dd⟩:=A33 I.hok e
 refine call_len_dict hd dd (by rw[<-rel.length];rw[sizeLine_eq] at z;lia) ?_
 rw[<-rel.length]
 exact h _ _ (I.tok _)
end
def B87 (i:Expr):Prop:=∀ov iv,subscripted i false ov iv=operate [ov,iv] (getItem ov iv)
theorem C79 {prog:Program} {w:World} {A:Around} {E:Value->Shared->Prop} {s:Shared} {env:Env} {value slice:Expr} {pos:Pos} {T id:String} {Q:Value->Shared->Prop}
  (hl:typeLookup (.type T) "__getitem__" = pure (some (.builtin id))) (hs:B87 slice)
  (h:wpAny (model prog w) A (eval value env) (λo s₁=>wpAny (model prog w) A (eval slice env) (λi s₂=>s₂.TypeIs o T/\wpAny (model prog w) A (getItem o i) Q E s₂) E s₁) E s) :
  wpAny (model prog w) A (eval (.Subscript value slice pos) env) Q E s:=by
 refine Subscript_ (wpAny_mono h (λo s₁ h₁=>wpAny_mono h₁ (λi s₂ h₂=>?_) λ_ _ x=>x) λ_ _ x=>x)
 obtain⟨hT,h₂⟩:=h₂
 unfold subscriptTail
 refine wpAny_bind ?_
 rw[getitemInPython_of_ne hT.not_modules]
 refine wpAny_bind (wpAny_specialOf hT hl ?_)
 have fin:wpAny (model prog w) A (subscripted slice false o i) (λr s₃=>wpAny (model prog w) A (letTemporaryGo value o r >>= λ_=>pure r) Q E s₃) E s₂:=by
  rw[hs o i]
  exact wpAny_operating (wpAny_mono h₂ (λr s₃ h₃=>wpAny_bind (wpAny_letTemporaryGo (wpAny_pure h₃))) λ_ _ x=>x)
 first
  | exact wpAny_pure (wpAny_bind fin)
  | exact wpAny_bind (wpAny_pure (wpAny_bind fin))
  | exact wpAny_bind fin
theorem C8a {X:Cx} {pins:List (Addr×Obj)} {σ:St} {H:Hp} {s:Shared} {a:Addr} {y:V} {o:Option V} (I:Inv X pins σ H s) (g:V6 H a y o):s.TypeIs (.ref a) "dict" :=by
 rcases g with ⟨kvs,k,e,_,_⟩ | ⟨kvs,k,b,e,_,_,_⟩
 ·obtain⟨_,_,vs,_,dd⟩:=A33 I.hok e
  exact dd.typeIs
 ·obtain⟨_,_,xs,_,dd⟩:=A5s I.hok e
  exact dd.typeIs
def C8b (td ty:TE):TE:=fun σ H Q=>td σ H λx H1=>ty σ H1 λy H2=>∃a v,x=.ref a/\V6 H2 a y (some v)/\Q v H2
def C8c (ty td:TE):TE:=fun σ H Q=>ty σ H λy H1=>td σ H1 λx H2=>∃a o,x=.ref a/\V6 H2 a y o/\Q (.bl o.isSome) H2
def C8d (ty td:TE):TE:=fun σ H Q=>ty σ H λy H1=>td σ H1 λx H2=>∃a o,x=.ref a/\V6 H2 a y o/\Q (.bl (!o.isSome)) H2
def C8e (td ty tv:TE):TS:=λD σ H=>tv σ H λv H1=>td σ H1 λx H2=>ty σ H2 λy H3=>∃a H4,x=.ref a/\j5 H3 a y v H4/\D.nx σ H4
section
variable {X:Cx} {o i e value:Expr} {pos pos' tpos:Pos} {td ty tv:TE}
theorem A7m (hu:X.A.units + 1 < cLine) (ho:PE X o td) (hi:PE X i ty) (hs:B87 i):PE X (.Subscript o i pos) (C8b td ty):=by
 intro pins s σ H Q I h
 refine C79 PySem.F.slot_dict_getitem.lookup hs (thn (ho pins s σ H _ I h) λu s1 ⟨x,H1,I1,rx,q1⟩=>thn (hi pins s1 σ H1 _ I1 q1) λiv s2 ⟨y,H2,I2,ry,a,v,ex,g,q2⟩=>?_)
 subst ex
 obtain rfl:u=Value.ref a:=rx
 exact⟨C8a I2 g,C73 hu I2 g ry λw' s3 I3 rw'=>⟨v,H2,I3,rw',q2⟩⟩
theorem B88 (hu:X.A.units + 1 < cLine) (hi:PE X i ty) (ho:PE X o td):PC X .In i o (C8c ty td):=by
 intro pins s σ H Q I h
 refine thn (hi pins s σ H _ I h) λiv s1 ⟨y,H1,I1,ry,q1⟩=>thn (ho pins s1 σ H1 _ I1 q1) λu s2 ⟨x,H2,I2,rx,a,ov,ex,g,q2⟩=>?_
 subst ex
 obtain rfl:u=Value.ref a:=rx
 exact C74 hu I2 g ry λs3 I3=>⟨.bl ov.isSome,H2,I3,rfl,q2⟩
theorem C8f (hu:X.A.units + 1 < cLine) (hi:PE X i ty) (ho:PE X o td):PC X .NotIn i o (C8d ty td):=by
 intro pins s σ H Q I h
 refine thn (hi pins s σ H _ I h) λiv s1 ⟨y,H1,I1,ry,q1⟩=>thn (ho pins s1 σ H1 _ I1 q1) λu s2 ⟨x,H2,I2,rx,a,ov,ex,g,q2⟩=>?_
 subst ex
 obtain rfl:u=Value.ref a:=rx
 exact C75 hu I2 g ry λs3 I3=>⟨.bl (!ov.isSome),H2,I3,rfl,q2⟩
theorem A5t (hu:X.A.units + 1 < cLine) (ho:PE X o td) (hi:PE X i ty) (hv:PE X value tv) (hs:swapsWith value (some (.Subscript o i pos')) pos.line X.env=pure false) :
  PS X (.Assign [.Subscript o i pos'] value pos) (C8e td ty tv):=by
 intro pins s σ H D I h
 refine wpAny_Assign_Subscript (thn (hv pins s σ H _ I h) λr s1 ⟨v,H1,I1,rv,q1⟩=>thn (ho pins s1 σ H1 _ I1 q1) λu s2 ⟨x,H2,I2,rx,q2⟩=>thn (hi pins s2 σ H2 _ I2 q2) λiv s3 ⟨y,H3,I3,ry,a,H4,ex,g,q3⟩=>?_) hs
 subst ex
 obtain rfl:u=Value.ref a:=rx
 exact C76 hu I3 g ry rv λs4 I4=>⟨σ,H4,I4,q3⟩
end
theorem C8g {P:Program} {w:World} {H:Hp} (h:Heap) (hb:sysModules < h.objs.size):K3 P w H (h.push { cls:=.type "dict",data:=.dict #[] }) h.objs.size (.dK []):=
 ⟨J7 _,beq_eq_false_iff_ne.mpr (Ne.symm (O4 hb)),[],.nil,Heap.DictOf.new h⟩
theorem C8h {P:Program} {w:World} {H:Hp} (h:Heap) (hb:sysModules < h.objs.size):K3 P w H (h.push { cls:=.type "dict",data:=.dict #[] }) h.objs.size (.dT []):=
 ⟨J7 _,beq_eq_false_iff_ne.mpr (Ne.symm (O4 hb)),[],.nil,_,#[],0,O5 _ rfl,⟨rfl,rfl,rfl⟩,rfl,rfl,j8⟩
def C8i:TE:=λ_ H Q=>∀p,H p=none->Q (.ref p) (upd H p (.dK []))
def C8j:TE:=λ_ H Q=>∀p,H p=none->Q (.ref p) (upd H p (.dT []))
section
variable {X:Cx} {pos:Pos}
theorem B89:PE X (.Dict [] [] pos) C8i:=λpins s σ H Q I h=>
 wpAny_Dict_empty ⟨.ref s.heap.objs.size,_,I.laid (a:=s.heap.objs.size) (o:=.dK []) (t':=s.toks) (λ_ _ q=>K2 _ q) (E1 _) (C8g s.heap I.big),rfl,h _ (I.hok.fresh (E1 _))⟩
theorem C8k:PE X (.Dict [] [] pos) C8j:=λpins s σ H Q I h=>
 wpAny_Dict_empty ⟨.ref s.heap.objs.size,_,I.laid (a:=s.heap.objs.size) (o:=.dT []) (t':=s.toks) (λ_ _ q=>K2 _ q) (E1 _) (C8h s.heap I.big),rfl,h _ (I.hok.fresh (E1 _))⟩
end
structure M1 (X:Cx) (o:Expr) (m:Str) (apos:Pos) (e:Expr) (cpos:Pos):Prop where
 base:attributeBase o m X.env (eval o X.env)=eval o X.env
 few:((backTo cpos (starEach [e] X.env)).all (λx=>!x.1)&&(backToKw cpos (keywordEach [] X.env)).all (λx=>x.1.isSome)
  &&decide (([e]:List Expr).length + ([]:List Keyword).length + (if ([]:List Keyword).isEmpty then 0 else 1) < 30))=true
 line:(apos.endLine == cpos.line)=true
 trees:backTo cpos (starEach [e] X.env)=[(false,eval e X.env)]
def IsD (H:Hp) (a:Addr):Prop:=(∃kvs,Rd H a (.dK kvs))\/∃kvs,Rd H a (.dT kvs)
theorem C8l {X:Cx} {pins:List (Addr×Obj)} {σ:St} {H:Hp} {s:Shared} {a:Addr} (I:Inv X pins σ H s) (d:IsD H a) :
  s.TypeIs (.ref a) "dict" /\(∀b,Value.ref a=.ref b->∃ob,s.heap.get? b=some ob/\ob.dict=none)/\(a == sysModules)=false:=by
 rcases d with ⟨kvs,e⟩ | ⟨kvs,e⟩
 ·obtain⟨_,hd,vs,_,dd⟩:=A33 I.hok e
  refine⟨dd.typeIs,λb q=>?_,hd⟩
  cases q
  obtain⟨ob,_,_,h1,h2,_⟩:=dd
  exact⟨ob,h1,h2.2.1⟩
 ·obtain⟨_,hd,xs,_,dd⟩:=A5s I.hok e
  refine⟨dd.typeIs,λb q=>?_,hd⟩
  cases q
  obtain⟨ob,_,_,h1,h2,_⟩:=dd
  exact⟨ob,h1,h2.2.1⟩
section
variable {X:Cx} {pins:List (Addr×Obj)} {σ:St} {H:Hp} {s:Shared} {a:Addr} {y d:V} {u r:Value} {o:Option V} {A:Around} {E:Value->Shared->Prop}
end
def C8m (td ty:TE):TE:=fun σ H Q=>td σ H λx H1=>∃a,x=.ref a/\IsD H1 a/\ty σ H1 λy H2=>∃kvs k v,H2 a=some (.dK kvs)/\y=kV k/\T3 kvs k=some v/\Q v (upd H2 a (.dK (A08 kvs k)))
section
variable {X:Cx} {o e f:Expr} {apos cpos:Pos} {td ty tx:TE}
theorem B9a (ho:PE X o td) (he:PE X e ty) (m:M1 X o "pop" apos e cpos):PE X (.Call (.Attribute o "pop" apos) [e] [] cpos) (C8m td ty):=by
 intro pins s σ H Q I h
 refine wpAny_Call_method m.base m.few m.line PySem.F.plainAttrs_dict PySem.F.slot_dict_pop PySem.F.type_dict_pop (thn (ho pins s σ H _ I h) λu s1 ⟨x,H1,I1,rx,a,ex,d,q1⟩=>?_)
 subst ex
 obtain rfl:u=Value.ref a:=rx
 obtain⟨t1,t2,_⟩:=C8l I1 d
 refine⟨t1,t2,?_⟩
 rw[m.trees]
 refine Calls.callWith_builtin rfl (Calls.evalArgs_plain (Calls.spliced_cons (thn (he pins s1 σ H1 _ I1 q1) λiv s2 ⟨y,H2,I2,ry,kvs,k,v,ea,ey,l,q2⟩=>Calls.spliced_nil ?_)))
 subst ey
 exact C77 I2 ea ry l (.inl rfl) λw' s3 I3 rw'=>⟨v,_,I3,rw',q2⟩
end
section
variable {X:Cx} {pins:List (Addr×Obj)} {σ:St} {H:Hp} {s:Shared} {a:Addr} {kvs:List (Key×V)} {A:Around} {E:Value->Shared->Prop}
end
section
variable {X:Cx} {pins:List (Addr×Obj)} {σ:St} {H:Hp} {s:Shared} {a:Addr} {y:V} {u:Value} {A:Around} {E:Value->Shared->Prop}
end
section
variable {prog:Program} {w:World} {A:Around} {E:Value->Shared->Prop} {s:Shared}
end
end L2
namespace My
open PySem L2
theorem u1 {n:Nat} (h:n + 64 < cLine):n + 1 < cLine:=by lia
section
variable {C:DC} {col:Addr->Nat} {ρ:List Sl} {σ:St} {P:List Pe} {H H':Hp} {p:Addr}
end
open PySem.Spec PyProof.Rows
section
variable {P:Program} {w:World} {K:B0} {mg:Str->Option Value} {base:Heap}
open Classical in
end
section
variable {X:Cx} {C:DC} {st:Stmt} {e a b:Expr} {te tk:DE} {u:DA} {pos:Pos}
end
end My
namespace My
open PySem L2
mutual
def C8n:PyData->List (List PyData)
 | .list ds=>ds::B21 ds
 | .tuple ds=>B21 ds
 | _=>[]
def B21:List PyData->List (List PyData)
 | []=>[]
 | d::ds=>C8n d++B21 ds
end
mutual
def szD:PyData->Nat
 | .list ds=>szL ds + 1
 | .tuple ds=>szL ds + 1
 | _=>1
def szL:List PyData->Nat
 | []=>0
 | d::ds=>szD d + szL ds
end
section
variable {X:Cx} {C:DC} {st:Stmt} {u:DA}
variable {a b:Expr} {tb:DE} {pos:Pos}
variable {a b:Expr} {tb:DE} {pos:Pos}
end
end My
namespace L2
open PySem PySem.Spec PyProof.Rows
end L2
namespace My
open PySem L2
open PySem.Spec PyProof.Rows
section
variable {C:DC} {col:Addr->Nat} {ρ:List Sl} {σ:L2.St} {P:List Pe} {H H':Hp} {p:Addr}
end
section
variable {X:Cx} {C:DC} {st:Stmt} {e:Expr} {te:DE} {u:DA} {pos:Pos}
end
end My
namespace My
open PySem L2
section
variable {X:Cx} {C:DC} {st:Stmt} {e:Expr} {ta:DE}
end
end My
namespace My
abbrev Ct:=List (List (Option Int))
abbrev Spt:=Nat×Nat
def ca (t:Ct) (s:Spt):Option Int:=gt (t.getD s.1 []) s.2
open PySem L2
def mxI (a b:Int):Int:=if b > a then b else a
end My
namespace L2
open PySem PySem.Spec PyProof.Rows
section
variable {X:Cx}
end
end L2
namespace My
open PySem L2
section
variable {C:DC}
end
end My
namespace L2
open PySem PySem.Spec PyProof.Rows
section
variable {X:Cx} {pins:List (Addr×Obj)} {σ:St} {H:Hp} {s:Shared}
end
section
variable {X:Cx}
end
section
variable {prog:Program} {w:World} {K:Type} [DecidableEq K] {knd:HeapKind prog w K} {A:Around} {E:Value->Shared->Prop} {s:Shared}
end
section
variable {X:Cx} {pins:List (Addr×Obj)} {σ:St} {H:Hp} {s:Shared} {a b:Addr} {kvs:List (List Key×V)} {k:List Key} {A:Around} {E:Value->Shared->Prop}
end
section
variable {prog:Program} {w:World} {A:Around} {E:Value->Shared->Prop} {s:Shared}
end
section
variable {prog:Program} {w:World} {A:Around} {R:Result->Shared->Prop} {I:Addr} {fp wr:List Addr} {n:Nat} {P:Nat->Value->Prop} {St:Nat->Heap->Prop}
end
section
variable {X:Cx}
end
theorem B9b:∀{kvs:List (Key×V)} {vs:List (Key×Value)} {ns:List Int} {its:List Value},KV kvs vs->kvs.map (·.1)=ns.map Sum.inl->its.length=vs.length->(∀(j:Nat) (v:Value),its[j]?=some v->∃k x,vs[j]?=some (k,x)/\∀i,k=Sum.inl i->∃t,v=Value.int i t)->C4 (ns.map V.int) its
 | [],[],[],[],_,_,_,_=>.nil
 | [],[],[],_::_,_,_,hl,_=>nomatch hl
 | [],[],_::_,_,_,h,_,_=>nomatch h
 | [],_::_,_,_,h,_,_,_=>nomatch h
 | _::_,[],_,_,h,_,_,_=>nomatch h
 | _::_,_::_,[],_,_,h,_,_=>nomatch h
 | _::_,_::_,_::_,[],_,_,hl,_=>nomatch hl
 | p::kvs,q::vs,n::ns,u::its,h,hk,hl,hp=>by
  obtain⟨k,x,e,e1⟩:=hp 0 u rfl
  cases e
  have h1:p.1=k/\KV kvs vs:=by
   cases h with
   | cons a b=>exact⟨a.1,b⟩
  rw[O9,O9] at hk
  injection hk with hk1 hk2
  rw[h1.1] at hk1
  exact .cons (e1 n hk1) (B9b h1.2 hk2 (by simpa using hl) λj v hj=>hp (j + 1) v hj)
section
variable {prog:Program} {w:World} {A:Around} {E:Value->Shared->Prop} {s:Shared} {T:String} {r d:Addr} {n:Nat} {P:Nat->Value->Prop} {OK:Heap->Prop}
theorem C8o {R:List Value->Shared->Prop} (src:PySem.W.KdlSrc prog w T r d n P OK) (calm:A.handled=none) (ok:OK s.heap) (few:n<=sizeLine)
  (k:∀(g:Heap) (t:Nat) (xs:Array Value),(∀b o,s.heap.get? b=some o->g.get? b=some o)->s.heap.objs.size<=g.objs.size->ItemsOf P xs n->R xs.toList { s with heap:=g,toks:=t }) :
  wpAny (model prog w) A (collect (.ref r)) R E s:=by
 obtain⟨lt1,lt2⟩:=src.there _ ok
 unfold collect
 refine wpAny_bind (wpAny_runValue (codeAny_builtin entry_proto_collect' ?_));rw[Around.under_plainId PySem.F.plain_proto_collect _]
 show wpAny _ A.in1 (newList [] >>= λq=>again (.builtin "list.__iadd__" ⟨[q,.ref r],[]⟩)) _ _ s
 refine wpAny_bind (wpAny_newObj_type (wpAny_pure ⟨plainId_quiet PySem.F.plain_list_iadd _,codeAny_builtin entry_list_iadd' ?_⟩))
 rw[Around.under_plainId PySem.F.plain_list_iadd _];show wpAny _ A.in1 (Builtin.List.listExtendWith (.ref s.heap.objs.size) (.ref r) (.ref s.heap.objs.size)) _ _ _
 have base:(s.heap.push { cls:=.type "list",data:=.seq ([]:List Value).toArray }).get? s.heap.objs.size=some { cls:=.type "list",data:=.seq #[] }:=O5 _ rfl
 have walk:=PySem.W.kdl_extend (A:=A) (s:={ s with heap:=s.heap.push { cls:=.type "list",data:=.seq ([]:List Value).toArray } })
  (R:=λ(q:Result) (s':Shared)=>∃(g:Heap) (t:Nat) (xs:Array Value) (c:Nat),q=.ok (.ret (.ref s.heap.objs.size))/\s'={ s with heap:=g,toks:=t }/\(∀b o,s.heap.get? b=some o->g.get? b=some o)/\
   g.get? s.heap.objs.size=some { cls:=.type "list",dict:=none,data:=.seq xs c,slots:=#[] }/\ItemsOf P xs n)
  src calm (src.keep _ _ ok λb _ o z=>K2 _ z) s.heap.objs.size (A4i lt1) (A4i lt2) (.ref s.heap.objs.size) 0 base
  (λg t xs c hk hS hx=>⟨g,t,xs,c,rfl,rfl,λb o z=>hk b o (O4 (G8 z)) (K2 _ z),hS,hx⟩) few
 have fin:∀{g:Heap} {t:Nat} {xs:Array Value} {c:Nat},(∀b o,s.heap.get? b=some o->g.get? b=some o)->g.get? s.heap.objs.size=some { cls:=.type "list",dict:=none,data:=.seq xs c,slots:=#[] }->ItemsOf P xs n->R xs.toList { s with heap:=g,toks:=t }:=
  λhk hS hx=>k _ _ _ hk (A58 (G8 hS)) hx
 refine wpAny_mono walk (λf s' x=>?_) λe s' x=>by obtain⟨_,_,_,_,z,_⟩:=x;cases z
 cases f with
 | done f=>
  obtain⟨g,t,xs,c,z,rfl,hk,hS,hx⟩:=x
  cases z
  show wpAny _ A (load s.heap.objs.size >>= _) _ _ _;exact wpAny_bind (wpAny_load hS (wpAny_pure (fin hk hS hx)))
 | again c₁=>
  refine⟨x.1,codeAny_mono x.2 λq s₂ y=>?_⟩
  obtain⟨g,t,xs,c,rfl,rfl,hk,hS,hx⟩:=y
  show wpAny _ A (load s.heap.objs.size >>= _) _ _ _;exact wpAny_bind (wpAny_load hS (wpAny_pure (fin hk hS hx)))
end
section
variable {X:Cx}
theorem B22 (hc:X.calm=true):U0 X (.builtin "sorted") (λxs H Q=>∃(p:Addr) (kvs:List (Key×V)) (ns:List Int),xs=[.ref p]/\H p=some (.dK kvs)/\kvs.map (·.1)=ns.map Sum.inl/\ns.length < 64/\∀(l:Addr) (ms:List Int),H l=none->ms.Perm ns->ms.Pairwise (·<=·)->Q (.ref l) (upd H l (.lst (ms.map V.int)))):=by
 intro pins s σ H xs us Q I r h
 obtain⟨p,kvs,ns,rfl,e,hkeys,hn,q⟩:=h
 obtain⟨u,rfl,rx⟩:=U1 r
 cases rx
 obtain⟨z,lo,vs,rel,dd⟩:=A9o I.hok e
 obtain⟨ep,hat⟩:=dd.dictAt
 have hh:=I.ok.hd hc
 have ln:kvs.length=ns.length:=by have:=congrArg A6b hkeys;simpa using this
 have lv:vs.length=ns.length:=by rw[<-rel.length,ln]
 refine Calls.call_function_entry kind_sorted plain_sorted entry_sorted (args_sorted1 _) ?_
 unfold Builtin.«sorted»
 refine wpAny_bind (m:=checkCount "sorted" 1 1 _) (wpAny_pure ?_)
 refine wpAny_bind (C8o (A:=X.A.in1) (PySem.W.kdl_dict (knd:=U8 X.prog X.w) (kvs:=vs) (ep:=ep) lo) hh hat (by rw[<-rel.length];exact z) λh' tk acc hk ge hacc=>?_)
 have hl:acc.toList.length=vs.length:=by rw[A1f];exact hacc.1
 have hv:C4 (ns.map V.int) acc.toList:=B9b rel hkeys hl λj v hj=>by
  obtain⟨k,x,e1,e2⟩:=hacc.2 j v (by rw[<-B5z];exact hj)
  refine⟨k,x,e1,λi hi=>?_⟩
  subst hi
  have e2:A1i (Sum.inl i) v=true:=(C2w X.prog X.w (Sum.inl i) v).symm.trans e2
  rcases w4 e2 with ⟨j,t,e3,e4⟩ | ⟨y,t,e3,_⟩
  ·cases e3;exact⟨t,e4⟩
  ·cases e3
 have hi:=B60 hv
 have h64:acc.toList.length < 64:=by rw[hl,lv];exact hn
 refine wpAny_bind (wpAny_newList ?_ (by rw[hl,<-rel.length];exact z))
 have hoL:(h'.push (seqObj "list" acc.toList.toArray 0)).get? h'.objs.size=some (seqObj "list" acc.toList.toArray 0):=O5 _ rfl
 refine wpAny_bind (wpAny_holding (wpAny_call_entry slot_list_sort ⟨_,hoL,rfl⟩ entry_list_sort (list_sort_tree hoL hi h64 λout ms a1 a2 a3=>⟨_,rfl,?_⟩) (args_list_sort _)))
 refine wpAny_pure ⟨_,rfl,?_⟩
 have hk2:∀b o,s.heap.get? b=some o->(sortedHeap (h'.push (seqObj "list" acc.toList.toArray 0)) h'.objs.size acc.toList out).get? b=some o:=λb o z=>by
  have z':=hk b o z
  have lt:=G8 z'
  rw[sortedHeap_old (O4 lt) (by rw[size_push'];exact Nat.lt_succ_of_lt lt)]
  exact K2 _ z'
 obtain⟨en,he⟩:=sortedHeap_at (out:=out) hoL
 have hv2:C4 (ms.map V.int) out.toList:=B1u a1
 refine⟨.ref h'.objs.size,_,I.laid (t':=tk) hk2 ge (show K3 X.prog X.w _ _ _ (.lst (ms.map V.int)) from ⟨?_,out.toList,en,hv2,by simpa [seqObj] using he⟩),rfl,q _ ms (I.hok.fresh ge) a2 a3⟩
 rw[C1,a2.length_eq,sizeLine_eq]
 lia
theorem C8p:U0 X (.type "dict") (λxs H Q=>∃(p:Addr) (kvs:List (Key×V)),xs=[.ref p]/\H p=some (.dK kvs)/\∀l,H l=none->Q (.ref l) (upd H l (.dK kvs))):=by
 intro pins s σ H xs us Q I r h
 obtain⟨p,kvs,rfl,e,q⟩:=h
 obtain⟨u,rfl,rx⟩:=U1 r
 cases rx
 obtain⟨z,lo,vs,rel,dd⟩:=A9o I.hok e
 refine kt_call_dict lo dd (by rw[<-rel.length];exact z) λh' hm hs=>?_
 have hk:∀b o,s.heap.get? b=some o->h'.get? b=some o:=λb o y=>by
  have lt:=G8 y
  rw[hs.2 b (O4 lt)]
  exact K2 _ y
 refine⟨.ref s.heap.objs.size,_,I.laid (t':=s.toks) hk (E1 _) (show K3 X.prog X.w _ _ _ (.dK kvs) from ⟨z,?_,vs,rel,hm⟩),rfl,q _ (I.hok.fresh (E1 _))⟩
 exact beq_eq_false_iff_ne.mpr (A4i I.big)
theorem C8q:U0 X (.builtin "len") (λxs H Q=>∃a kvs,xs=[V.ref a]/\H a=some (.dK kvs)/\Q (.int kvs.length) H):=by
 intro pins s σ H xs us Q I r h
 obtain⟨a,kvs,rfl,ha,q⟩:=h
 obtain⟨u,rfl,ru⟩:=U1 r
 cases ru
 exact C78 I (.inl ha) λt s' I'=>⟨.int kvs.length,H,I',⟨t,rfl⟩,q⟩
end
section
variable {prog:Program} {w:World} {K:Type} [DecidableEq K] {knd:HeapKind prog w K} {A:Around} {E:Value->Shared->Prop} {s:Shared}
theorem B9c {nm:String} {a b:Addr} {xs ys:List (K×Addr×Value)} {Q:Bool->Shared->Prop} (ru:knd.room A) (sa:(a == sysModules)=false) (sb:(b == sysModules)=false) (ha:s.heap.DictOfH knd a xs) (hb:s.heap.DictOfH knd b ys) (hl:xs.length=ys.length)
  (hit:∀x∈xs,∃p,atKey ys x.1=some p/\SeqAt.EqAt A s x.2.2 p.2 true) (h:Q true s):wpAny (model prog w) A (Builtin.Dict.samePairs nm a b) Q E s:=by
 obtain⟨oa,ea,pa,hoa,_,hda,hea,hia,hna⟩:=ha
 obtain⟨ob,eb,pb,hob,_,hdb,heb,hib,hnb⟩:=hb
 have la:ea.size=xs.length:=by rw[<-A1f,hea,C1]
 have lb:eb.size=ys.length:=by rw[<-A1f,heb,C1]
 unfold Builtin.Dict.samePairs Builtin.Dict.showsAll
 rw[if_neg (show ¬ (a == sysModules)=true by rw[sa];exact Q8),if_neg (show ¬ (b == sysModules)=true by rw[sb];exact Q8)]
 refine wpAny_bind (wpAny_pure (wpAny_bind (wpAny_pure ?_)))
 refine wpAny_bind (wpAny_dictEntries hoa hda ?_)
 dsimp only
 refine wpAny_bind (wpAny_dictEntries hob hdb ?_)
 rw[if_neg (by simp [la,lb,hl])]
 refine wpAny_bind (wpAny_dictEpoch hoa hda ?_)
 refine wpAny_bind ?_
 rw[Std.Legacy.Range.forIn_eq_forIn_range']
 refine wpAny_forIn_list _ (λP3 b s'=>s'=s/\b=(none,())/\∀i∈P3,i < xs.length) _ ?_ ?_ _ _ ⟨rfl,rfl,λi hi=>?_⟩
 ·rintro i P3 b s' ⟨rfl,rfl,hr⟩
  have hi:=hr i D4
  refine wpAny_bind (wpAny_dictEntries hoa hda ?_)
  have he:ea[i]?=some (entryOfKey knd xs[i]):=by rw[entry_at hea i,M9 hi];rfl
  rw[he]
  dsimp only
  obtain⟨p,hp,eq⟩:=hit xs[i] (B54 hi)
  refine wpAny_bind (wpAny_holding ?_)
  refine wpAny_bind ?_
  refine wpAny_dictFind_heap (k:=xs[i].1) ru (hia _ (B54 hi)) hob hdb heb hib hnb ?_ ?_
  ·intro hno
   rw[atKey_none_of_get hno] at hp
   cases hp
  ·intro j q hj
   rw[atKey_of_get hnb hj] at hp
   have hq:q=p:=Option.some.inj hp
   subst hq
   refine wpAny_bind (wpAny_dictEntries hob hdb ?_)
   have he':eb[j]?=some (entryOfKey knd (xs[i].1,q)):=by rw[entry_at heb j,hj];rfl
   rw[he']
   dsimp only
   refine wpAny_holding ?_
   refine eq _ _ _ _ ?_
   rw[if_neg (by simp)]
   refine wpAny_bind (wpAny_dictEpoch hoa hda ?_)
   rw[if_neg (by simp)]
   exact wpAny_pure ⟨rfl,rfl,λi h=>hr i (C8 _ h)⟩
 ·rintro b s' ⟨rfl,rfl,_⟩
  exact wpAny_pure h
 ·obtain⟨k,hk,e⟩:=List.mem_range'.mp hi
  have:Std.Legacy.Range.size ⟨0,ea.size,1,DD⟩=ea.size:=by simp [Std.Legacy.Range.size]
  simp only at hk e
  rw[this] at hk
  lia
theorem C8r {op:CmpOp} {a b:Addr} {xs ys:List (K×Addr×Value)} {Q:Value->Shared->Prop} (ho:op=.Eq\/op=.NotEq) (ru:knd.room A.in1) (sa:(a == sysModules)=false) (sb:(b == sysModules)=false) (ha:s.heap.DictOfH knd a xs) (hb:s.heap.DictOfH knd b ys) (hl:xs.length=ys.length) (hu:A.units < cLine)
  (hit:∀x∈xs,∃p,atKey ys x.1=some p/\SeqAt.EqAt A.in1 s x.2.2 p.2 true) (h:Q (.bool (decide (op=.Eq))) s):wpAny (model prog w) A (compareOp op (.ref a) (.ref b)) Q E s:=by
 have ta:=ha.typeIs
 have tb:=hb.typeIs
 rcases ho with rfl | rfl
 ·refine wpAny_richCompare_same_room (op:=.Eq) ta tb PySem.F.slot_dict_eq (wpAny_call_entry PySem.F.slot_dict_eq ta PySem.F.entry_dict_eq ?_ (PySem.F.args_dict_eq_2 _ _)) hu
  show wpAny _ _ (Builtin.Dict.dictSlotArgs "__eq__" ⟨[.ref a,.ref b],[]⟩ >>= _) _ _ s
  refine wpAny_bind ?_
  unfold Builtin.Dict.dictSlotArgs
  refine wpAny_bind (wpAny_notOrdered_dict ta ?_)
  show wpAny _ _ (pure (Value.ref a,Value.ref b)) _ _ s
  refine wpAny_pure ?_
  refine wpAny_bind (wpAny_isInstance (T:= "dict") tb PySem.F.sub_dict_dict ?_)
  simp only[A4p,A6f,if_false]
  refine wpAny_bind (wpAny_pure (wpAny_bind (wpAny_pure ?_)))
  refine wpAny_bind (B9c ru sa sb ha hb hl hit ?_)
  exact wpAny_pure ⟨_,rfl,λx=>(nomatch x),h⟩
 ·refine wpAny_richCompare_same_room (op:=.NotEq) ta tb PySem.F.slot_dict_ne (wpAny_call_entry PySem.F.slot_dict_ne ta PySem.F.entry_dict_ne ?_ (PySem.F.args_dict_ne_2 _ _)) hu
  show wpAny _ _ (Builtin.Dict.dictSlotArgs "__ne__" ⟨[.ref a,.ref b],[]⟩ >>= _) _ _ s
  refine wpAny_bind ?_
  unfold Builtin.Dict.dictSlotArgs
  refine wpAny_bind (wpAny_notOrdered_dict ta ?_)
  show wpAny _ _ (pure (Value.ref a,Value.ref b)) _ _ s
  refine wpAny_pure ?_
  refine wpAny_bind (wpAny_isInstance (T:= "dict") tb PySem.F.sub_dict_dict ?_)
  simp only[A4p,A6f,if_false]
  refine wpAny_bind (wpAny_pure (wpAny_bind (wpAny_pure ?_)))
  refine wpAny_bind (B9c ru sa sb ha hb hl hit ?_)
  refine wpAny_pure ⟨_,rfl,?_,?_⟩
  ·exact λx=>nomatch x
  ·exact h
end
def B9d (K:B0) (t:Bool):R2:=λx y H Q=>∃a b kvs kvs',x=.ref a/\y=.ref b/\H a=some (.dT kvs)/\H b=some (.dT kvs')/\kvs.length=kvs'.length/\(∀k v,(k,v)∈kvs->∃v' da db,T3 kvs' k=some v'/\X7 K H v da/\X7 K H v' db/\SeqAt.shaped da=true/\SeqAt.shaped db=true/\PyData.eqv da db=true)/\Q (.bl t) H
theorem KT.of_mem {H:Hp} {kvs:List (List Key×V)} {xs:List (List Key×Addr×Value)} (r:KT H kvs xs):∀x∈xs,∃v,(x.1,v)∈kvs/\E2 v x.2.2:=by
 induction r with
 | nil=>intro x hx;cases hx
 | @cons p q ps qs h t ih=>
  intro x hx
  rcases J1.mp hx with rfl | hx
  ·exact⟨p.2,by rw[<-h.1];exact D4,h.2.2⟩
  ·obtain⟨v,h1,h2⟩:=ih x hx
   exact⟨v,C8 _ h1,h2⟩
theorem B9e {X:Cx} {op:CmpOp} (ho:op=.Eq\/op=.NotEq) (hu:X.A.units + 100 < cLine):OpR X (compareOp op) (B9d X.K (decide (op=.Eq))):=by
 intro pins s σ H x y v u Q I rx ry h
 obtain⟨a,b,kvs,kvs',rfl,rfl,ha,hb,hl,hit,q⟩:=h
 cases rx
 cases ry
 obtain⟨_,a1,xs,ra,da⟩:=B2z I.hok ha
 obtain⟨_,b1,ys,rb,db⟩:=B2z I.hok hb
 refine C8r (knd:=tupleKind (U8 X.prog X.w)) ho (tupleKind_room_in1 (by lia)) a1 b1 da db (by rw[<-Paired.length ra,<-Paired.length rb];exact hl) (by lia) (λx hx=>?_) ⟨.bl _,H,I,rfl,q⟩
 obtain⟨v,hv,rv⟩:=KT.of_mem ra x hx
 obtain⟨v',d1,d2,e,t1,t2,c1,c2,eq⟩:=hit _ _ hv
 have z:=KT.val rb x.1
 rw[e] at z
 obtain⟨p,hp,rp⟩:=z.some_of
 obtain⟨p',hp',rfl⟩:=A0v.mp hp
 obtain⟨as,r1⟩:=t1.reads I rv
 obtain⟨bs,r2⟩:=t2.reads I rp
 have:=PySem.W.keq_at (A:=X.A) r1 r2 c1 c2 (show X.A.units + 1 + 64 < cLine by lia)
 rw[eq] at this
 exact⟨p',hp',this⟩
end L2
namespace My
open PySem L2
open PySem.Spec PyProof.Rows
mutual
def A34:PyData->Bool
 | .none=>true
 | .bool _=>true
 | .int _=>true
 | .str _=>true
 | .tuple xs=>B9f xs
 | .list _=>false
 | .dict _=>false
def B9f:List PyData->Bool
 | []=>true
 | d::ds=>A34 d&&B9f ds
end
open Classical in
section
variable {X:Cx} {C:DC} {e a b:Expr} {es:List Expr} {t ta tb te:DE} {u:DA} {pos:Pos} {st:Stmt} {tg:Expr}
end
end My
namespace My
open PySem L2
open Classical in
section
variable {C:DC} {col col2:Addr->Nat} {ρ:List Sl} {σ:L2.St} {P:List Pe} {H H2:Hp} {i:Nat} {d:PyData}
open Classical in
open Classical in
end
section
variable {X:Cx} {C:DC} {e:Expr} {st:Stmt} {t te:DE} {u:DA} {i:Nat}
open Classical in
mutual
def C8s:PyData->PyData
 | .tuple xs=>.tuple (B9g xs)
 | .list _=>.list []
 | .none=>.none
 | .bool b=>.bool b
 | .int i=>.int i
 | .str s=>.str s
 | .dict d=>.dict d
def B9g:List PyData->List PyData
 | []=>[]
 | d::ds=>C8s d::B9g ds
end
open Classical in
open Classical in
end
end My
namespace L2
open PySem PySem.Spec PyProof.Rows
section
variable {X:Cx}
end
end L2
namespace My
open PySem L2
section
variable {X:Cx} {C:DC} {a b:Expr} {te:DE} {pos:Pos} {i:Nat}
end
section
variable {X:Cx} {C:DC} {e a b:Expr} {t:DE} {tt:DT} {i:Nat} {pos:Pos}
end
section
variable {X:Cx} {C:DC} {e:Expr} {u:DA} {i:Nat}
end
section
variable {C:DC} {col:Addr->Nat} {ρ:List Sl} {σ:St} {P:List Pe} {H H':Hp} {p:Addr}
end
section
variable {X:Cx} {C:DC} {st:Stmt} {e a b:Expr} {te tk:DE} {pos:Pos}
theorem A9.lenD {F:Addr->Prop} {H:Hp}:∀{vs:List V} {ds:List PyData},A9 F H vs ds->vs.length=ds.length
 | _,_,.nil=>rfl
 | _,_,.cons _ t=>by rw[G6,G6,A9.lenD t]
end
section
variable {X:Cx} {C:DC} {st:Stmt}
end
section
variable {X:Cx} {C:DC} {st:Stmt} {i j:Nat}
end
section
variable {X:Cx} {C:DC} {e:Expr} {te tp tl:DE} {i:Nat}
open Classical in
end
open PySem.Spec
section
variable {X:Cx} {C:DC} {a st:Expr} {pos:Pos}
end
section
variable {X:Cx} {C:DC}
end
mutual
def okS:PyData->Bool
 | .none=>true
 | .bool _=>true
 | .int _=>true
 | .str _=>true
 | .tuple xs=>B23 xs
 | .list xs=>B23 xs
 | .dict ks=>ks.isEmpty
def B23:List PyData->Bool
 | []=>true
 | d::ds=>okS d&&B23 ds
end
section
variable {X:Cx} {pins:List (Addr×Obj)} {σ:St} {H:Hp} {s:Shared} {F:Addr->Prop}
end
section
variable {C:DC}
end
open PyProof.Rows
section
variable {X:Cx} {C:DC} {st:Stmt} {i:Nat}
open Classical in
end
section
variable {X:Cx} {C:DC} {a b:Expr} {tl tb:DE} {pos:Pos}
end
mutual
inductive FpV (F:Addr->Prop) (H:Hp):V->PyData->List Addr->Prop
 | non:FpV F H .non .none []
 | bl (b):FpV F H (.bl b) (.bool b) []
 | int (i):FpV F H (.int i) (.int i) []
 | str (x):FpV F H (.str x) (.str x) []
 | lst {a xs ds fp}:F a->H a=some (.lst xs)->E7 F H xs ds fp->FpV F H (.ref a) (.list ds) (a::fp)
 | tup {a xs ds fp}:F a->H a=some (.tup xs)->E7 F H xs ds fp->FpV F H (.ref a) (.tuple ds) fp
inductive E7 (F:Addr->Prop) (H:Hp):List V->List PyData->List Addr->Prop
 | nil:E7 F H [] [] []
 | cons {x xs d ds fp fps}:FpV F H x d fp->E7 F H xs ds fps->E7 F H (x::xs) (d::ds) (fp++fps)
end
theorem A9p {F:Addr->Prop} {H:Hp} {m1:V->PyData->List Addr->Prop} {m2:List V->List PyData->List Addr->Prop} (c1:m1 .non .none []) (c2:∀b,m1 (.bl b) (.bool b) []) (c3:∀i,m1 (.int i) (.int i) []) (c4:∀x,m1 (.str x) (.str x) [])
  (c5:∀{a xs ds fp},F a->H a=some (.lst xs)->E7 F H xs ds fp->m2 xs ds fp->m1 (.ref a) (.list ds) (a::fp)) (c6:∀{a xs ds fp},F a->H a=some (.tup xs)->E7 F H xs ds fp->m2 xs ds fp->m1 (.ref a) (.tuple ds) fp)
  (c7:m2 [] [] []) (c8:∀{x xs d ds fp fps},FpV F H x d fp->E7 F H xs ds fps->m1 x d fp->m2 xs ds fps->m2 (x::xs) (d::ds) (fp++fps)):(∀{v d fp},FpV F H v d fp->m1 v d fp)/\∀{vs ds fp},E7 F H vs ds fp->m2 vs ds fp:=
 ⟨λt=>FpV.rec (motive_1:=λv d fp _=>m1 v d fp) (motive_2:=λv d fp _=>m2 v d fp) c1 c2 c3 c4 c5 c6 c7 c8 t,λt=>E7.rec (motive_1:=λv d fp _=>m1 v d fp) (motive_2:=λv d fp _=>m2 v d fp) c1 c2 c3 c4 c5 c6 c7 c8 t⟩
theorem B9h {F:Addr->Prop} {H:Hp}:(∀{v d fp},FpV F H v d fp->ThV F H v d)/\∀{vs ds fp},E7 F H vs ds fp->A9 F H vs ds:=
 A9p (m1:=λv d _=>ThV F H v d) (m2:=λv d _=>A9 F H v d) .non .bl .int .str (λn e _ t=>.lst n e t) (λn e _ t=>.tup n e t) .nil λ_ _ x t=>.cons x t
theorem FpV.th {F:Addr->Prop} {H:Hp} {v:V} {d:PyData} {fp:List Addr} (t:FpV F H v d fp):ThV F H v d:=B9h.1 t
theorem E7.th {F:Addr->Prop} {H:Hp} {vs:List V} {ds:List PyData} {fp:List Addr} (t:E7 F H vs ds fp):A9 F H vs ds:=B9h.2 t
abbrev MvF (F G:Addr->Prop) (H H':Hp) (fp:List Addr):Prop:=∀b o,F b->H b=some o->(b∈fp\/∃xs,o=.tup xs)->G b/\H' b=some o
theorem B9i {F G:Addr->Prop} {H H':Hp}:(∀{v d fp},FpV F H v d fp->MvF F G H H' fp->FpV G H' v d fp)/\∀{vs ds fp},E7 F H vs ds fp->MvF F G H H' fp->E7 G H' vs ds fp:=
 A9p (m1:=λv d fp=>MvF F G H H' fp->FpV G H' v d fp) (m2:=λv d fp=>MvF F G H H' fp->E7 G H' v d fp) (λ_=>.non) (λb _=>.bl b) (λi _=>.int i) (λx _=>.str x)
  (λn e _ t f=>have q:=f _ _ n e (.inl D4);.lst q.1 q.2 (t λb o z e h=>f b o z e (h.imp (C8 _) id)))
  (λn e _ t f=>have q:=f _ _ n e (.inr ⟨_,rfl⟩);.tup q.1 q.2 (t f)) (λ_=>.nil)
  λ_ _ x t f=>.cons (x λb o z e h=>f b o z e (h.imp (λh=>V8.mpr (.inl h)) id)) (t λb o z e h=>f b o z e (h.imp (λh=>V8.mpr (.inr h)) id))
theorem FpV.mvm {F G:Addr->Prop} {H H':Hp} {v:V} {d:PyData} {fp:List Addr} (t:FpV F H v d fp) (f:∀b o,F b->H b=some o->(b∈fp\/∃xs,o=.tup xs)->G b/\H' b=some o):FpV G H' v d fp:=B9i.1 t f
theorem E7.mvm {F G:Addr->Prop} {H H':Hp} {vs:List V} {ds:List PyData} {fp:List Addr} (t:E7 F H vs ds fp) (f:∀b o,F b->H b=some o->(b∈fp\/∃xs,o=.tup xs)->G b/\H' b=some o):E7 G H' vs ds fp:=B9i.2 t f
theorem B9j {F:Addr->Prop} {H:Hp}:(∀{v d fp},FpV F H v d fp->∀b∈fp,F b/\∃xs,H b=some (.lst xs))/\∀{vs ds fp},E7 F H vs ds fp->∀b∈fp,F b/\∃xs,H b=some (.lst xs):=
 A9p (m1:=λ_ _ fp=>∀b∈fp,F b/\∃xs,H b=some (.lst xs)) (m2:=λ_ _ fp=>∀b∈fp,F b/\∃xs,H b=some (.lst xs)) (λ_ h=>absurd h g9) (λ_ _ h=>absurd h g9) (λ_ _ h=>absurd h g9) (λ_ _ h=>absurd h g9)
  (λn e _ t b h=>(J1.mp h).elim (λz=>by rw[z];exact⟨n,_,e⟩) (t b)) (λ_ _ _ t=>t) (λ_ h=>absurd h g9) λ_ _ x t b h=>(V8.mp h).elim (x b) (t b)
theorem FpV.mem {F:Addr->Prop} {H:Hp} {v:V} {d:PyData} {fp:List Addr} (t:FpV F H v d fp):∀b∈fp,F b/\∃xs,H b=some (.lst xs):=B9j.1 t
theorem E7.mem {F:Addr->Prop} {H:Hp} {vs:List V} {ds:List PyData} {fp:List Addr} (t:E7 F H vs ds fp):∀b∈fp,F b/\∃xs,H b=some (.lst xs):=B9j.2 t
theorem E7.append {F:Addr->Prop} {H:Hp} {xs:List V} {ds:List PyData} {fp:List Addr} {ys:List V} {es:List PyData} {fq:List Addr} (t:E7 F H xs ds fp) (y:E7 F H ys es fq):E7 F H (xs++ys) (ds++es) (fp++fq):=
 (A9p (m1:=λ_ _ _=>True) (m2:=λxs ds fp=>E7 F H (xs++ys) (ds++es) (fp++fq)) trivial (λ_=>trivial) (λ_=>trivial) (λ_=>trivial) (λ_ _ _ _=>trivial) (λ_ _ _ _=>trivial) y λx _ _ t=>by rw[A6e];exact .cons x t).2 t
section
variable {C:DC} {col col2:Addr->Nat} {ρ:List Sl} {σ:L2.St} {P:List Pe} {H H2:Hp} {i:Nat} {d:PyData} {R:B7z}
open Classical in
open Classical in
end
section
variable {X:Cx} {C:DC} {e:Expr} {es:List Expr} {st:Stmt} {t te:DE} {tt:DT} {u:DA} {i:Nat}
open Classical in
end
section
variable {X:Cx} {C:DC} {tg e:Expr} {t:DE} {st:Stmt} {i:Nat}
end
section
variable {X:Cx} {C:DC} {st:Stmt} {i j ia ib:Nat}
theorem B9k {F:Addr->Prop} {H:Hp} {v:V} {xs:List PyData} {fp:List Addr} (t:FpV F H v (.list xs) fp):∃a vs fq,v=.ref a/\fp=a::fq/\F a/\H a=some (.lst vs)/\E7 F H vs xs fq:=by
 cases t with
 | lst n e t=>exact⟨_,_,_,rfl,rfl,n,e,t⟩
theorem C8t {F:Addr->Prop} {H:Hp} {v:V} {xs:List PyData} {fp:List Addr} (t:FpV F H v (.tuple xs) fp):∃a vs,v=.ref a/\F a/\H a=some (.tup vs)/\E7 F H vs xs fp:=by
 cases t with
 | tup n e t=>exact⟨_,_,rfl,n,e,t⟩
theorem E7.len {F:Addr->Prop} {H:Hp} {vs:List V} {ds:List PyData} {fp:List Addr} (t:E7 F H vs ds fp):vs.length=ds.length:=t.th.len
end
end My
namespace My
open PySem L2
theorem K1 {us:List Value} {n:Nat} (h:us.length=n + 1):∃a r,us=a::r/\r.length=n:=by
 cases us with
 | nil=>cases h
 | cons a r=>exact⟨a,r,rfl,Nat.succ.inj h⟩
theorem B9l {us:List Value} (h:us.length=0):us=[]:=by
 cases A2h h
 exact rfl
theorem B24 {us:List Value} (h:us.length=1):∃a0,us=[a0]:=by
 obtain⟨a0,u0,rfl,h0⟩:=K1 h
 cases A2h h0
 exact⟨a0,rfl⟩
theorem B9m {us:List Value} (h:us.length=2):∃a0 a1,us=[a0,a1]:=by
 obtain⟨a0,u0,rfl,h0⟩:=K1 h
 obtain⟨a1,u1,rfl,h1⟩:=K1 h0
 cases A2h h1
 exact⟨a0,a1,rfl⟩
theorem B9n {us:List Value} (h:us.length=3):∃a0 a1 a2,us=[a0,a1,a2]:=by
 obtain⟨a0,u0,rfl,h0⟩:=K1 h
 obtain⟨a1,u1,rfl,h1⟩:=K1 h0
 obtain⟨a2,u2,rfl,h2⟩:=K1 h1
 cases A2h h2
 exact⟨a0,a1,a2,rfl⟩
theorem B9o {us:List Value} (h:us.length=4):∃a0 a1 a2 a3,us=[a0,a1,a2,a3]:=by
 obtain⟨a0,u0,rfl,h0⟩:=K1 h
 obtain⟨a1,u1,rfl,h1⟩:=K1 h0
 obtain⟨a2,u2,rfl,h2⟩:=K1 h1
 obtain⟨a3,u3,rfl,h3⟩:=K1 h2
 cases A2h h3
 exact⟨a0,a1,a2,a3,rfl⟩
theorem B9p {us:List Value} (h:us.length=5):∃a0 a1 a2 a3 a4,us=[a0,a1,a2,a3,a4]:=by
 obtain⟨a0,u0,rfl,h0⟩:=K1 h
 obtain⟨a1,u1,rfl,h1⟩:=K1 h0
 obtain⟨a2,u2,rfl,h2⟩:=K1 h1
 obtain⟨a3,u3,rfl,h3⟩:=K1 h2
 obtain⟨a4,u4,rfl,h4⟩:=K1 h3
 cases A2h h4
 exact⟨a0,a1,a2,a3,a4,rfl⟩
theorem B9q {us:List Value} (h:us.length=6):∃a0 a1 a2 a3 a4 a5,us=[a0,a1,a2,a3,a4,a5]:=by
 obtain⟨a0,u0,rfl,h0⟩:=K1 h
 obtain⟨a1,u1,rfl,h1⟩:=K1 h0
 obtain⟨a2,u2,rfl,h2⟩:=K1 h1
 obtain⟨a3,u3,rfl,h3⟩:=K1 h2
 obtain⟨a4,u4,rfl,h4⟩:=K1 h3
 obtain⟨a5,u5,rfl,h5⟩:=K1 h4
 cases A2h h5
 exact⟨a0,a1,a2,a3,a4,a5,rfl⟩
theorem D6b {us:List Value} (h:us.length=7):∃a0 a1 a2 a3 a4 a5 a6,us=[a0,a1,a2,a3,a4,a5,a6]:=by
 obtain⟨a0,u0,rfl,h0⟩:=K1 h
 obtain⟨a1,u1,rfl,h1⟩:=K1 h0
 obtain⟨a2,u2,rfl,h2⟩:=K1 h1
 obtain⟨a3,u3,rfl,h3⟩:=K1 h2
 obtain⟨a4,u4,rfl,h4⟩:=K1 h3
 obtain⟨a5,u5,rfl,h5⟩:=K1 h4
 obtain⟨a6,u6,rfl,h6⟩:=K1 h5
 cases A2h h6
 exact⟨a0,a1,a2,a3,a4,a5,a6,rfl⟩
theorem D6c {us:List Value} (h:us.length=8):∃a0 a1 a2 a3 a4 a5 a6 a7,us=[a0,a1,a2,a3,a4,a5,a6,a7]:=by
 obtain⟨a0,u0,rfl,h0⟩:=K1 h
 obtain⟨a1,u1,rfl,h1⟩:=K1 h0
 obtain⟨a2,u2,rfl,h2⟩:=K1 h1
 obtain⟨a3,u3,rfl,h3⟩:=K1 h2
 obtain⟨a4,u4,rfl,h4⟩:=K1 h3
 obtain⟨a5,u5,rfl,h5⟩:=K1 h4
 obtain⟨a6,u6,rfl,h6⟩:=K1 h5
 obtain⟨a7,u7,rfl,h7⟩:=K1 h6
 cases A2h h7
 exact⟨a0,a1,a2,a3,a4,a5,a6,a7,rfl⟩
def top (i:Nat):Stmt:=PySem.Challenge.pw_trudge_k95_two_keepers.main.body.getD i (.Pass ⟨0,0,0,0⟩)
abbrev B25:Stmt:=top 11
abbrev B26:Stmt:=top 12
abbrev B27:Stmt:=top 13
abbrev B28:Stmt:=top 14
abbrev B29:Stmt:=top 15
abbrev B3a:Stmt:=top 23
abbrev B3b:Stmt:=top 24
abbrev B3c:Stmt:=top 25
abbrev A9q:Stmt:=top 26
abbrev A9r:Stmt:=top 27
abbrev A9s:Stmt:=top 28
abbrev A9t:Stmt:=top 30
abbrev B3d:Stmt:=top 31
abbrev B3e:Stmt:=top 32
abbrev B3f:Stmt:=top 34
abbrev B3g:Stmt:=top 39
abbrev B3h:Stmt:=top 40
abbrev B3i:Stmt:=top 41
abbrev B3j:Stmt:=top 42
abbrev B3k:Stmt:=top 43
abbrev B3l:Stmt:=top 49
abbrev B3m:Stmt:=top 50
abbrev B3n:Stmt:=top 51
abbrev B3o:Stmt:=top 55
abbrev B3p:Stmt:=top 56
abbrev B3q:Stmt:=top 57
abbrev A9u:Stmt:=top 58
abbrev B3r:Stmt:=top 60
abbrev B3s:Stmt:=top 61
abbrev A9v:Stmt:=top 62
abbrev A9w:Stmt:=top 63
abbrev B3t:Stmt:=top 64
abbrev B3u:Stmt:=top 65
abbrev A9x:Stmt:=top 66
abbrev B3v:Stmt:=top 67
abbrev A9y:Stmt:=top 69
abbrev A9z:Stmt:=top 70
abbrev A90:Stmt:=top 72
abbrev B3w:Stmt:=top 73
abbrev A91:Stmt:=top 75
abbrev B3x:Stmt:=top 79
abbrev B3y:Stmt:=top 80
abbrev B3z:Stmt:=top 82
abbrev B30:Stmt:=top 83
abbrev B31:Stmt:=top 84
abbrev B32:Stmt:=top 87
abbrev A92:Stmt:=top 88
abbrev A93:Stmt:=W8 (top 89) 0
abbrev B33:Stmt:=W8 (top 89) 1
abbrev B34:Stmt:=W8 (top 89) 2
abbrev B35:Stmt:=W8 (top 89) 3
abbrev B36:Stmt:=W8 (top 89) 4
abbrev B37:Stmt:=W8 (top 89) 5
abbrev B38:Stmt:=W8 (top 89) 6
abbrev B39:Stmt:=W8 (top 89) 7
abbrev B4a:Stmt:=W8 (top 89) 8
abbrev B4b:Stmt:=W8 (top 89) 9
abbrev B4c:Stmt:=W8 (top 89) 10
abbrev A94:Stmt:=W8 (top 89) 11
abbrev B4d:Stmt:=W8 (top 89) 12
abbrev B4e:Stmt:=W8 (top 89) 13
abbrev B4f:Stmt:=W8 (top 89) 14
abbrev B4g:Stmt:=W8 (top 89) 15
abbrev B4h:Stmt:=top 91
abbrev B4i:Stmt:=top 92
abbrev B4j:Stmt:=top 93
abbrev B4k:Stmt:=top 94
abbrev B4l:Stmt:=top 95
abbrev B4m:Stmt:=top 96
abbrev B4n:Stmt:=top 97
abbrev A95:Stmt:=top 98
abbrev B4o:Stmt:=top 99
abbrev A96:Stmt:=top 101
abbrev B4p:Stmt:=top 102
abbrev B4q:Stmt:=top 103
abbrev B4r:Stmt:=top 104
abbrev A7n:Stmt:=top 105
abbrev B4s:Stmt:=top 106
abbrev B4t:Stmt:=top 107
abbrev A97:Stmt:=top 108
abbrev A98:Stmt:=top 109
abbrev g4:Stmt:=top 110
def HB (nm qn:Str) (st:Stmt) (ps:List Str):Prop:=∀(kV doc pm:Value) (an:Option Addr) (cdv ct:Value) (us:List Value),us.length=ps.length->bindArgs (A2d nm qn (A2p st) (A00 st) (B6 st) .none kV doc pm an cdv ct) ⟨us,[]⟩=pure (ps.zip us)
structure FT (K:B0) (mg:Str->Option Value) (nm:Str) (st:Stmt) (ps:List Str) where
 a:Addr
 d:FuncData
 F:Fun K nm nm st a d
 m:mg nm=some (.ref a)
 b:l8 K d ps []
def FH (K:B0) (nm:Str) (st:Stmt):Prop:=∃f,A6k K mainGlobals nm=some (some (.ref f))/\∃fd,Fun K nm nm st f fd
theorem FT.of {K:B0} {mg:Str->Option Value} {nm:Str} {st:Stmt} {ps:List Str} {h:Heap} (X:K.In h) (G:h.Ns mainGlobals mg) (H:FH K nm st) (hb:HB nm nm st ps):Nonempty (FT K mg nm st ps):=by
 obtain⟨f,a,fd,F⟩:=H
 exact⟨⟨f,fd,F,A8b X G a,F.binds hb⟩⟩
noncomputable def FT.c {K:B0} {mg:Str->Option Value} {nm:Str} {st:Stmt} {ps:List Str} {h:Heap} (X:K.In h) (G:h.Ns mainGlobals mg) (H:FH K nm st) (hb:HB nm nm st ps:=by intro _ _ _ _ _ _ us hl;first | (obtain⟨_,rfl⟩:=B24 hl;rfl) | (obtain⟨_,_,rfl⟩:=B9m hl;rfl) | (obtain⟨_,_,_,rfl⟩:=B9n hl;rfl) | (obtain⟨_,_,_,_,rfl⟩:=B9o hl;rfl) | (obtain⟨_,_,_,_,_,rfl⟩:=B9p hl;rfl) | (obtain⟨_,_,_,_,_,_,rfl⟩:=B9q hl;rfl) | (cases B9l hl;rfl)):FT K mg nm st ps:=Classical.choice (FT.of X G H hb)
structure CT (mg:Str->Option Value) (nm:Str) (v:Tok->Value) where
 t:Tok
 m:mg nm=some (v t)
def CH (K:B0) (nm:Str) (v:Tok->Value):Prop:=∃t,A6k K mainGlobals nm=some (some (v t))
theorem CT.of {K:B0} {mg:Str->Option Value} {nm:Str} {v:Tok->Value} {h:Heap} (X:K.In h) (G:h.Ns mainGlobals mg) (H:CH K nm v):Nonempty (CT mg nm v):=by
 obtain⟨t,e⟩:=H
 exact⟨⟨t,A8b X G e⟩⟩
noncomputable def CT.c {K:B0} {mg:Str->Option Value} {nm:Str} {v:Tok->Value} {h:Heap} (X:K.In h) (G:h.Ns mainGlobals mg) (H:CH K nm v):CT mg nm v:=Classical.choice (CT.of X G H)
def BN (K:B0):List Str->Prop
 | []=>True
 | x::r=>A6k K mainGlobals x=some none/\BN K r
def AH (K:B0) (nm al:Str):Prop:=∃f,A6k K mainGlobals nm=some (some (.ref f))/\A6k K mainGlobals al=some (some (.ref f))
theorem AH.of {K:B0} {mg:Str->Option Value} {nm al:Str} {h:Heap} (X:K.In h) (G:h.Ns mainGlobals mg) (H:AH K nm al):mg al=mg nm:=by
 obtain⟨f,e1,e2⟩:=H
 rw[A8b X G e1,A8b X G e2]
structure MT (K:B0) (C:Addr) (nm qn:Str) (st:Stmt) (ps:List Str) where
 a:Addr
 d:FuncData
 F:Fun K nm qn st a d
 m:A8v K C nm a
 b:l8 K d ps []
def MH (K:B0) (C:Addr) (nm qn:Str) (st:Stmt):Prop:=∃f,p7 K (.ref C) nm=some (some (.ref f))/\PySem.W.isFn K (.ref f)=true/\∃fd,Fun K nm qn st f fd
theorem MT.of {K:B0} {C:Addr} {nm qn:Str} {st:Stmt} {ps:List Str} (H:MH K C nm qn st) (hb:HB nm qn st ps):Nonempty (MT K C nm qn st ps):=by
 obtain⟨f,a,b,fd,F⟩:=H
 exact⟨⟨f,fd,F,⟨a,b,F.kp⟩,F.binds hb⟩⟩
noncomputable def MT.c {K:B0} {C:Addr} {nm qn:Str} {st:Stmt} {ps:List Str} (H:MH K C nm qn st) (hb:autoParam (HB nm qn st ps) FT.c._auto_1):MT K C nm qn st ps:=Classical.choice (MT.of H hb)
def KH (K:B0) (C:Addr):Prop:=Cls K C/\PySem.W.makesIn K C=true/\A6a K (.ref C)=true
def NN (K:B0) (C:Addr):List Str->Prop
 | []=>True
 | x::r=>p7 K (.ref C) x=some none/\NN K C r
set_option genInjectivity false in
set_option genSizeOf false in
structure Txt (K:B0) (mg:Str->Option Value) where
 fZ:mg "abs" = none
 ik:mg "all" = none
 gC:mg "bool" = none
 gD:mg "dict" = none
 cY:mg "enumerate" = none
 gc:mg "int" = none
 aG:mg "isinstance" = none
 bC:mg "len" = none
 au:mg "list" = none
 cS:mg "max" = none
 dZ:mg "min" = none
 bp:mg "range" = none
 cj:mg "reversed" = none
 du:mg "sorted" = none
 dj:mg "tuple" = none
 ac:Addr
 dB:mg "Keeper" = some (.ref ac)
 ae:Cls K ac
 cK:l7 K ac "many"
 cc:l7 K ac "full"
 bN:l7 K ac "wanted"
 bf:l7 K ac "laid"
 bO:l7 K ac "lowest"
 ck:MT K ac "__init__" "Keeper.__init__" A93 ["self", "many", "store", "goal"]
 cL:MT K ac "lay" "Keeper.lay" B33 ["self", "label", "start", "end", "change"]
 cm:MT K ac "lift" "Keeper.lift" B34 ["self", "label"]
 cp:MT K ac "turn" "Keeper.turn" B35 ["self", "label", "change"]
 bS:MT K ac "refill" "Keeper.refill" B36 ["self", "store"]
 cM:MT K ac "aim" "Keeper.aim" B37 ["self", "goal"]
 bB:MT K ac "found" "Keeper.found" B38 ["self", "label"]
 aB:MT K ac "moved" "Keeper.moved" B39 ["self"]
 cq:MT K ac "ways" "Keeper.ways" B4a ["self"]
 cf:MT K ac "store" "Keeper.store" B4b ["self"]
 cr:MT K ac "goal" "Keeper.goal" B4c ["self"]
 aH:MT K ac "land" "Keeper.land" A94 ["self"]
 cg:MT K ac "least" "Keeper.least" B4d ["self"]
 bq:MT K ac "trip_from" "Keeper.trip_from" B4e ["self", "place"]
 aZ:MT K ac "highest" "Keeper.highest" B4f ["self", "base"]
 aP:MT K ac "least_store" "Keeper.least_store" B4g ["self", "begin", "goal"]
 dD:Mk K ac ck.a
 g_MANY:CT mg "MANY" (.int 0)
 g_WAYS:CT mg "WAYS" (.int 1)
 g_START:CT mg "START" (.int 0)
 g_END:CT mg "END" (.int 1)
 g_CHANGE:CT mg "CHANGE" (.int 2)
 g_MOST_WAYS:CT mg "MOST_WAYS" (.int 40)
 g_LEAST:CT mg "LEAST" (.int 0)
 g_GAIN:CT mg "GAIN" (.int 1)
 g_TOP:CT mg "TOP" (.int 2)
 g_TABLE:CT mg "TABLE" (.int 0)
 g_RISEN:CT mg "RISEN" (.int 1)
 g_FROM:CT mg "FROM" (.int 0)
 g_BY:CT mg "BY" (.int 1)
 g_NUMBERS:CT mg "NUMBERS" (.int 0)
 g_TIMES:CT mg "TIMES" (.int 1)
 g_PLACE:CT mg "PLACE" (.int 0)
 g_LEVEL:CT mg "LEVEL" (.int 1)
 ai:FT K mg "is_whole" B25 ["thing"]
 bD:FT K mg "is_store" B26 ["thing"]
 bE:FT K mg "is_level" B27 ["store", "thing"]
 ba:FT K mg "stepped" B28 ["store", "level", "change"]
 ay:FT K mg "levels_along" B29 ["store", "level", "changes"]
 aC:FT K mg "is_place" B3a ["many", "thing"]
 aF:FT K mg "is_change" B3b ["thing"]
 bW:FT K mg "is_way" B3c ["many", "thing"]
 ax:FT K mg "turned_land" A9q ["land"]
 av:FT K mg "changes_of" A9r ["land", "numbers"]
 bg:FT K mg "most_taken" A9s ["land"]
 aM:FT K mg "is_table" A9t ["many", "store", "thing"]
 bP:FT K mg "is_more" B3d ["one", "other"]
 bh:FT K mg "behind_way" B3e ["store", "table", "way"]
 bx:FT K mg "is_within" B3f ["level", "bound"]
 aE:FT K mg "effect_of_none" B3g ["store"]
 aI:FT K mg "effect_of_one" B3h ["store", "change"]
 bz:FT K mg "effect_of" B3i ["store", "changes"]
 bX:FT K mg "passed" B3j ["effect", "level"]
 bY:FT K mg "joined" B3k ["one", "other"]
 bA:FT K mg "first_row" B3l ["table"]
 bi:FT K mg "row_behind" B3m ["land", "store", "table", "stayed"]
 bc:FT K mg "walk_to" B3n ["land", "rows", "place"]
 aQ:FT K mg "behind_ways" B3o ["land", "place", "numbers"]
 aR:FT K mg "behind_part" B3p ["land", "place", "part"]
 bZ:FT K mg "end_of" B3q ["land", "place", "trip"]
 bF:FT K mg "backward" A9u ["trip"]
 aN:FT K mg "rows_from" B3r ["land", "store", "table"]
 aT:FT K mg "still_rises" B3s ["land", "rows"]
 aU:FT K mg "rising_walk" A9v ["land", "rows"]
 aA:FT K mg "parted_at_round" A9w ["land", "walk"]
 aD:FT K mg "parts_by" B3t ["numbers"]
 aJ:FT K mg "filling_parts" B3u ["land", "store", "level", "walk"]
 be:FT K mg "settled" A9x ["land", "store", "base"]
 aw:FT K mg "highest" B3v ["land", "store", "base"]
 bQ:FT K mg "trip_to" A9y ["land", "rows", "roads", "place"]
 bG:FT K mg "trips_to" A9z ["land", "store", "base"]
 aK:FT K mg "lacking" A90 ["store", "table"]
 bL:FT K mg "least" B3w ["land", "store", "goal"]
 bH:FT K mg "trips_on" A91 ["land", "store", "goal"]
 bR:FT K mg "base_at" B3x ["many", "spot"]
 bj:FT K mg "has_enough" B3y ["table", "goal"]
 aq:FT K mg "comes_through" B3z ["land", "store", "begin", "goal"]
 aL:FT K mg "store_enough" B30 ["land", "begin", "goal"]
 aW:FT K mg "least_store" B31 ["land", "begin", "goal"]
 aO:FT K mg "is_label" B32 ["thing"]
 az:FT K mg "places_below" A92 ["table", "other"]
 cN:FT K mg "_law_hand" B4h ["_law_script"]
 br:FT K mg "_law_next" B4i ["_law_hand_here"]
 cO:FT K mg "_law_take" B4j ["_law_hand_here"]
 af:FT K mg "_law_draw" B4k ["_law_hand_here", "_law_many"]
 cu:FT K mg "_law_scale" B4l ["_law_hand_here"]
 bI:FT K mg "_law_change" B4m ["_law_hand_here", "_law_scale_here"]
 cw:FT K mg "_law_store" B4n ["_law_hand_here", "_law_scale_here"]
 bM:FT K mg "_law_table" A95 ["_law_hand_here", "_law_many", "_law_store_here"]
 cx:FT K mg "_law_state" B4o ["_law_many", "_law_store_here", "_law_goal"]
 cP:FT K mg "_law_deed" A96 ["_law_hand_here", "_law_state_here", "_law_scale_here", "_law_most"]
 cy:FT K mg "_law_after" B4p ["_law_state_here", "_law_deed_here"]
 cZ:FT K mg "_law_do" B4q ["_law_keeper", "_law_deed_here"]
 aj:FT K mg "_law_spoil" B4r ["_law_told"]
 ah:FT K mg "_law_copied" A7n ["_law_thing"]
 cB:FT K mg "_law_ask" B4s ["_law_keeper", "_law_way", "_law_place", "_law_base"]
 cb:FT K mg "_law_handed" B4t ["_law_keeper", "_law_deed_here"]
 bT:FT K mg "_law_all" A97 ["_law_keeper", "_law_state_here", "_law_back", "_law_trips"]
 cz:FT K mg "_law_begun" A98 ["_law_keeper", "_law_states", "_law_goals"]
 fm:FT K mg "law" g4 ["_law_script"]
 bu:mg "highest_highest" = mg "highest"
 cA:mg "least_least" = mg "least"
 ci:mg "least_store_stores" = mg "least_store"
theorem SS{N ps:List Str}{s:_}(h:D2 N ps s:=by exact ⟨rfl,rfl,rfl,(by decide +kernel),rfl,(by decide +kernel),(by decide +kernel)⟩):D2 N ps s:=h
theorem C8u:D2 ["thing"] ["thing"] (B6 B25):=SS
theorem C8v:D2 ["thing"] ["thing"] (B6 B26):=SS
theorem C8w:D2 ["store", "thing"] ["store", "thing"] (B6 B27):=SS
theorem B9r:D2 ["store", "level", "change", "behind"] ["store", "level", "change"] (B6 B28):=SS
theorem A99:D2 ["store", "level", "changes", "levels", "change", "behind"] ["store", "level", "changes"] (B6 B29):=SS
theorem C8x:D2 ["many", "thing"] ["many", "thing"] (B6 B3a):=SS
theorem C8y:D2 ["thing"] ["thing"] (B6 B3b):=SS
theorem C8z:D2 ["many", "thing"] ["many", "thing"] (B6 B3c):=SS
theorem C80:D2 ["land"] ["land"] (B6 A9q):=SS
theorem C81:D2 ["land", "numbers"] ["land", "numbers"] (B6 A9r):=SS
theorem C82:D2 ["land"] ["land"] (B6 A9s):=SS
theorem C83:D2 ["many", "store", "thing"] ["many", "store", "thing"] (B6 A9t):=SS
theorem C84:D2 ["one", "other"] ["one", "other"] (B6 B3d):=SS
theorem B9s:D2 ["store", "table", "way", "level"] ["store", "table", "way"] (B6 B3e):=SS
theorem C85:D2 ["level", "bound"] ["level", "bound"] (B6 B3f):=SS
theorem C86:D2 ["store"] ["store"] (B6 B3g):=SS
theorem C87:D2 ["store", "change"] ["store", "change"] (B6 B3h):=SS
theorem B0a:D2 ["store", "changes", "whole", "change"] ["store", "changes"] (B6 B3i):=SS
theorem C88:D2 ["effect", "level"] ["effect", "level"] (B6 B3j):=SS
theorem B9t:D2 ["one", "other", "least"] ["one", "other"] (B6 B3k):=SS
theorem C89:D2 ["table"] ["table"] (B6 B3l):=SS
theorem A5u:D2 ["land", "store", "table", "stayed", "higher", "risen", "number", "way", "level"] ["land", "store", "table", "stayed"] (B6 B3m):=SS
theorem A5v:D2 ["land", "rows", "place", "here", "numbers", "row", "number"] ["land", "rows", "place"] (B6 B3n):=SS
theorem B0b:D2 ["land", "place", "numbers", "here", "number"] ["land", "place", "numbers"] (B6 B3o):=SS
theorem B9u:D2 ["land", "place", "part", "behind"] ["land", "place", "part"] (B6 B3p):=SS
theorem A7o:D2 ["land", "place", "trip", "here", "at", "part"] ["land", "place", "trip"] (B6 B3q):=SS
theorem C9a:D2 ["trip"] ["trip"] (B6 A9u):=SS
theorem B0c:D2 ["land", "store", "table", "rows", "row"] ["land", "store", "table"] (B6 B3r):=SS
theorem C9b:D2 ["land", "rows"] ["land", "rows"] (B6 B3s):=SS
theorem B9v:D2 ["land", "rows", "last"] ["land", "rows"] (B6 A9v):=SS
theorem A7p:D2 ["land", "walk", "places", "end", "begin"] ["land", "walk"] (B6 A9w):=SS
theorem C9c:D2 ["numbers"] ["numbers"] (B6 B3t):=SS
theorem A13:D2 ["land", "store", "level", "walk", "parted", "ahead", "turn", "effect", "missing", "times", "levels"] ["land", "store", "level", "walk"] (B6 B3u):=SS
theorem A09:D2 ["land", "store", "base", "table", "roads", "rows", "walk", "parts", "full", "road"] ["land", "store", "base"] (B6 A9x):=SS
theorem C9d:D2 ["land", "store", "base"] ["land", "store", "base"] (B6 B3v):=SS
theorem B0d:D2 ["land", "rows", "roads", "place", "walk", "road", "trip"] ["land", "rows", "roads", "place"] (B6 A9y):=SS
theorem B0e:D2 ["land", "store", "base", "found", "rows", "table"] ["land", "store", "base"] (B6 A9z):=SS
theorem C9e:D2 ["store", "table"] ["store", "table"] (B6 A90):=SS
theorem C9f:D2 ["land", "store", "goal"] ["land", "store", "goal"] (B6 B3w):=SS
theorem B9w:D2 ["land", "store", "goal", "told"] ["land", "store", "goal"] (B6 A91):=SS
theorem B9x:D2 ["many", "spot", "base"] ["many", "spot"] (B6 B3x):=SS
theorem B9y:D2 ["table", "goal", "level"] ["table", "goal"] (B6 B3y):=SS
theorem C9g:D2 ["land", "store", "begin", "goal"] ["land", "store", "begin", "goal"] (B6 B3z):=SS
theorem C9h:D2 ["land", "begin", "goal"] ["land", "begin", "goal"] (B6 B30):=SS
theorem A5w:D2 ["land", "begin", "goal", "high", "low", "middle"] ["land", "begin", "goal"] (B6 B31):=SS
theorem C9i:D2 ["thing"] ["thing"] (B6 B32):=SS
theorem C9j:D2 ["table", "other"] ["table", "other"] (B6 A92):=SS
theorem C9k:D2 ["self", "many", "store", "goal"] ["self", "many", "store", "goal"] (B6 A93):=SS
theorem C9l:D2 ["self", "label", "start", "end", "change"] ["self", "label", "start", "end", "change"] (B6 B33):=SS
theorem C9m:D2 ["self", "label"] ["self", "label"] (B6 B34):=SS
theorem B9z:D2 ["self", "label", "change", "way"] ["self", "label", "change"] (B6 B35):=SS
theorem C9n:D2 ["self", "store"] ["self", "store"] (B6 B36):=SS
theorem C9o:D2 ["self", "goal"] ["self", "goal"] (B6 B37):=SS
theorem C9p:D2 ["self", "label"] ["self", "label"] (B6 B38):=SS
theorem B90:D2 ["self", "ahead"] ["self"] (B6 B39):=SS
theorem B0f:D2 ["self", "told", "label", "way"] ["self"] (B6 B4a):=SS
theorem C9q:D2 ["self"] ["self"] (B6 B4b):=SS
theorem C9r:D2 ["self"] ["self"] (B6 B4c):=SS
theorem C9s:D2 ["self"] ["self"] (B6 A94):=SS
theorem C9t:D2 ["self"] ["self"] (B6 B4d):=SS
theorem C9u:D2 ["self", "place"] ["self", "place"] (B6 B4e):=SS
theorem C9v:D2 ["self", "base"] ["self", "base"] (B6 B4f):=SS
theorem C9w:D2 ["self", "begin", "goal"] ["self", "begin", "goal"] (B6 B4g):=SS
theorem C9x:D2 ["_law_script"] ["_law_script"] (B6 B4h):=SS
theorem C9y:D2 ["_law_hand_here"] ["_law_hand_here"] (B6 B4i):=SS
theorem B4u:D2 ["_law_hand_here", "_law_cell"] ["_law_hand_here"] (B6 B4j):=SS
theorem A5x:D2 ["_law_hand_here", "_law_many", "_law_got", "_law_value", "_law_size"] ["_law_hand_here", "_law_many"] (B6 B4k):=SS
theorem C9z:D2 ["_law_hand_here"] ["_law_hand_here"] (B6 B4l):=SS
theorem C90:D2 ["_law_hand_here", "_law_scale_here"] ["_law_hand_here", "_law_scale_here"] (B6 B4m):=SS
theorem B91:D2 ["_law_hand_here", "_law_scale_here", "_law_way"] ["_law_hand_here", "_law_scale_here"] (B6 B4n):=SS
theorem B92:D2 ["_law_hand_here", "_law_many", "_law_store_here", "_law_rare"] ["_law_hand_here", "_law_many", "_law_store_here"] (B6 A95):=SS
theorem C91:D2 ["_law_many", "_law_store_here", "_law_goal"] ["_law_many", "_law_store_here", "_law_goal"] (B6 B4o):=SS
theorem A14:D2 ["_law_hand_here", "_law_state_here", "_law_scale_here", "_law_most", "_law_way", "_law_labels", "_law_label", "_law_start", "_law_end", "_law_low"] ["_law_hand_here", "_law_state_here", "_law_scale_here", "_law_most"] (B6 A96):=SS
theorem A7q:D2 ["_law_state_here", "_law_deed_here", "_law_word", "_law_things", "_law_ways", "_law_after_here"] ["_law_state_here", "_law_deed_here"] (B6 B4p):=SS
theorem B4v:D2 ["_law_keeper", "_law_deed_here", "_law_word", "_law_things"] ["_law_keeper", "_law_deed_here"] (B6 B4q):=SS
theorem B4w:D2 ["_law_told", "_law_part"] ["_law_told"] (B6 B4r):=SS
theorem C92:D2 ["_law_thing"] ["_law_thing"] (B6 A7n):=SS
theorem C93:D2 ["_law_keeper", "_law_way", "_law_place", "_law_base"] ["_law_keeper", "_law_way", "_law_place", "_law_base"] (B6 B4s):=SS
theorem A5y:D2 ["_law_keeper", "_law_deed_here", "_law_word", "_law_things", "_law_kept", "_law_told"] ["_law_keeper", "_law_deed_here"] (B6 B4t):=SS
theorem A15:D2 ["_law_keeper", "_law_state_here", "_law_back", "_law_trips", "_law_found", "_law_ways", "_law_way", "_law_place", "_law_base", "_law_told"] ["_law_keeper", "_law_state_here", "_law_back", "_law_trips"] (B6 A97):=SS
theorem B4x:D2 ["_law_keeper", "_law_states", "_law_goals", "_law_handed_here", "_law_goal"] ["_law_keeper", "_law_states", "_law_goals"] (B6 A98):=SS
theorem T4:D2 ["_law_script", "_law_hand_here", "_law_many", "_law_scale_here", "_law_store_here", "_law_states", "_law_goals", "_law_keepers", "_law_third", "_law_deeds", "_law_told", "_law_k", "_law_at", "_law_deed_here", "_law_found", "_law_j", "_law_due", "_law_back", "_law_first"] ["_law_script"] (B6 g4):=SS
variable {P:Program} {w:World} {K:B0} {mg:Str->Option Value} {base:Heap}
theorem C94 (T:Txt K mg):C0 P w K mg base CX0 1 T.cN.a T.cN.d ["_law_script"] (C50 K):=by
 refine T.cN.F.ok C9x (λvs H Q E h=>?_) (λcdv A outer s H vs Q E hr h=>?_)
 ·obtain⟨a,ns,rfl,_⟩:=h
  rfl
 ·obtain⟨a,ns,rfl,hS,k⟩:=h
  refine⟨_,(C5 (F2 (V2 (A2 (R8 W7 rfl T.au R9 (A2 (B1p B1r (pv 0) B61 (B1o B1)) A4 A7)) (A2 B1 (A2 B1 (A2 B1 (A2 B1 (A2 B1 A4 E4) E4) E4) E4) E4) D7)))),?_⟩
  refine⟨_,rfl,_,rfl,a,_,rfl,hS,λp1 h1=>⟨p1,_,rfl,.inl (SqL.of B2),λl hl=>⟨(by show 6<=sizeLine;decide),λp hp=>?_⟩⟩⟩
  have n1:p≠p1:=(Q3 (H:=upd (upd H p1 _) l _) (by rw[B4 (Q3 B2 hl)];exact B2) hp).symm
  have n2:p≠l:=(Q3 (H:=upd (upd H p1 _) l _) B2 hp).symm
  have hp0:H p=none:=by rw[B4 n2,B4 n1] at hp;exact hp
  have hl0:H l=none:=by
   have nl:l≠p1:=(Q3 B2 hl).symm
   rw[B4 nl] at hl;exact hl
  refine k p l _ hp0 hl0 ⟨(ns.drop (HT.sIx (ns.map V.int).length 0 none)).take (HT.sIx (ns.map V.int).length (ns.map V.int).length (some 63) - HT.sIx (ns.map V.int).length 0 none),0,0,0,20011,40009,?_,t8 _,B2⟩ (((Same.refl H).lay h1).lay hl |>.lay hp)
  rw[B4 n2.symm,B2]
  unfold A2o
  rw[A0u,List.map_drop]
theorem B93 (T:Txt K mg):C0 P w K mg base CX0 1 T.br.a T.br.d ["_law_hand_here"] C51:=by
 refine T.br.F.ok C9y (λvs H Q E h=>?_) (λcdv A outer s H vs Q E hr h=>?_)
 ·obtain⟨a,l,rfl,_⟩:=h
  rfl
 ·obtain⟨a,l,rfl,⟨ns,p,b,c,u,v,hl,hp,ha⟩,k⟩:=h
  have ne:=A86 hl ha
  refine⟨_,(B5 (T0 (J5 y9 (J5 y8 (C6 D6 (pv 0) B1 (λ_ _=>rfl)) B1) B1) (W4 (pv 0) B1 U2))
   (B5 (T0 (J5 y9 (J5 y8 (C6 D6 (pv 0) B1 (λ_ _=>rfl)) B1) B1) (W4 (pv 0) B1 U2))
   (C5 (F2 (J5 O2 (C6 D6 (pv 0) B1 (λ_ _=>rfl)) (C6 D6 (pv 0) B1 (λ_ _=>rfl))))))),?_⟩
  refine⟨_,rfl,a,_,_,_,rfl,rfl,SqL.of ha,rfl,_,_,rfl,rfl,.inr ⟨DD,DD⟩,_,_,rfl,rfl,(by first | decide | (dsimp only;decide)),_,rfl,a,_,_,_,rfl,rfl,ha,rfl,?_⟩
  refine⟨_,rfl,a,_,_,_,rfl,rfl,SqL.of B2,rfl,_,_,rfl,rfl,.inr ⟨DD,DD⟩,_,_,rfl,rfl,(by first | decide | (dsimp only;decide)),_,rfl,a,_,_,_,rfl,rfl,B2,rfl,?_⟩
  refine⟨_,rfl,a,_,_,_,rfl,rfl,SqL.of B2,rfl,_,rfl,a,_,_,_,rfl,rfl,SqL.of B2,rfl,_,_,rfl,rfl,?_⟩
  exact k _ _ ⟨ns,p,b,c,_,_,by rw[B4 ne,B4 ne];exact hl,hp,B2⟩ λb o e nb=>by rw[B4 nb,B4 nb];exact e
theorem C95 (T:Txt K mg):C0 P w K mg base CX0 2 T.cO.a T.cO.d ["_law_hand_here"] C52:=by
 have dE:=@B93 P w K mg base T
 have dG:=T.br.b
 refine T.cO.F.ok B4u (λvs H Q E h=>?_) (λcdv A outer s H vs Q E hr h=>?_)
 ·obtain⟨a,l,rfl,_⟩:=h
  rfl
 ·obtain⟨a,l,rfl,⟨ns,p,b,c,u,v,hl,hp,ha⟩,k⟩:=h
  have ne:=A86 hl ha
  refine⟨_,(B5 (C2 (i:=1) B4u.nd rfl (B9 rfl) B1)
   (B5 (J0 (G4 (J2 Z1 (C6 D6 (pv 0) B1 (λ_ _=>rfl)) (J8 b8 rfl T.bC Z4 (A2 (C6 D6 (pv 0) B1 (λ_ _=>rfl)) A4 A7)) (D5 _))
   (C5 (C2 (i:=1) B4u.nd rfl (B9 rfl) (J8 B6n rfl T.fZ B7n (A2 (C6 D6 (C6 D6 (pv 0) B1 (λ_ _=>rfl)) (C6 D6 (pv 0) B1 (λ_ _=>rfl)) (λ_ _=>rfl)) A4 A7))))
   G7))
   (B5 (B6g (pv 0) B1 B7m B1 C3f U2)
   (B5 (J0 (G4 (J2 B1j (pv 1) (J5 b7 B1 B1) (D5 _))
   (C5 (T0 (pv 1) (W4 (pv 0) B1 U2)))
   (C5 (T0 B1 (W4 (pv 0) B1 U2)))))
   (B5 (T0 (J5 O2 (J5 y9 (J5 O2 (C6 D6 (pv 0) B1 (λ_ _=>rfl)) (J5 y9 (pv 1) B1)) B1) B1) (W4 (pv 0) B1 U2))
   (B5 (T0 (J5 O2 (J5 y9 (J5 O2 (J5 y8 (C6 D6 (pv 0) B1 (λ_ _=>rfl)) B1) (J5 y9 (pv 1) B1)) B1) B1) (W4 (pv 0) B1 U2))
   (B5 (P8 (B3 dE (hr.mono DD) rfl T.br.m T.br.F.kp dG .nil A8 (A2 (pv 0) A4 A1)))
   (C5 (P8 (B3 dE (hr.mono DD) rfl T.br.m T.br.F.kp dG .nil A8 (A2 (pv 0) A4 A1))))))))))),?_⟩
  refine⟨fun σ H1=>H=H1/\∃z:Int,σ=[some (.ref a),some (.int z)],?_,?_⟩
  ·refine⟨_,rfl,a,_,_,_,rfl,rfl,SqL.of ha,rfl,_,rfl,a,_,_,_,rfl,rfl,SqL.of ha,rfl,l,_,rfl,.inl (SqL.of hl),_,_,rfl,rfl,_,rfl,?_⟩
   refine A4x (λhlt=>?_) (λ_=>⟨rfl,_,rfl⟩)
   have hlt':p < (ns.length:Int):=by simpa using hlt
   obtain⟨z,hz⟩:=C5z hp hlt'
   exact⟨_,rfl,a,_,_,_,rfl,rfl,SqL.of ha,rfl,_,rfl,a,_,_,_,rfl,rfl,SqL.of ha,rfl,l,_,_,_,rfl,rfl,SqL.of hl,hz,_,rfl,rfl,_,rfl⟩
  ·rintro σ H1 ⟨rfl,z,rfl⟩
   refine⟨_,rfl,a,_,_,_,rfl,rfl,(by first | decide | (dsimp only;decide)),SqL.of ha,rfl,_,_,rfl,rfl,a,_,_,_,rfl,rfl,ha,rfl,?_⟩
   refine⟨fun σ H1=>σ=[some (.ref a),some (.int z)]/\Hd H1 a l/\Kp a H H1,?_,?_⟩
   ·refine⟨_,rfl,_,_,rfl,rfl,⟨DD,DD,DD⟩,_,_,rfl,rfl,_,rfl,?_⟩
    refine A4x (λ_=>?_) (λ_=>?_)
    ·refine⟨_,rfl,_,rfl,a,_,_,_,rfl,rfl,B2,rfl,rfl,⟨ns,p + 1,_,_,_,_,by rw[B4 ne,B4 ne];exact hl,OO,B2⟩,λb o e nb=>by rw[B4 nb,B4 nb];exact e⟩
    ·refine⟨_,rfl,a,_,_,_,rfl,rfl,B2,rfl,rfl,⟨ns,p + 1,_,_,_,_,by rw[B4 ne,B4 ne];exact hl,OO,B2⟩,λb o e nb=>by rw[B4 nb,B4 nb];exact e⟩
   ·rintro σ H1 ⟨rfl,⟨ns,p,b,c,u,v,hl,hp,ha⟩,k1⟩
    have ne:=A86 hl ha
    refine⟨_,rfl,a,_,_,_,rfl,rfl,SqL.of ha,rfl,_,rfl,_,_,rfl,rfl,(by first | decide | (dsimp only;decide)),_,_,rfl,rfl,_,_,rfl,rfl,(by first | decide | (dsimp only;decide)),_,_,rfl,rfl,_,rfl,a,_,_,_,rfl,rfl,ha,rfl,?_⟩
    refine⟨_,rfl,a,_,_,_,rfl,rfl,SqL.of B2,rfl,_,_,rfl,rfl,.inr ⟨DD,DD⟩,_,rfl,_,_,rfl,rfl,(by first | decide | (dsimp only;decide)),_,_,rfl,rfl,_,_,rfl,rfl,(by first | decide | (dsimp only;decide)),_,_,rfl,rfl,_,rfl,a,_,_,_,rfl,rfl,B2,rfl,?_⟩
    refine⟨_,rfl,a,l,rfl,⟨ns,p,_,_,_,_,by rw[B4 ne,B4 ne];exact hl,hp,B2⟩,λr H2 h2 k2=>?_⟩
    refine⟨_,rfl,a,l,rfl,h2,λr H3 h3 k3=>?_⟩
    exact k H3 h3 (((k1.trans λb o e nb=>by rw[B4 nb,B4 nb];exact e).trans k2).trans k3)
theorem C96 (T:Txt K mg):C0 P w K mg base CX0 3 T.af.a T.af.d ["_law_hand_here", "_law_many"] C53:=by
 have dE:=@B93 P w K mg base T
 have iF:=@C95 P w K mg base T
 have dG:=T.br.b
 have iG:=T.cO.b
 refine T.af.F.ok A5x (λvs H Q E h=>?_) (λcdv A outer s H vs Q E hr h=>?_)
 ·obtain⟨a,l,m,rfl,_⟩:=h
  rfl
 ·obtain⟨a,l,m,rfl,hd,hm0,hm1,k⟩:=h
  refine⟨_,(B5 (J0 (G4 (PW.pt (A6p (J2 Q4 (C6 D6 (pv 0) B1 (λ_ _=>rfl)) B1 (D5 _)) (A6n (J2 Q4 (C6 D6 (pv 0) B1 (λ_ _=>rfl)) B1 (D5 _)))))
   (C5 (P8 (B3 iF (hr.mono DD) rfl T.cO.m T.cO.F.kp iG .nil A8 (A2 (pv 0) A4 A1))))
   G7))
   (B5 (J0 (G4 (J2 A4u (C6 D6 (pv 0) B1 (λ_ _=>rfl)) B1 (D5 _))
   (B5 (C2 (i:=2) A5x.nd rfl (B9 rfl) (J5 y9 (C6 D6 (pv 0) B1 (λ_ _=>rfl)) (pv 1)))
   (B5 (T0 (J5 B1z (C6 D6 (pv 0) B1 (λ_ _=>rfl)) (pv 1)) (W4 (pv 0) B1 U2))
   (C5 (F2 (pv 2)))))
   G7))
   (B5 (B6g (pv 0) B1 B7m B1 C3g U2)
   (B5 (C2 (i:=3) A5x.nd rfl (B9 rfl) (B3 dE (hr.mono DD) rfl T.br.m T.br.F.kp dG .nil A8 (A2 (pv 0) A4 A1)))
   (B5 (C2 (i:=4) A5x.nd rfl (B9 rfl) B1)
   (B5 (A4s S9 (J2 Z1 (pv 4) (pv 1) (D5 _))
   (B5 (C2 (i:=3) A5x.nd rfl (B9 rfl) (J5 O2 (J5 y8 (pv 3) B1) (B3 dE (hr.mono DD) rfl T.br.m T.br.F.kp dG .nil A8 (A2 (pv 0) A4 A1))))
   (C5 (C2 (i:=4) A5x.nd rfl (B9 rfl) (J5 y8 (pv 4) B1)))))
   (C5 (F2 (J5 y9 (pv 3) (pv 1)))))))))),?_⟩
  refine⟨fun σ H1=>σ=[some (.ref a),some (.int m),none,none,none]/\Hd H1 a l/\Kp a H H1,?_,?_⟩
  ·obtain⟨ns,p,b,c,u,v,hl,hp,ha⟩:=id hd
   refine⟨_,rfl,a,_,_,_,rfl,rfl,SqL.of ha,rfl,rfl,_,rfl,?_⟩
   refine A4x (λ_=>?_) (λ_=>D0 ⟨rfl,hd,.refl a H⟩)
   refine⟨_,rfl,a,_,_,_,rfl,rfl,SqL.of ha,rfl,rfl,_,rfl,?_⟩
   refine A4x (λ_=>?_) (λ_=>⟨rfl,hd,.refl a H⟩)
   exact⟨_,rfl,a,l,rfl,hd,λH1 h1 k1=>⟨rfl,h1,k1⟩⟩
  ·rintro σ H1 ⟨rfl,⟨ns,p,b,c,u,v,hl,hp,ha⟩,k1⟩
   have ne:=A86 hl ha
   refine⟨fun σ H2=>H1=H2/\σ=[some (.ref a),some (.int m),none,none,none],?_,?_⟩
   ·refine⟨_,rfl,a,_,_,_,rfl,rfl,SqL.of ha,rfl,_,_,rfl,rfl,_,rfl,?_⟩
    refine A4x (λ_=>?_) (λ_=>⟨rfl,rfl⟩)
    refine⟨_,rfl,a,_,_,_,rfl,rfl,SqL.of ha,rfl,_,rfl,_,_,rfl,rfl,hm0,?_⟩
    refine⟨_,rfl,a,_,_,_,rfl,rfl,SqL.of ha,rfl,_,rfl,_,_,rfl,rfl,⟨hm0,hm1⟩,_,rfl,a,_,_,_,rfl,rfl,ha,rfl,?_⟩
    refine⟨_,rfl,?_⟩
    exact k _ _ (B05 _ OO) (B55 _ hm0) ⟨ns,p,_,_,_,_,by rw[B4 ne];exact hl,hp,B2⟩ (k1.trans λb o e nb=>by rw[B4 nb];exact e)
   ·rintro σ H2 ⟨rfl,rfl⟩
    refine⟨_,rfl,a,_,_,_,rfl,rfl,(by first | decide | (dsimp only;decide)),SqL.of ha,rfl,_,_,rfl,rfl,a,_,_,_,rfl,rfl,ha,rfl,?_⟩
    refine⟨_,rfl,a,l,rfl,⟨ns,p,_,_,_,_,by rw[B4 ne];exact hl,hp,B2⟩,λr H3 h3 k3=>?_⟩
    have k3':Kp a H H3:=(k1.trans λb o e nb=>by rw[B4 nb];exact e).trans k3
    refine C3n (fun σ H4=>∃(val sz:Int),σ=[some (.ref a),some (.int m),none,some (.int val),some (.int sz)]/\Hd H4 a l/\Kp a H H4/\0 < sz)
     (fun σ _=>match σ with | [_,_,_,_,some (.int sz)]=>(m - sz).toNat | _=>0) ⟨r,4294967296,rfl,h3,k3',DD⟩ ?_ (fun σ H Q Q' f ⟨v,e1,u,e2,i,j,e3,e4,c,e5,q⟩=>⟨v,e1,u,e2,i,j,e3,e4,c,e5,f _ _ q⟩)
    rintro σ H4 ⟨val,sz,rfl,h4,k4,hsz⟩
    refine⟨_,rfl,_,rfl,_,_,rfl,rfl,_,rfl,?_⟩
    refine A4x (λhlt=>?_) (λ_=>?_)
    ·have hlt':sz < m:=by simpa using hlt
     refine⟨_,rfl,_,_,rfl,rfl,.inr ⟨DD,DD⟩,_,rfl,a,l,rfl,h4,λr H5 h5 k5=>⟨_,_,rfl,rfl,?_⟩⟩
     refine⟨_,rfl,_,_,rfl,rfl,.inr ⟨DD,DD⟩,?_⟩
     refine⟨⟨_,sz * 4294967296,rfl,h5,k4.trans k5,OO⟩,?_⟩
     show (m - sz * 4294967296).toNat < (m - sz).toNat
     lia
    ·refine⟨_,rfl,_,rfl,_,_,rfl,rfl,hm0,?_⟩
     exact k _ _ (B05 _ OO) (B55 _ hm0) h4 k4
local macro_rules|`(tactic|left)=>mqT ""
local macro_rules|`(tactic|array_get_dec)=>mqT "B2k dIl dIv B2e B2f B2m "
local macro_rules|`(tactic|sizeOf_list_dec)=>mqT "Blk "
theorem O0 {k:Nat} {A:Around} (hr:N9 k A):A.units + 64 < cLine:=hr.units
def B4y:DSp:=λds Q=>∃m:Int,ds=[.none,.int m]/\0 < m/\m < 100000000000000000000000000000000000000000000000000000000000000/\∀r:Int,0<=r->r < m->Q (.int r)
theorem C97 {F:Addr->Prop} {hand:Option (Addr×Addr)} {H:Hp} {vs:List V} {ds:List PyData} {ms:List Md} (a:X9 F hand H (.hd::ms) vs ds):∃q vs' d ds',hand=some q/\vs=.ref q.1::vs'/\ds=d::ds'/\X9 F hand H ms vs' ds':=by
 cases a with
 | cons x t=>
  obtain⟨q,e,rfl⟩:=x
  exact⟨q,_,_,_,e,rfl,rfl,t⟩
theorem A5z (T:Txt K mg):C0 P w K mg base CX0 3 T.af.a T.af.d ["_law_hand_here", "_law_many"] (spD [.hd,.sh] B4y):=(C96 T).imp λvs H Q E h=>by
 obtain⟨F,hand,ds,Qd,h1,h2,h3,a,⟨m,rfl,m0,m1,hr⟩,h5⟩:=h
 obtain⟨q,vs',d,ds',e,rfl,e2,a⟩:=C97 a
 cases e2
 subst e
 cases a with
 | cons x t=>
  cases t
  cases (show ThV F H _ (.int m) from x)
  exact⟨q.1,q.2,m,rfl,h3 q rfl,m0,m1,λr H' r0 r1 hd kp=>h5 _ _ _ (hr r r0 r1) (.int r) (λb o eb n=>kp b o eb (n q rfl)) λq' e'=>by cases e';exact hd⟩
def oD:Option Int->PyData
 | none=>.none
 | some i=>.int i
def onD:Option Nat->PyData
 | none=>.none
 | some n=>.int (n:Nat)
def U6 (ns:List Int):List PyData:=ns.map PyData.int
def B8 (t:Tb):List PyData:=t.map oD
def rnL (t:Rn):List PyData:=t.map onD
def T5 (r:Rw):PyData:=.tuple [.list (B8 r.1),.list (rnL r.2)]
def K6 (w:Wy):PyData:=.tuple [.int (w.1:Nat),.int (w.2.1:Nat),.int w.2.2]
def G3 (m:Nat) (ws:List Wy):PyData:=.tuple [.int (m:Nat),.list (ws.map K6)]
def g5:Ef->PyData
 | none=>.none
 | some (l,g,t)=>.tuple [.int l,.int g,.int t]
def numL (ns:List Nat):List PyData:=ns.map λn=>.int (n:Nat)
def P6 (p:List Nat×Int):PyData:=.tuple [.list (numL p.1),.int p.2]
local macro_rules|`(tactic|right)=>mqT "oD onD g5 T5 G3 K6 P6 O6 "
local macro_rules|`(tactic|array_mem_dec)=>mqT "B2k dIl dIv B2e B2f B2m oD onD g5 T5 G3 K6 P6 O6 "
local macro_rules|`(tactic|decreasing_trivial_pre_omega)=>mqT "Blk oD onD g5 T5 G3 K6 P6 O6 "
theorem A35 {t:Tb} {p:Nat} (h:p < t.length):atI (B8 t) ((p:Nat):Int)=some (oD (gt t p)):=z4 (by unfold B8;rw[L8,A7f h];rfl)
theorem B94 {t:Rn} {p:Nat} (h:p < t.length):atI (rnL t) ((p:Nat):Int)=some (onD (gt t p)):=z4 (by unfold rnL;rw[L8,A7f h];rfl)
theorem B0g {ws:List Wy} {n:Nat} {w:Wy} (h:ws[n]?=some w):atI (ws.map K6) ((n:Nat):Int)=some (K6 w):=z4 (by rw[L8,h];rfl)
theorem A36 {n j:Nat} (h:j < n):ixN n ((j:Nat):Int)=some j:=by
 unfold ixN
 rw[if_pos OO,if_pos (OO)]
 simp
theorem A7r {α:Type} {xs:List α} {x:α} (h:xs.getLast?=some x):atI xs (-1)=some x:=by
 obtain⟨ys,rfl⟩:=List.getLast?_eq_some_iff.mp h
 exact B63 ys x
def C98:DSp:=λds Q=>∃st lv ch:Int,ds=[.int st,.int lv,.int ch]/\Q (oD (K5 st lv ch))
def C99:DSp:=λds Q=>∃(st lv:Int) (cs:List Int),ds=[.int st,.int lv,.list (U6 cs)]/\cs.length<=900/\Q (.list (U6 (N8 st lv cs)))
def D0a:DSp:=λds Q=>∃st:Int,ds=[.int st]/\Q (g5 (some (0,0,st)))
def D0b:DSp:=λds Q=>∃st c:Int,ds=[.int st,.int c]/\Q (g5 (j2 st c))
def D0c:DSp:=λds Q=>∃(e:Ef) (x:Int),ds=[g5 e,.int x]/\Q (oD (K9 e x))
def D0d:DSp:=λds Q=>∃a b:Ef,ds=[g5 a,g5 b]/\Q (g5 (Y0 a b))
def D0e:DSp:=λds Q=>∃(st:Int) (cs:List Int),ds=[.int st,.list (U6 cs)]/\Q (g5 (fxF st cs))
def A1a (d:PyData):Bool:=e8 "int" d&&!e8 "bool" d
def B95:DSp:=λds Q=>∃d,ds=[d]/\Q (.bool (A1a d))
def D0f:DSp:=λds Q=>∃(m:Int) (n:Int),ds=[.int m,.int n]/\Q (.bool (decide (0<=n/\n < m)))
def D0g:DSp:=λds Q=>∃a b:Option Int,ds=[oD a,oD b]/\Q (.bool (X2 a b))
def D0h:DSp:=λds Q=>∃(st:Int) (t:Tb) (w:Wy),ds=[.int st,.list (B8 t),K6 w]/\w.1 < t.length/\Q (oD (N3 st t w))
theorem B96 (T:Txt K mg):C0 P w K mg base CX0 1 T.ba.a T.ba.d ["store", "level", "change"] (spD [.sh,.sh,.sh] C98):=by
 refine G5 T.ba.F B9r rfl (λC cdv A outer s H E hr=>⟨_,(@F8 _ _ _ _ _ _ (G1 (C2 (i:=3) B9r.nd rfl (B9 rfl) (K7 O2 e7 (A5 (pv 1)) (A5 (pv 2))))) (F8 (T2 (O3 Z1 A45 (A5 (pv 3)) E3 (D5 _))
   (D9 (E9 N2))
   U5)
   (D9 (E9 (Z6 A9b (J8 (A8t rfl) rfl T.dZ A81 (D8 (A5 (pv 3)) (D8 (A5 (pv 0)) G0 A1) A1))))))),λds Q hl h=>?_⟩)
 obtain⟨st,lv,ch,rfl,q⟩:=h
 left
 unfold K5 at q
 by_cases c:lv + ch < 0
 ·rw[decide_eq_true c,if_pos rfl]
  rw[if_pos c] at q;exact q
 ·rw[decide_eq_false c,if_neg Q8]
  rw[if_neg c] at q;exact q
theorem A7s (T:Txt K mg):C0 P w K mg base CX0 1 T.ai.a T.ai.d ["thing"] (spD [.sh] B95):=by
 refine G5 T.ai.F C8u rfl (λC cdv A outer s H E hr=>⟨_,(@D9 _ _ _ _ (@E9 _ _ _ _ _ (@m9 _ _ _ _ _ _ _ _ (A9d C6j (J8 A83 rfl T.aG A1n (A2 (pv 0) (A2 (A1j (v:=V.ty "int") rfl T.gc B7o rfl) A4 A1) A1))) (d9 (C57 (A9d C6k (J8 A83 rfl T.aG A1n (A2 (pv 0) (A2 (A1j (v:=V.ty "bool") rfl T.gC C49 rfl) A4 A1) A1)))))))),λds Q hl h=>?_⟩)
 obtain⟨d,rfl,q⟩:=h
 left
 unfold A1a at q
 cases d <;> exact q
theorem B97 (T:Txt K mg):C0 P w K mg base CX0 2 T.aC.a T.aC.d ["many", "thing"] (spD [.sh,.sh] D0f):=by
 have aX:=@A7s P w K mg base T
 have aY:=T.ai.b
 refine G5 T.aC.F C8x rfl (λC cdv A outer s H E hr=>⟨_,(D9 (E9 (m9 (F1 (B3 aX (hr.mono DD) rfl T.ai.m T.ai.F.kp aY .nil A8 (B7 (A5 (pv 1)) F0 A1))) (d9 (A66 i8 Z1 E3 (A5 (pv 1)) (A5 (pv 0))))))),λds Q hl h=>?_⟩)
 obtain⟨m,n,rfl,q⟩:=h
 left
 refine⟨_,rfl,?_⟩
 left
 by_cases c:0<=n
 ·by_cases c2:n < m
  ·simpa [c,c2,A1a,e8,tyD,B95] using q
  ·simpa [c,c2,A1a,e8,tyD] using q
 ·simpa [c,A1a,e8,tyD] using q
theorem D0i (T:Txt K mg):C0 P w K mg base CX0 1 T.bP.a T.bP.d ["one", "other"] (spD [.sh,.sh] D0g):=by
 refine G5 T.bP.F C84 rfl (λC cdv A outer s H E hr=>⟨_,(D9 (E9 (m9 (m8 A4v A65 (A5 (pv 0)) N2 (D5 _)) (d9 (B15 (m8 Z2 A0e (A5 (pv 1)) N2 (D5 _)) (d9 (m8 A4u A63 (A5 (pv 0)) (A5 (pv 1)) (D5 _)))))))),λds Q hl h=>?_⟩)
 obtain⟨a,b,rfl,q⟩:=h
 cases a with
 | none=>
  left
  exact q
 | some x=>
  cases b with
  | none=>
   left
   exact q
  | some y=>
   left
   exact q
theorem D0j (T:Txt K mg):C0 P w K mg base CX0 2 T.bh.a T.bh.d ["store", "table", "way"] (spD [.sh,.sh,.sh] D0h):=by
 have dH:=@B96 P w K mg base T
 have dI:=T.ba.b
 refine G5 T.bh.F B9s rfl (λC cdv A outer s H E hr=>⟨_,(@F8 _ _ _ _ _ _ (G1 (C2 (i:=3) B9s.nd rfl (B9 rfl) (C7 (pv 1) (C7 (pv 2) (D3 (C9 (v:=V.int 0) rfl T.g_START.m ⟨_,rfl⟩)) (λ_ _=>rfl)) (λ_ _=>rfl)))) (@F8 _ _ _ _ _ _ (T2 (O3 Z2 A0e (A5 (pv 3)) N2 (D5 _))
   (D9 (E9 N2))
   U5) (D9 (E9 (F1 (B3 dH (hr.mono DD) rfl T.ba.m T.ba.F.kp dI .nil A8 (B7 (A5 (pv 0)) (B7 (A5 (pv 3)) (B7 (C7 (pv 2) (D3 (C9 (v:=V.int 2) rfl T.g_CHANGE.m ⟨_,rfl⟩)) (λ_ _=>rfl)) F0 A7) A1) A1))))))),λds Q hl h=>?_⟩)
 obtain⟨st,t,w,rfl,hw,q⟩:=h
 right
 rw[A35 hw]
 unfold N3 at q
 cases e:gt t w.1 with
 | none=>
  rw[e] at q
  right
  exact q
 | some l=>
  rw[e] at q
  right
  exact⟨_,_,_,rfl,q⟩
theorem D0k (T:Txt K mg):C0 P w K mg base CX0 1 T.bX.a T.bX.d ["effect", "level"] (spD [.sh,.sh] D0c):=by
 refine G5 T.bX.F C88 rfl (λC cdv A outer s H E hr=>⟨_,(@F8 _ _ _ _ _ _ (T2 (PW.pt (A2x (O3 Z2 A0e (A5 (pv 0)) N2 (D5 _)) (A43 (O3 Z1 A45 (A5 (pv 1)) (C7 (pv 0) (D3 (C9 (v:=V.int 0) rfl T.g_LEAST.m ⟨_,rfl⟩)) (λ_ _=>rfl)) (D5 _)))))
   (D9 (E9 N2))
   U5) (D9 (E9 (Z6 A9b (J8 (A8t rfl) rfl T.dZ A81 (D8 (K7 O2 e7 (A5 (pv 1)) (C7 (pv 0) (D3 (C9 (v:=V.int 1) rfl T.g_GAIN.m ⟨_,rfl⟩)) (λ_ _=>rfl))) (D8 (C7 (pv 0) (D3 (C9 (v:=V.int 2) rfl T.g_TOP.m ⟨_,rfl⟩)) (λ_ _=>rfl)) G0 A7) K0)))))),λds Q hl h=>?_⟩)
 obtain⟨e,x,rfl,q⟩:=h
 rcases e with _ | ⟨l,g,t⟩
 ·right
  exact q
 ·unfold K9 at q
  dsimp only at q
  right
  by_cases c:x < l
  ·rw[if_pos c] at q
   simp only[c,decide_true,if_true]
   exact q
  ·rw[if_neg c] at q
   simp only[c,decide_false,A6f,if_false]
   exact q
theorem D0l (T:Txt K mg):C0 P w K mg base CX0 2 T.bY.a T.bY.d ["one", "other"] (spD [.sh,.sh] D0d):=by
 have gQ:=@D0k P w K mg base T
 have gR:=T.bX.b
 refine G5 T.bY.F B9t rfl (λC cdv A outer s H E hr=>⟨_,(@F8 _ _ _ _ _ _ (@T2 _ _ _ _ _ _ _ _ _ (PW.pt (A2x (O3 Z2 A0e (A5 (pv 0)) N2 (D5 _)) (A2x (O3 Z2 A0e (A5 (pv 1)) N2 (D5 _)) (A43 (O3 Z1 A45 (C7 (pv 0) (D3 (C9 (v:=V.int 2) rfl T.g_TOP.m ⟨_,rfl⟩)) (λ_ _=>rfl)) (C7 (pv 1) (D3 (C9 (v:=V.int 0) rfl T.g_LEAST.m ⟨_,rfl⟩)) (λ_ _=>rfl)) (D5 _)))))) (D9 (E9 N2)) U5) (@F8 _ _ _ _ _ _ (@G1 _ _ _ _ _ (@C2 _ _ 2 _ _ _ _ B9t.nd rfl (B9 rfl) (@Z6 _ _ _ _ _ _ A9c (@J8 _ _ _ _ _ _ _ _ _ (A6y rfl) rfl T.cS A2r (D8 (C7 (pv 0) (D3 (C9 (v:=V.int 0) rfl T.g_LEAST.m ⟨_,rfl⟩)) (λ_ _=>rfl)) (D8 (K7 A4t A88 (C7 (pv 1) (D3 (C9 (v:=V.int 0) rfl T.g_LEAST.m ⟨_,rfl⟩)) (λ_ _=>rfl)) (C7 (pv 0) (D3 (C9 (v:=V.int 1) rfl T.g_GAIN.m ⟨_,rfl⟩)) (λ_ _=>rfl))) G0 K0) A7) DD DD A7 ((A6 K0 A3)))) (by rfl) (by first | exact .inl rfl | exact .inr rfl | assumption))) (@D9 _ _ _ _ (@E9 _ _ _ _ _ (@X0 _ _ _ _ _ _ (@D8 _ _ _ _ _ _ (A5 (pv 2)) (@D8 _ _ _ _ _ _ (K7 O2 e7 (C7 (pv 0) (D3 (C9 (v:=V.int 1) rfl T.g_GAIN.m ⟨_,rfl⟩)) (λ_ _=>rfl)) (C7 (pv 1) (D3 (C9 (v:=V.int 1) rfl T.g_GAIN.m ⟨_,rfl⟩)) (λ_ _=>rfl))) (D8 (F1 (B3 gQ (hr.mono DD) rfl T.bX.m T.bX.F.kp gR .nil A8 (B7 (A5 (pv 1)) (B7 (C7 (pv 0) (D3 (C9 (v:=V.int 2) rfl T.g_TOP.m ⟨_,rfl⟩)) (λ_ _=>rfl)) F0 A7) A1))) G0 D7) K0) A1)))))),λds Q hl h=>?_⟩)
 obtain⟨a,b,rfl,q⟩:=h
 rcases a with _ | ⟨l1,g1,t1⟩
 ·right
  exact q
 ·rcases b with _ | ⟨l2,g2,t2⟩
  ·right
   exact q
  ·right
   by_cases c:t1 < l2
   ·rw[A7g (a:=(l1,g1,t1)) (b:=(l2,g2,t2)) c] at q
    simp only[c,decide_true,if_true]
    exact q
   ·rw[A5o (a:=(l1,g1,t1)) (b:=(l2,g2,t2)) c] at q
    simp only[c,decide_false,A6f,if_false]
    refine⟨some (l2,g2,t2),t1,rfl,?_⟩
    have e:oD (K9 (some (l2,g2,t2)) t1)=.int (if t2 < t1 + g2 then t2 else t1 + g2):=by
     unfold K9
     dsimp only
     rw[if_neg c]
     rfl
    rw[e]
    left
    simp only[g5] at q
    exact⟨DD,q⟩
theorem D0m (T:Txt K mg):C0 P w K mg base CX0 1 T.aE.a T.aE.d ["store"] (spD [.sh] D0a):=by
 refine G5 T.aE.F C86 rfl (λC cdv A outer s H E hr=>⟨_,(D9 (E9 (X0 (D8 E3 (D8 E3 (D8 (A5 (pv 0)) G0 A1) E4) E4)))),λds Q hl h=>?_⟩)
 obtain⟨st,rfl,q⟩:=h
 right
 exact⟨DD,q⟩
theorem D0n (T:Txt K mg):C0 P w K mg base CX0 1 T.aI.a T.aI.d ["store", "change"] (spD [.sh,.sh] D0b):=by
 refine G5 T.aI.F C87 rfl (λC cdv A outer s H E hr=>⟨_,(@F8 _ _ _ _ _ _ (T2 (O3 Z1 A45 (K7 O2 e7 (A5 (pv 0)) (A5 (pv 1))) E3 (D5 _))
   (D9 (E9 N2))
   U5) (@D9 _ _ _ _ (@E9 _ _ _ _ _ (@X0 _ _ _ _ _ _ (@D8 _ _ _ _ _ _ (Z6 A9c (J8 (A6y rfl) rfl T.cS A2r (D8 E3 (D8 (A0b (A5 (pv 1))) G0 A40) E4))) (D8 (A5 (pv 1)) (D8 (Z6 A9b (J8 (A8t rfl) rfl T.dZ A81 (D8 (A5 (pv 0)) (D8 (K7 O2 e7 (A5 (pv 0)) (A5 (pv 1))) G0 K0) A1))) G0 D7) A1) D7))))),λds Q hl h=>?_⟩)
 obtain⟨st,c,rfl,q⟩:=h
 unfold j2 at q
 right
 by_cases d:st + c < 0
 ·rw[if_pos d] at q
  simp only[d,decide_true,if_true]
  exact q
 ·rw[if_neg d] at q
  simp only[d,decide_false,A6f,if_false]
  exact⟨DD,q⟩
theorem D0o (T:Txt K mg):C0 P w K mg base CX0 3 T.bz.a T.bz.d ["store", "changes"] (spD [.sh,.sh] D0e):=by
 have dX:=@D0m P w K mg base T
 have dY:=T.aE.b
 have eh:=@D0n P w K mg base T
 have eu:=T.aI.b
 have gS:=@D0l P w K mg base T
 have gT:=T.bY.b
 refine G5 T.bz.F B0a rfl (λC cdv A outer s H E hr=>⟨_,(@F8 _ _ _ _ _ _ (G1 (C2 (i:=2) B0a.nd rfl (B9 rfl) (F1 (B3 dX (hr.mono DD) rfl T.aE.m T.aE.F.kp dY .nil A8 (B7 (A5 (pv 0)) F0 A1))))) (@F8 _ _ _ _ _ _ (@A47 _ _ _ _ _ _ (@X5 _ _ _ _ _ _ _ _ S9 rfl (A7b (pv 1)) (A9j (P9 (i:=3) B0a.nd rfl (B9 rfl))) (@D9 _ _ _ _ (@G1 _ _ _ _ _ (@C2 _ _ 2 _ _ _ _ B0a.nd rfl (B9 rfl) (@F1 _ _ _ _ _ _ _ (@B3 _ _ _ _ _ _ _ _ _ _ _ _ _ _ _ _ gS (hr.mono DD) rfl T.bY.m T.bY.F.kp gT .nil A8 (B7 (A5 (pv 2)) (B7 (F1 (B3 eh (hr.mono DD) rfl T.aI.m T.aI.F.kp eu .nil A8 (B7 (A5 (pv 0)) (B7 (A5 (pv 3)) F0 A1) A1))) F0 D7) A1) DD A1 ((A6 D7 A3)))) (by rfl) (by first | exact .inl rfl | exact .inr rfl | assumption)))) (by intro _;rfl))) (D9 (E9 (A5 (pv 2)))))),λds Q hl h=>?_⟩)
 obtain⟨st,cs,rfl,q⟩:=h
 left
 refine⟨st,rfl,?_⟩
 array_get_dec
 refine⟨λr ρ=>∃(cs':List Int) (e:Ef) (z0 z:Sl),r=U6 cs'/\ρ=[Sl.sh (.int st),z0,Sl.sh (g5 e),z]/\Q (g5 (foF st e cs')),⟨cs,_,_,_,rfl,rfl,q⟩,?_,?_⟩
 ·rintro x r ρ ⟨cs',e,z0,z,h1,rfl,q⟩
  cases cs' with
  | nil=>cases h1
  | cons c cs'=>
   cases (show x::r=PyData.int c::U6 cs' from h1)
   sizeOf_list_dec
   refine⟨_,_,rfl,?_⟩
   left
   refine⟨_,_,rfl,?_⟩
   exact⟨cs',_,_,_,rfl,rfl,q⟩
 ·rintro ρ ⟨cs',e,z0,z,h1,rfl,q⟩
  cases cs' with
  | nil=>
   left
   exact q
  | cons c cs'=>cases h1
theorem D0p (T:Txt K mg):C0 P w K mg base CX0 2 T.ay.a T.ay.d ["store", "level", "changes"] (spD [.sh,.sh,.sh] C99):=by
 have dH:=@B96 P w K mg base T
 have dI:=T.ba.b
 refine G5 T.ay.F A99 rfl (λC cdv A outer s H E hr=>⟨_,(@F8 _ _ _ _ _ _ (A3v (C2 (i:=3) A99.nd rfl (B9 rfl) (Z5 (D8 (A5 (pv 1)) G0 A1)))) (@F8 _ _ _ _ _ _ (@A47 _ _ _ _ _ _ (@X5 _ _ _ _ _ _ _ _ S9 rfl (A7b (pv 2)) (A9j (P9 (i:=4) A99.nd rfl (B9 rfl))) (@F8 _ _ _ _ _ _ (G1 (C2 (i:=5) A99.nd rfl (B9 rfl) (F1 (B3 dH (hr.mono DD) rfl T.ba.m T.ba.F.kp dI .nil A8 (B7 (A5 (pv 0)) (B7 (C7 (pv 3) (A0b E3) (λ_ _=>rfl)) (B7 (A5 (pv 4)) F0 A1) A7) A1))))) (F8 (T2 (O3 Z2 A0e (A5 (pv 5)) N2 (D5 _))
   (D9 (E9 (A5 (pv 3))))
   U5)
   (D9 (A9i (P8 (z5 t9 A4q A4r A1l (pv 3) (A2 (A5 (pv 5)) A4 A1))))))) (by intro _;rfl))) (D9 (E9 (A5 (pv 3)))))),λds Q hl h=>?_⟩)
 obtain⟨st,lv,cs,rfl,hn,q⟩:=h
 array_get_dec
 refine⟨DD,λr ρ=>∃(cs' ys:List Int) (l:Int) (z0 z1 z2:Sl),r=U6 cs'/\ρ=[Sl.sh (.int st),Sl.sh (.int lv),z0,Sl.ow (U6 (ys++[l])),z1,z2]/\ys.length + cs'.length=cs.length/\ys++N8 st l cs'=N8 st lv cs,⟨cs,[],lv,_,_,_,rfl,rfl,by simp,rfl⟩,?_,?_⟩
 ·rintro x r ρ ⟨cs',ys,l,z0,z1,z2,h1,rfl,h2,h3⟩
  cases cs' with
  | nil=>cases h1
  | cons c cs'=>
   cases (show x::r=PyData.int c::U6 cs' from h1)
   have hlast:atI (U6 (ys++[l])) (-1)=some (.int l):=A7r (by unfold U6;simp)
   sizeOf_list_dec
   rw[hlast]
   left
   refine⟨_,_,_,rfl,?_⟩
   cases e:K5 st l c with
   | none=>
    rw[C7r e] at h3
    right
    rw[h3]
    exact q
   | some v=>
    rw[C7s e] at h3
    right
    refine⟨by unfold U6;rw[C1,P0];simp at h2 ⊢;lia,cs',ys++[l],v,z0,_,_,rfl,by rw[show U6 (ys++[l]++[v])=U6 (ys++[l])++[.int v] by unfold U6;simp],by simp at h2 ⊢;lia,by rw[<-h3];simp⟩
 ·rintro ρ ⟨cs',ys,l,z0,z1,z2,h1,rfl,h2,h3⟩
  cases cs' with
  | nil=>
   left
   have e:ys++[l]=N8 st lv cs:=h3
   rw[e]
   exact q
  | cons c cs'=>cases h1
def T6 (w:Wy):Wy:=(w.2.1,w.1,w.2.2)
theorem Y2 {t:Tb}:(B8 t).length=t.length:=by unfold B8;rw[C1]
theorem D0q {t:Rn}:(rnL t).length=t.length:=by unfold rnL;rw[C1]
theorem n8 {t:List Nat}:(numL t).length=t.length:=by unfold numL;rw[C1]
theorem B4z {t:Tb} {i:Nat} {x:Option Int}:(B8 t).set i (oD x)=B8 (t.set i x):=by unfold B8;rw[List.map_set]
theorem D0r {t:Rn} {i n:Nat}:(rnL t).set i (.int (n:Nat))=rnL (t.set i (some n)):=by unfold rnL;rw[List.map_set];rfl
theorem B98 {n:Nat}:A3l [PyData.none] n=rnL (E5 n none):=by
 unfold A3l rnL
 induction n with
 | zero=>rfl
 | succ n ih=>rw[A0s,A0s,A4m,O9,ih];rfl
theorem D0s {n:Nat}:A3l [PyData.none] n=B8 (E5 n none):=by
 unfold A3l B8
 induction n with
 | zero=>rfl
 | succ n ih=>rw[A0s,A0s,A4m,O9,ih];rfl
theorem D0t {ws:List Wy}:A0g (ws.map K6)=ws.zipIdx.map λp=>.tuple [.int (p.2:Nat),K6 p.1]:=by
 unfold A0g
 rw[List.zipIdx_map,A0w]
 rfl
def D0u:DSp:=λds Q=>∃(m:Nat) (ws:List Wy),ds=[G3 m ws]/\ws.length<=900/\Q (G3 m (ws.map T6))
def D0v:DSp:=λds Q=>∃(m:Nat) (ws:List Wy) (ns:List Nat),ds=[G3 m ws,.list (numL ns)]/\(∀n∈ns,n < ws.length)/\ns.length<=900/\Q (.list (U6 (chs ws ns)))
def D0w:DSp:=λds Q=>∃t:Tb,ds=[.list (B8 t)]/\t.length<=900/\Q (T5 (t,E5 t.length none))
def D0x:DSp:=λds Q=>∃(m:Nat) (ws:List Wy) (st:Int) (t s:Tb),ds=[G3 m ws,.int st,.list (B8 t),.list (B8 s)]/\J6 m ws/\t.length=m/\s.length=m/\Q (T5 (N7 m ws st t s))
def A37 (m:Nat) (ws:List Wy) (rs:List Rw):Prop:=∀r∈rs,r.2.length=m/\∀q n,gt r.2 q=some n->n < ws.length
def D0y:DSp:=λds Q=>∃(m:Nat) (ws:List Wy) (rs:List Rw) (p:Nat),ds=[G3 m ws,.list (rs.map T5),.int (p:Nat)]/\p < m/\J6 m ws/\A37 m ws rs/\rs.length<=900/\Q (.tuple [.int ((wlk ws rs.reverse p).1:Nat),.list (numL (wlk ws rs.reverse p).2)])
theorem B99 (T:Txt K mg):C0 P w K mg base CX0 1 T.ax.a T.ax.d ["land"] (spD [.sh] D0u):=by
 refine G5 T.ax.F C80 rfl (λC cdv A outer s H E hr=>⟨_,(@D9 _ _ _ _ (@E9 _ _ _ _ _ (@X0 _ _ _ _ _ _ (@D8 _ _ _ _ _ _ (C7 (pv 0) (D3 (C9 (v:=V.int 0) rfl T.g_MANY.m ⟨_,rfl⟩)) (λ_ _=>rfl)) (@D8 _ _ _ _ _ _ (@L3 _ _ _ _ (@A10 _ _ _ _ _ _ _ _ rfl (@V4 _ _ _ _ _ _ _ _ _ _ _ _ _ _ _ (M2.new (N:=["land"]) (osc:=B6 A9q) KK) rfl (A9g (C7 (pv 0) (D3 (C9 (v:=V.int 1) rfl T.g_WAYS.m ⟨_,rfl⟩)) (λ_ _=>rfl))) (λ_=>A05) (λ_=>(X0 (D8 (C7 (pv 1) (D3 (C9 (v:=V.int 1) rfl T.g_END.m ⟨_,rfl⟩)) (λ_ _=>rfl)) (D8 (C7 (pv 1) (D3 (C9 (v:=V.int 0) rfl T.g_START.m ⟨_,rfl⟩)) (λ_ _=>rfl)) (D8 (C7 (pv 1) (D3 (C9 (v:=V.int 2) rfl T.g_CHANGE.m ⟨_,rfl⟩)) (λ_ _=>rfl)) G0 A7) A7) A7))) (by rfl) (by rfl) (by intro _;rfl)))) G0 A2t) A7)))),λds Q hl h=>?_⟩)
 obtain⟨m,ws,rfl,hn,q⟩:=h
 array_mem_dec
 refine⟨⟨rfl,by rw[C1];lia⟩,A06 (f:=λw=>K6 (T6 w)) (λw hw Q' q'=>?_) ?_⟩
 ·right
  exact⟨DD,q'⟩
 ·refine⟨DD,?_⟩
  unfold G3 at q
  rw[A0w] at q
  exact q
theorem D0z (T:Txt K mg):C0 P w K mg base CX0 1 T.av.a T.av.d ["land", "numbers"] (spD [.sh,.sh] D0v):=by
 refine G5 T.av.F C81 rfl (λC cdv A outer s H E hr=>⟨_,(D9 (E9 (L3 (A10 rfl (V4 (M2.new (N:=["land", "numbers"]) (osc:=B6 A9r) KK) rfl (A7b (pv 1)) (λ_=>A05) (λ_=>(Q6 (Q6 (C7 (pv 0) (D3 (C9 (v:=V.int 1) rfl T.g_WAYS.m ⟨_,rfl⟩)) (λ_ _=>rfl)) (A5 (pv 2)) (λ_ _=>rfl)) (D3 (C9 (v:=V.int 2) rfl T.g_CHANGE.m ⟨_,rfl⟩)) (λ_ _=>rfl)))))))),λds Q hl h=>?_⟩)
 obtain⟨m,ws,ns,rfl,hb,hn,q⟩:=h
 array_mem_dec
 refine⟨⟨rfl,by rw[n8];lia⟩,?_⟩
 unfold numL
 refine A06 (f:=λn=>.int (Y1 ws n)) (λn hm Q' q'=>?_) ?_
 ·obtain⟨w,hw⟩:∃w,ws[n]?=some w:=⟨_,M9 (hb n hm)⟩
  right
  rw[B0g hw]
  right
  have e:Y1 ws n=w.2.2:=by unfold Y1;rw[hw]
  rw[e] at q'
  exact q'
 ·unfold U6 chs at q
  rw[A0w] at q
  exact q
theorem D00 (T:Txt K mg):C0 P w K mg base CX0 1 T.bA.a T.bA.d ["table"] (spD [.bo] D0w):=by
 refine G5 T.bA.F C89 rfl (λC cdv A outer s H E hr=>⟨_,(D9 (E9 (X0 (D8 (L3 (B18 (R8 W7 rfl T.au R9 (A2 (pv 0) A4 A1)))) (D8 (L3 (B2a (L3 (Z5 (D8 N2 G0 E4))) (A46 (J8 b8 rfl T.bC Z4 (A2 (pv 0) A4 A1))))) G0 K0) D7)))),λds Q hl h=>?_⟩)
 obtain⟨t,rfl,hn,q⟩:=h
 right
 refine⟨DD,⟨OO,by rw[Y2];lia,DD⟩,DD,?_⟩
 unfold T5 at q
 rw[Y2,show ((t.length:Nat):Int).toNat=t.length by simp,B98]
 exact q
theorem D01 (T:Txt K mg):C0 P w K mg base CX0 3 T.bi.a T.bi.d ["land", "store", "table", "stayed"] (spD [.sh,.sh,.sh,.sh] D0x):=by
 have fu:=@D0j P w K mg base T
 have fv:=T.bh.b
 have gE:=@D0i P w K mg base T
 have gF:=T.bP.b
 refine G5 T.bi.F A5u rfl (λC cdv A outer s H E hr=>⟨_,(@F8 _ _ _ _ _ _ (A3v (C2 (i:=4) A5u.nd rfl (B9 rfl) (B18 (R8 W7 rfl T.au R9 (A2 (pv 3) A4 A1))))) (@F8 _ _ _ _ _ _ (A3v (C2 (i:=5) A5u.nd rfl (B9 rfl) (B2a (L3 (Z5 (D8 N2 G0 E4))) (C7 (pv 0) (D3 (C9 (v:=V.int 0) rfl T.g_MANY.m ⟨_,rfl⟩)) (λ_ _=>rfl))))) (@F8 _ _ _ _ _ _ (@A47 _ _ _ _ _ _ (@X5 _ _ _ _ _ _ _ _ S9 rfl (B8f (B7r rfl T.cY (A2 (C7 (pv 0) (D3 (C9 (v:=V.int 1) rfl T.g_WAYS.m ⟨_,rfl⟩)) (λ_ _=>rfl)) A4 A7))) (B8g (A6u (n:=2) rfl (w6 (P9 (i:=6) A5u.nd rfl (B9 rfl)) (w6 (P9 (i:=7) A5u.nd rfl (B9 rfl)) A6t)))) (@F8 _ _ _ _ _ _ (G1 (C2 (i:=8) A5u.nd rfl (B9 rfl) (F1 (B3 fu (hr.mono DD) rfl T.bh.m T.bh.F.kp fv .nil A8 (B7 (A5 (pv 1)) (B7 (A5 (pv 2)) (B7 (A5 (pv 7)) F0 A1) A1) A1))))) (@D9 _ _ _ _ (@T2 _ _ _ _ _ _ _ _ _ (A2u (F1 (B3 gE (hr.mono DD) rfl T.bP.m T.bP.F.kp gF .nil A8 (B7 (A5 (pv 8)) (B7 (C7 (pv 4) (C7 (pv 7) (D3 (C9 (v:=V.int 1) rfl T.g_END.m ⟨_,rfl⟩)) (λ_ _=>rfl)) (λ_ _=>rfl)) F0 A7) A1)))) (F8 (A7c (T0 (A5 (pv 8)) (W4 (pv 4) (C7 (pv 7) (D3 (C9 (v:=V.int 1) rfl T.g_END.m ⟨_,rfl⟩)) (λ_ _=>rfl)) U2)))
   (D9 (A7c (T0 (A5 (pv 6)) (W4 (pv 5) (C7 (pv 7) (D3 (C9 (v:=V.int 1) rfl T.g_END.m ⟨_,rfl⟩)) (λ_ _=>rfl)) U2))))) U5))) (by intro _;rfl))) (D9 (E9 (X0 (D8 (A5 (pv 4)) (D8 (A5 (pv 5)) G0 A1) A1))))))),λds Q hl h=>?_⟩)
 obtain⟨m,ws,st,t,s0,rfl,ok,ht,hs,q⟩:=h
 have m2:=ok.m2
 array_mem_dec
 refine⟨DD,⟨OO,OO,DD⟩,?_⟩
 rw[show ((m:Nat):Int).toNat=m by simp,B98,D0t]
 refine⟨λr ρ=>∃(R:List (Wy×Nat)) (acc:Tb×Rn) (z1 z2 z3:Sl),r=R.map (λp=>.tuple [.int (p.2:Nat),K6 p.1])/\ρ=[Sl.sh (G3 m ws),Sl.sh (.int st),Sl.sh (.list (B8 t)),Sl.sh (.list (B8 s0)),Sl.ow (B8 acc.1),Sl.ow (rnL acc.2),z1,z2,z3]/\acc.1.length=m/\acc.2.length=m/\(∀p∈R,p.1∈ws)/\R.foldl (A11 st t) acc=N7 m ws st t s0,
  ⟨ws.zipIdx,(s0,E5 m none),_,_,_,rfl,rfl,hs,by simp,λp hp=>?_,rfl⟩,?_,?_⟩
 ·obtain⟨w,n⟩:=p
  rw[C2l] at hp
  exact Q9 hp
 ·rintro x r ρ ⟨R,acc,z1,z2,z3,h1,rfl,l1,l2,hR,hF⟩
  cases R with
  | nil=>cases h1
  | cons p R=>
   cases (show x::r=PyData.tuple [.int (p.2:Nat),K6 p.1]::R.map (λp=>.tuple [.int (p.2:Nat),K6 p.1]) from h1)
   have hw:=hR p D4
   have e1:=ok.en _ hw
   have hF':R.foldl (A11 st t) (A11 st t acc p)=N7 m ws st t s0:=hF
   sizeOf_list_dec
   refine⟨_,_,_,rfl,by rw[ht];exact ok.st _ hw,?_⟩
   unfold K6
   left
   rw[A35 (by rw[l1];exact e1)]
   left
   refine⟨_,_,rfl,?_⟩
   unfold A11 at hF'
   cases c:X2 (N3 st t p.1) (gt acc.1 p.1.2.1) with
   | true=>
    rw[if_pos c] at hF'
    left
    rw[A36 (by rw[Y2,l1];exact e1)]
    left
    rw[A36 (by rw[D0q,l2];exact e1),B4z]
    left
    rw[D0r]
    exact⟨R,_,_,_,_,rfl,rfl,by rw[W0];exact l1,by rw[W0];exact l2,λp hp=>hR p (C8 _ hp),hF'⟩
   | false=>
    rw[if_neg (by rw[c];exact Q8)] at hF'
    left
    exact⟨R,acc,_,_,_,rfl,rfl,l1,l2,λp hp=>hR p (C8 _ hp),hF'⟩
 ·rintro ρ ⟨R,acc,z1,z2,z3,h1,rfl,l1,l2,hR,hF⟩
  cases R with
  | cons p R=>cases h1
  | nil=>
   left
   refine⟨DD,?_⟩
   have hF':acc=N7 m ws st t s0:=hF
   rw[<-hF'] at q
   exact q
theorem C0a (T:Txt K mg):C0 P w K mg base CX0 1 T.bc.a T.bc.d ["land", "rows", "place"] (spD [.sh,.sh,.sh] D0y):=by
 refine G5 T.bc.F A5v rfl (λC cdv A outer s H E hr=>⟨_,(@F8 _ _ _ _ _ _ (G1 (C2 (i:=3) A5v.nd rfl (B9 rfl) (A5 (pv 2)))) (@F8 _ _ _ _ _ _ (A3v (C2 (i:=4) A5v.nd rfl (B9 rfl) (Z5 G0))) (@F8 _ _ _ _ _ _ (@A47 _ _ _ _ _ _ (@X5 _ _ _ _ _ _ _ _ S9 rfl (C67 (B7x rfl T.cj (A2 (A5 (pv 1)) A4 A1))) (A9j (P9 (i:=5) A5v.nd rfl (B9 rfl))) (@F8 _ _ _ _ _ _ (G1 (C2 (i:=6) A5v.nd rfl (B9 rfl) (Q6 (C7 (pv 5) (D3 (C9 (v:=V.int 1) rfl T.g_RISEN.m ⟨_,rfl⟩)) (λ_ _=>rfl)) (A5 (pv 3)) (λ_ _=>rfl)))) (@D9 _ _ _ _ (@T2 _ _ _ _ _ _ _ _ _ (O3 A4v A65 (A5 (pv 6)) N2 (D5 _)) (@F8 _ _ _ _ _ _ (A9i (P8 (z5 t9 A4q A4r A1l (pv 4) (A2 (A5 (pv 6)) A4 A1)))) (D9 (G1 (C2 (i:=3) A5v.nd rfl (B9 rfl) (Q6 (Q6 (C7 (pv 0) (D3 (C9 (v:=V.int 1) rfl T.g_WAYS.m ⟨_,rfl⟩)) (λ_ _=>rfl)) (A5 (pv 6)) (λ_ _=>rfl)) (D3 (C9 (v:=V.int 0) rfl T.g_START.m ⟨_,rfl⟩)) (λ_ _=>rfl)))))) U5))) (by intro _;rfl))) (D9 (E9 (X0 (D8 (A5 (pv 3)) (D8 (L3 (C65 (B7v rfl T.au rfl T.cj rfl (A2 (A5 (pv 4)) A4 A1)))) G0 D7) A1))))))),λds Q hl h=>?_⟩)
 obtain⟨m,ws,rs,p,rfl,hp,ok,hr2,hn,q⟩:=h
 array_mem_dec
 refine⟨DD,?_⟩
 refine⟨λr ρ=>∃(R:List Rw) (here:Nat) (acc:List Nat) (z1 z2:Sl),r=R.map T5/\ρ=[Sl.sh (G3 m ws),Sl.sh (.list (rs.map T5)),Sl.sh (.int (p:Nat)),Sl.sh (.int (here:Nat)),Sl.ow (numL acc),z1,z2]/\here < m/\A37 m ws R/\acc.length + R.length<=rs.length/\wlk ws rs.reverse p=((wlk ws R here).1,(wlk ws R here).2++acc.reverse),
  ⟨rs.reverse,p,[],_,_,by rw[B06],rfl,hp,λr hr=>hr2 r (List.mem_reverse.mp hr),by simp,by simp⟩,?_,?_⟩
 ·rintro x r ρ ⟨R,here,acc,z1,z2,h1,rfl,hh,hR,hl2,hW⟩
  cases R with
  | nil=>cases h1
  | cons r0 R=>
   cases (show x::r=T5 r0::R.map T5 from h1)
   obtain⟨l0,b0⟩:=hR r0 D4
   decreasing_trivial_pre_omega
   rw[B94 (by rw[l0];exact hh)]
   cases c:gt r0.2 here with
   | none=>
    right
    refine⟨R,here,acc,_,_,rfl,rfl,hh,λr hr=>hR r (C8 _ hr),by simp at hl2;lia,?_⟩
    rw[hW]
    have:wlk ws (r0::R) here=wlk ws R here:=by
     show (match gt r0.2 here with
      | none=>wlk ws R here
      | some n=>((wlk ws R (P5 ws n)).1,(wlk ws R (P5 ws n)).2++[n]))=_
     rw[c]
    rw[this]
   | some n=>
    have hn':=b0 here n c
    obtain⟨w,hw⟩:∃w,ws[n]?=some w:=⟨_,M9 hn'⟩
    right
    refine⟨by rw[n8];simp at hl2;lia,?_⟩
    rw[B0g hw]
    right
    refine⟨R,w.1,acc++[n],_,_,rfl,by rw[show numL (acc++[n])=numL acc++[.int (n:Nat)] by unfold numL;simp],ok.st w (Q9 hw),λr hr=>hR r (C8 _ hr),by simp at hl2 ⊢;lia,?_⟩
    ·rw[hW]
     have:wlk ws (r0::R) here=((wlk ws R w.1).1,(wlk ws R w.1).2++[n]):=by
      show (match gt r0.2 here with
       | none=>wlk ws R here
       | some n=>((wlk ws R (P5 ws n)).1,(wlk ws R (P5 ws n)).2++[n]))=_
      rw[c]
      have e:P5 ws n=w.1:=by unfold P5;rw[hw]
      show ((wlk ws R (P5 ws n)).1,(wlk ws R (P5 ws n)).2++[n])=_
      rw[e]
     rw[this]
     simp
 ·rintro ρ ⟨R,here,acc,z1,z2,h1,rfl,hh,hR,hl2,hW⟩
  cases R with
  | cons p R=>cases h1
  | nil=>
   left
   refine⟨DD,?_⟩
   rw[hW] at q
   have e:(numL acc).reverse=numL acc.reverse:=by unfold numL;rw[B06]
   rw[e]
   exact q
inductive Pth (ws:List Wy):Nat->List Nat->Nat->Prop
 | nil {p}:Pth ws p [] p
 | cons {n w ns q}:ws[n]?=some w->Pth ws w.2.1 ns q->Pth ws w.1 (n::ns) q
abbrev Pt:=List Nat×Int
inductive Trp (ws:List Wy):Nat->List Pt->Nat->Prop
 | nil {p}:Trp ws p [] p
 | cons {p q r pt ps}:Pth ws p pt.1 q->pt.1≠[]->1<=pt.2->pt.2<=1000000000000000000000000->(pt.2=1\/q=p)->Trp ws q ps r->Trp ws p (pt::ps) r
theorem Pth.app {ws:List Wy} {a b c:Nat} {xs ys:List Nat} (h1:Pth ws a xs b) (h2:Pth ws b ys c):Pth ws a (xs++ys) c:=by
 induction h1 with
 | nil=>exact h2
 | cons e _ ih=>exact .cons e (ih h2)
theorem Trp.app {ws:List Wy} {a b c:Nat} {xs ys:List Pt} (h1:Trp ws a xs b) (h2:Trp ws b ys c):Trp ws a (xs++ys) c:=by
 induction h1 with
 | nil=>exact h2
 | cons e1 e2 e3 e4 e5 _ ih=>exact .cons e1 e2 e3 e4 e5 (ih h2)
def prt (ns:List Nat):List Pt:=if ns.isEmpty then [] else [(ns,1)]
theorem B40 {ws:List Wy} {a b:Nat} {ns:List Nat} (h:Pth ws a ns b):Trp ws a (prt ns) b:=by
 cases h with
 | nil=>exact .nil
 | cons e t=>exact .cons (pt:=(_,1)) (.cons e t) (by simp) (show (1:Int)<=1 by decide) (show (1:Int)<=1000000000000000000000000 by decide) (.inl rfl) .nil
theorem Wk.pth {ws:List Wy} {st:Int} {b:Tb} {N:List Nat} {P:Nat->Nat} {L:Nat->Int} (W:Wk ws st b N P L) {i:Nat}:∀{j:Nat},i<=j->j<=N.length->Pth ws (P i) (My.seg N i j) (P j)
 | 0,h1,_=>by
  have:i=0:=by lia
  subst this
  rw[A5p];exact .nil
 | j + 1,h1,h2=>by
  by_cases e:i=j + 1
  ·subst e
   rw[A5p];exact .nil
  ·rw[B2t OO (OO)]
   obtain⟨w,hw,e1,e2,_⟩:=W.way j N[j] (M9 OO)
   refine (W.pth (i:=i) (j:=j) OO OO).app ?_
   rw[<-e1,<-e2]
   exact .cons hw .nil
theorem A38 (i j:Int):min (PyData.depth (.int i)) (PyData.depth (.int j))<=64:=by show min 0 0<=64;decide
theorem A39 (i j:Int):PyData.eqv (.int i) (.int j)=(i == j):=by rw[PyData.eqv]
def D02:DSp:=λds Q=>∃(m:Nat) (ws:List Wy) (p q:Nat) (ns:List Nat),ds=[G3 m ws,.int (p:Nat),.list (numL ns)]/\Pth ws p ns q/\Q (.int (q:Nat))
def D03:DSp:=λds Q=>∃(m:Nat) (ws:List Wy) (p q:Nat) (pt:Pt),ds=[G3 m ws,.int (p:Nat),P6 pt]/\Pth ws p pt.1 q/\pt.1≠[]/\1<=pt.2/\pt.2<=1000000000000000000000000/\(pt.2=1\/q=p)/\Q (.int (q:Nat))
def D04:DSp:=λds Q=>∃(m:Nat) (ws:List Wy) (p q:Nat) (ps:List Pt),ds=[G3 m ws,.int (p:Nat),.list (ps.map P6)]/\Trp ws p ps q/\Q (.int (q:Nat))
def D05:DSp:=λds Q=>∃ns:List Nat,ds=[.list (numL ns)]/\Q (.list ((prt ns).map P6))
theorem C0b (T:Txt K mg):C0 P w K mg base CX0 1 T.aD.a T.aD.d ["numbers"] (spD [.sh] D05):=by
 refine G5 T.aD.F C9c rfl (λC cdv A outer s H E hr=>⟨_,(D9 (E9 (B71 (O3 A4u A63 (A46 (J8 b8 rfl T.bC Z4 (A2 (pv 0) A4 A1))) E3 (D5 _)) (L3 (Z5 (D8 (X0 (D8 (A5 (pv 0)) (D8 E3 G0 E4) A1)) G0 X8))) (L3 (Z5 G0))))),λds Q hl h=>?_⟩)
 obtain⟨ns,rfl,q⟩:=h
 right
 cases ns with
 | nil=>exact⟨DD,q⟩
 | cons n ns=>
  have e:decide ((0:Int) < ((numL (n::ns)).length:Nat))=true:=by
   rw[n8];exact decide_eq_true (by rw[G6];lia)
  rw[e]
  right
  exact⟨DD,DD,q⟩
theorem D06 (T:Txt K mg):C0 P w K mg base CX0 3 T.aQ.a T.aQ.d ["land", "place", "numbers"] (spD [.sh,.sh,.sh] D02):=by
 have cG:=@B97 P w K mg base T
 have cH:=T.aC.b
 refine G5 T.aQ.F B0b rfl (λC cdv A outer s H E hr=>⟨_,(@F8 _ _ _ _ _ _ (G1 (C2 (i:=3) B0b.nd rfl (B9 rfl) (A5 (pv 1)))) (@F8 _ _ _ _ _ _ (@A47 _ _ _ _ _ _ (@X5 _ _ _ _ _ _ _ _ S9 rfl (A7b (pv 2)) (A9j (P9 (i:=4) B0b.nd rfl (B9 rfl))) (@F8 _ _ _ _ _ _ (@T2 _ _ _ _ _ _ _ _ _ (PW.pt (@A2x _ _ _ _ _ _ _ _ (@A62 _ _ _ _ _ (@A2u _ _ _ _ (@F1 _ _ _ _ _ _ _ (@B3 _ _ _ _ _ _ _ _ _ _ _ _ _ _ _ _ cG (hr.mono DD) rfl T.aC.m T.aC.F.kp cH .nil A8 (B7 (Z6 B77 (J8 b8 rfl T.bC Z4 (D8 (C7 (pv 0) (D3 (C9 (v:=V.int 1) rfl T.g_WAYS.m ⟨_,rfl⟩)) (λ_ _=>rfl)) G0 A7))) (B7 (A5 (pv 4)) F0 A1) D7) DD D7 ((A6 A1 A3)))) (by intro _;rfl))) (A43 (O3 (A1m (O0 hr)) A1p (Q6 (Q6 (C7 (pv 0) (D3 (C9 (v:=V.int 1) rfl T.g_WAYS.m ⟨_,rfl⟩)) (λ_ _=>rfl)) (A5 (pv 4)) (λ_ _=>rfl)) (D3 (C9 (v:=V.int 0) rfl T.g_START.m ⟨_,rfl⟩)) (λ_ _=>rfl)) (A5 (pv 3)) (D5 _))))) (D9 (E9 N2)) U5) (D9 (G1 (C2 (i:=3) B0b.nd rfl (B9 rfl) (Q6 (Q6 (C7 (pv 0) (D3 (C9 (v:=V.int 1) rfl T.g_WAYS.m ⟨_,rfl⟩)) (λ_ _=>rfl)) (A5 (pv 4)) (λ_ _=>rfl)) (D3 (C9 (v:=V.int 1) rfl T.g_END.m ⟨_,rfl⟩)) (λ_ _=>rfl)))))) (by intro _;rfl))) (D9 (E9 (A5 (pv 3)))))),λds Q hl h=>?_⟩)
 obtain⟨m,ws,p,q0,ns,rfl,hp,q⟩:=h
 array_mem_dec
 refine⟨λr ρ=>∃(ns':List Nat) (p':Nat) (z:Sl),r=numL ns'/\ρ=[Sl.sh (G3 m ws),Sl.sh (.int (p:Nat)),Sl.sh (.list (numL ns)),Sl.sh (.int (p':Nat)),z]/\Pth ws p' ns' q0,⟨ns,p,_,rfl,rfl,hp⟩,?_,?_⟩
 ·rintro x r ρ ⟨ns',p',z,h1,rfl,hp'⟩
  cases hp' with
  | nil=>cases h1
  | @cons n w ns' _ hw hp'=>
   cases (show x::r=PyData.int (n:Nat)::numL ns' from h1)
   have hn:=(V9.mp hw).1
   decreasing_trivial_pre_omega
   refine⟨_,_,rfl,?_⟩
   rw[C1,decide_eq_true (show (0:Int)<=((n:Nat):Int)/\((n:Nat):Int) < ((ws.length:Nat):Int) from ⟨OO,OO⟩)]
   decreasing_trivial_pre_omega
   rw[B0g hw]
   right
   refine⟨rfl,rfl,A38 _ _,?_⟩
   rw[A39,beq_self_eq_true]
   right
   exact⟨ns',w.2.1,_,rfl,rfl,hp'⟩
 ·rintro ρ ⟨ns',p',z,h1,rfl,hp'⟩
  cases hp' with
  | nil=>
   left
   exact q
  | cons hw hp'=>cases h1
theorem D07 (T:Txt K mg):C0 P w K mg base CX0 4 T.aR.a T.aR.d ["land", "place", "part"] (spD [.sh,.sh,.sh] D03):=by
 have eS:=@D06 P w K mg base T
 have eT:=T.aQ.b
 refine G5 T.aR.F B9u rfl (λC cdv A outer s H E hr=>⟨_,(@F8 _ _ _ _ _ _ (@T2 _ _ _ _ _ _ _ _ _ (PW.pt (@A2x _ _ _ _ _ _ _ _ (O3 (A60 (O0 hr)) A1p (Z6 B77 (J8 b8 rfl T.bC Z4 (D8 (C7 (pv 2) (D3 (C9 (v:=V.int 0) rfl T.g_NUMBERS.m ⟨_,rfl⟩)) (λ_ _=>rfl)) G0 A7))) E3 (D5 _)) (A43 (A62 (C6a i8 i8 E3 (C7 (pv 2) (D3 (C9 (v:=V.int 1) rfl T.g_TIMES.m ⟨_,rfl⟩)) (λ_ _=>rfl)) (K7 b7 A0c E3 E3)))))) (D9 (E9 N2)) U5) (@F8 _ _ _ _ _ _ (@G1 _ _ _ _ _ (@C2 _ _ 3 _ _ _ _ B9u.nd rfl (B9 rfl) (F1 (B3 eS (hr.mono DD) rfl T.aQ.m T.aQ.F.kp eT .nil A8 (B7 (A5 (pv 0)) (B7 (A5 (pv 1)) (B7 (C7 (pv 2) (D3 (C9 (v:=V.int 0) rfl T.g_NUMBERS.m ⟨_,rfl⟩)) (λ_ _=>rfl)) F0 A7) A1) A1))) (by rfl) (by first | exact .inl rfl | exact .inr rfl | assumption))) (F8 (T2 (PW.pt (C56 (O3 A4u A63 (C7 (pv 2) (D3 (C9 (v:=V.int 1) rfl T.g_TIMES.m ⟨_,rfl⟩)) (λ_ _=>rfl)) E3 (D5 _)) (C55 (O3 (A1m (O0 hr)) A1p (A5 (pv 3)) (A5 (pv 1)) (D5 _)))))
   (D9 (E9 N2))
   U5)
   (D9 (E9 (A5 (pv 3))))))),λds Q hl h=>?_⟩)
 obtain⟨m,ws,p,q0,⟨ns,t⟩,rfl,hp,hne,t1,t2,ht,q⟩:=h
 simp only at hp hne t1 t2 ht
 right
 refine⟨rfl,rfl,A38 _ _,?_⟩
 have hl0:PyData.eqv (.int ((numL ns).length:Nat)) (.int 0)=false:=by
  rw[A39,n8]
  cases ns with
  | nil=>exact absurd rfl hne
  | cons n r=>exact beq_eq_false_iff_ne.mpr (by simp;lia)
 rw[hl0]
 right
 rw[decide_eq_true (show (1:Int)<=t from t1)]
 right
 refine⟨⟨DD,DD,DD⟩,?_⟩
 rw[decide_eq_true (show t<=(10:Int) ^ (24:Int).toNat from t2)]
 right
 refine⟨_,_,_,_,_,rfl,hp,?_⟩
 right
 rcases ht with ht | ht
 ·rw[decide_eq_false (show ¬ (1:Int) < t by lia)]
  right
  exact q
 ·subst ht
  by_cases c:(1:Int) < t
  ·rw[decide_eq_true c]
   right
   refine⟨rfl,rfl,A38 _ _,?_⟩
   rw[A39,beq_self_eq_true]
   right
   exact q
  ·rw[decide_eq_false c]
   right
   exact q
theorem D08 (T:Txt K mg):C0 P w K mg base CX0 5 T.bZ.a T.bZ.d ["land", "place", "trip"] (spD [.sh,.sh,.sh] D04):=by
 have eU:=@D07 P w K mg base T
 have eV:=T.aR.b
 refine G5 T.bZ.F A7o rfl (λC cdv A outer s H E hr=>⟨_,(@F8 _ _ _ _ _ _ (G1 (C2 (i:=3) A7o.nd rfl (B9 rfl) (A5 (pv 1)))) (@F8 _ _ _ _ _ _ (@A47 _ _ _ _ _ _ (@X5 _ _ _ _ _ _ _ _ S9 rfl (B8f (B7r rfl T.cY (A2 (A5 (pv 2)) A4 A1))) (B8g (A6u (n:=2) rfl (w6 (P9 (i:=4) A7o.nd rfl (B9 rfl)) (w6 (P9 (i:=5) A7o.nd rfl (B9 rfl)) A6t)))) (@F8 _ _ _ _ _ _ (G1 (C2 (i:=3) A7o.nd rfl (B9 rfl) (F1 (B3 eU (hr.mono DD) rfl T.aR.m T.aR.F.kp eV .nil A8 (B7 (A5 (pv 0)) (B7 (A5 (pv 3)) (B7 (A5 (pv 5)) F0 A1) A1) A1))))) (D9 (T2 (O3 Z2 A0e (A5 (pv 3)) N2 (D5 _))
   (D9 C6y)
   U5))) (by intro _;rfl))) (D9 (E9 (A5 (pv 3)))))),λds Q hl h=>?_⟩)
 obtain⟨m,ws,p,q0,ps,rfl,hp,q⟩:=h
 array_mem_dec
 have e0:A0g (ps.map P6)=ps.zipIdx.map λp=>.tuple [.int (p.2:Nat),P6 p.1]:=by
  unfold A0g
  rw[List.zipIdx_map,A0w]
  rfl
 rw[e0]
 refine⟨λr ρ=>∃(ps':List (Pt×Nat)) (p':Nat) (z1 z2:Sl),r=ps'.map (λp=>.tuple [.int (p.2:Nat),P6 p.1])/\ρ=[Sl.sh (G3 m ws),Sl.sh (.int (p:Nat)),Sl.sh (.list (ps.map P6)),Sl.sh (.int (p':Nat)),z1,z2]/\Trp ws p' (ps'.map (·.1)) q0,⟨ps.zipIdx,p,_,_,rfl,rfl,by rw[show ps.zipIdx.map (·.1)=ps by simp];exact hp⟩,?_,?_⟩
 ·rintro x r ρ ⟨ps',p',z1,z2,h1,rfl,hp'⟩
  cases ps' with
  | nil=>cases h1
  | cons a ps'=>
   cases (show x::r=PyData.tuple [.int (a.2:Nat),P6 a.1]::ps'.map (λp=>.tuple [.int (p.2:Nat),P6 p.1]) from h1)
   have hp2:Trp ws p' (a.1::ps'.map (·.1)) q0:=hp'
   cases hp2 with
   | cons e1 e2 e3 e4 e5 e6=>
    sizeOf_list_dec
    refine⟨_,_,_,_,_,rfl,e1,e2,e3,e4,e5,?_⟩
    left
    exact⟨ps',_,_,_,rfl,rfl,e6⟩
 ·rintro ρ ⟨ps',p',z1,z2,h1,rfl,hp'⟩
  cases ps' with
  | cons a ps'=>cases h1
  | nil=>
   cases hp'
   left
   exact q
theorem D09 (a b:Option Int):PyData.eqv (oD a) (oD b)=decide (a=b):=by
 cases a with
 | none=>cases b with
  | none=>rfl
  | some y=>rfl
 | some x=>cases b with
  | none=>rfl
  | some y=>
   show PyData.eqv (.int x) (.int y)=_
   rw[A39]
   by_cases h:x=y
   ·subst h;simp
   ·simp [h]
theorem C0c:∀a b:Tb,PyData.eqvAll (B8 a) (B8 b)=decide (a=b)
 | [],[]=>rfl
 | [],_::_=>rfl
 | _::_,[]=>rfl
 | x::a,y::b=>by
  show PyData.eqvAll (oD x::B8 a) (oD y::B8 b)=_
  rw[PyData.eqvAll,D09,C0c a b]
  by_cases h:x=y
  ·subst h;simp
  ·simp [h]
theorem D1a (a b:Tb):PyData.eqv (.list (B8 a)) (.list (B8 b))=decide (a=b):=by rw[PyData.eqv];exact C0c a b
theorem C0d:∀t:Tb,PyData.canLayAll0 (B8 t)=true
 | []=>rfl
 | x::t=>by
  show (PyData.canLay0 (oD x)&&PyData.canLayAll0 (B8 t))=true
  rw[C0d t]
  cases x <;> rfl
theorem C0e (t:Tb):PyData.canLay0 (.list (B8 t))=true:=by rw[PyData.canLay0];exact C0d t
theorem C0f:∀t:Tb,PyData.depthAll (B8 t)=0
 | []=>rfl
 | x::t=>by
  show max (PyData.depth (oD x)) (PyData.depthAll (B8 t))=0
  rw[C0f t]
  cases x <;> rfl
theorem C0g (t:Tb):PyData.depth (.list (B8 t))=1:=by
 show PyData.depthAll (B8 t) + 1=1
 rw[C0f]
def D1b:DSp:=λds Q=>∃(m:Nat) (ws:List Wy) (st:Int) (t:Tb),ds=[G3 m ws,.int st,.list (B8 t)]/\J6 m ws/\t.length=m/\Q (.list ((M4 m ws st m (t,E5 m none)).map T5))
def D1c:DSp:=λds Q=>∃(m:Nat) (ws:List Wy) (rs:List Rw),ds=[G3 m ws,.list (rs.map T5)]/\Q (.bool (decide (m < rs.length)))
def D1d:DSp:=λds Q=>∃(m:Nat) (ws:List Wy) (rs:List Rw) (r:Rw),ds=[G3 m ws,.list (rs.map T5)]/\J6 m ws/\A37 m ws rs/\rs.length<=900/\rs.getLast?=some r/\(∃p n,gt r.2 p=some n)/\
 ∀p n,p < m->gt r.2 p=some n->(∃ps,((G9 m).filter λi=>(gt r.2 i).isSome)=p::ps)->Q (.tuple [.int ((wlk ws rs.reverse p).1:Nat),.list (numL (wlk ws rs.reverse p).2)])
def A7t (p:Nat) (N:List Nat):PyData:=.tuple [.int (p:Nat),.list (numL N)]
def D1e:DSp:=λds Q=>∃(m:Nat) (ws:List Wy) (st:Int) (b:Tb) (N:List Nat) (P:Nat->Nat) (L:Nat->Int),ds=[G3 m ws,A7t (P 0) N]/\J6 m ws/\F7 m st b/\Wk ws st b N P L/\N.length=m/\
 ∀i j,i < j->j<=m->P i=P j->(∀a c,a < c->c < j->P a≠P c)->Q (.tuple [.list (numL (seg N 0 i)),.list (numL (seg N i j))])
theorem B0h {α β:Type} {f:α->β} {xs:List α} {x:α} (h:xs.getLast?=some x):(xs.map f).getLast?=some (f x):=by
 obtain⟨ys,rfl⟩:=List.getLast?_eq_some_iff.mp h
 simp
theorem Wk.places {ws:List Wy} {st:Int} {b:Tb} {N:List Nat} {P:Nat->Nat} {L:Nat->Int} (W:Wk ws st b N P L):[P 0]++N.map (A07 ws)=(G9 (N.length + 1)).map P:=by
 apply List.ext_getElem?
 intro k
 cases k with
 | zero=>simp
 | succ k=>
  rw[A6c (by simp),L8,L8]
  by_cases h:k < N.length
  ·rw[A79 (OO)]
   show (N[k]?).map (A07 ws)=some (P (k + 1))
   obtain⟨w,hw,_,e,_⟩:=W.way k N[k] (M9 h)
   rw[M9 h]
   show some (A07 ws N[k])=_
   unfold A07
   rw[hw,<-e]
  ·rw[A2f (l:=G9 _) (by rw[R6];lia)]
   show (N[k]?).map (A07 ws)=none
   rw[A2f (OO)]
   rfl
theorem D1f (T:Txt K mg):C0 P w K mg base CX0 4 T.aN.a T.aN.d ["land", "store", "table"] (spD [.sh,.sh,.bo] D1b):=by
 have fQ:=@D00 P w K mg base T
 have fR:=T.bA.b
 have fz:=@D01 P w K mg base T
 have fA:=T.bi.b
 refine G5 T.aN.F B0c rfl (λC cdv A outer s H E hr=>⟨_,(@F8 _ _ _ _ _ _ (A3v (C2 (i:=3) B0c.nd rfl (B9 rfl) (Z5 G0))) (@F8 _ _ _ _ _ _ (G1 (C2 (i:=4) B0c.nd rfl (B9 rfl) (F1 (B3 fQ (hr.mono DD) rfl T.bA.m T.bA.F.kp fR .nil A8 (Z7 (pv 2) F0 A1))))) (@F8 _ _ _ _ _ _ (@A9k _ _ _ _ _ (@A4s _ _ _ _ _ _ S9 (O3 Z1 A45 (A46 (J8 b8 rfl T.bC Z4 (A2 (pv 3) A4 A1))) (C7 (pv 0) (D3 (C9 (v:=V.int 0) rfl T.g_MANY.m ⟨_,rfl⟩)) (λ_ _=>rfl)) (D5 _)) (@F8 _ _ _ _ _ _ (A9i (P8 (z5 t9 A4q A4r A1l (pv 3) (A2 (A5 (pv 4)) A4 A1)))) (@F8 _ _ _ _ _ _ (@G1 _ _ _ _ _ (@C2 _ _ 4 _ _ _ _ B0c.nd rfl (B9 rfl) (@F1 _ _ _ _ _ _ _ (@B3 _ _ _ _ _ _ _ _ _ _ _ _ _ _ _ _ fz (hr.mono DD) rfl T.bi.m T.bi.F.kp fA .nil A8 (B7 (A5 (pv 0)) (B7 (A5 (pv 1)) (B7 (C7 (pv 4) (D3 (C9 (v:=V.int 0) rfl T.g_TABLE.m ⟨_,rfl⟩)) (λ_ _=>rfl)) (B7 (C7 (pv 4) (D3 (C9 (v:=V.int 0) rfl T.g_TABLE.m ⟨_,rfl⟩)) (λ_ _=>rfl)) F0 A7) A7) A1) A1) DD A1 ((A6 A1 (A6 A7 (A6 A7 A3)))))) (by rfl) (by first | exact .inl rfl | exact .inr rfl | assumption))) (D9 (T2 (O3 (A60 (O0 hr)) A1p (C7 (pv 4) (D3 (C9 (v:=V.int 0) rfl T.g_TABLE.m ⟨_,rfl⟩)) (λ_ _=>rfl)) (Q6 (C7 (pv 3) (A0b E3) (λ_ _=>rfl)) (D3 (C9 (v:=V.int 0) rfl T.g_TABLE.m ⟨_,rfl⟩)) (λ_ _=>rfl)) (D5 _))
   (D9 (E9 (A5 (pv 3))))
   U5)))))) (F8 (A9i (P8 (z5 t9 A4q A4r A1l (pv 3) (A2 (A5 (pv 4)) A4 A1))))
   (D9 (E9 (A5 (pv 3)))))))),λds Q hl h=>?_⟩)
 obtain⟨m,ws,st,t,rfl,ok,ht,q⟩:=h
 have m2:=ok.m2
 left
 refine⟨DD,rfl,t,rfl,OO,?_⟩
 unfold A7d
 refine⟨fun μ ρ=>∃(rs:List Rw) (r:Rw),ρ=[Sl.sh (G3 m ws),Sl.sh (.int st),Sl.bo (B8 t),Sl.ow (rs.map T5),Sl.sh (T5 r)]/\rs.length + μ=m/\r.1.length=m/\rs++M4 m ws st μ r=M4 m ws st m (t,E5 m none),⟨m,[],(t,E5 t.length none),rfl,by simp,ht,by rw[ht];rfl⟩,?_⟩
 rintro μ ρ ⟨rs,r,rfl,h1,h2,h3⟩
 right
 rw[C1]
 cases μ with
 | zero=>
  rw[decide_eq_false (OO)]
  right
  refine⟨OO,?_⟩
  have e:rs++[r]=M4 m ws st m (t,E5 m none):=h3
  rw[<-e,P2] at q
  exact q
 | succ μ=>
  rw[decide_eq_true (OO)]
  decreasing_trivial_pre_omega
  refine⟨by rw[C1];lia,?_⟩
  refine⟨m,ws,st,r.1,r.1,rfl,ok,h2,h2,?_⟩
  right
  rw[show -(1:Int)=-1 from rfl,B63]
  right
  refine⟨C0e _,C0e _,by rw[C0g,C0g];decide,?_⟩
  rw[D1a]
  by_cases c:(N7 m ws st r.1 r.1).1=r.1
  ·rw[decide_eq_true c]
   right
   have e:rs++[r]=M4 m ws st m (t,E5 m none):=by rw[<-h3,M4,if_pos c]
   rw[<-e,P2] at q
   exact q
  ·rw[decide_eq_false c]
   right
   refine⟨μ,OO,rs++[r],N7 m ws st r.1 r.1,by rw[P2];rfl,by simp;lia,(n6 (st:=st) (t:=r.1) ok h2).l1,?_⟩
   rw[<-h3,M4,if_neg c]
   simp
theorem D1g (T:Txt K mg):C0 P w K mg base CX0 1 T.aT.a T.aT.d ["land", "rows"] (spD [.sh,.sh] D1c):=by
 refine G5 T.aT.F C9b rfl (λC cdv A outer s H E hr=>⟨_,(D9 (E9 (m8 A4u A63 (A46 (J8 b8 rfl T.bC Z4 (A2 (pv 1) A4 A1))) (C7 (pv 0) (D3 (C9 (v:=V.int 0) rfl T.g_MANY.m ⟨_,rfl⟩)) (λ_ _=>rfl)) (D5 _)))),λds Q hl h=>?_⟩)
 obtain⟨m,ws,rs,rfl,q⟩:=h
 right
 rw[C1]
 rw[show decide (((m:Nat):Int) < ((rs.length:Nat):Int))=decide (m < rs.length) by by_cases c:m < rs.length <;> simp [c]]
 exact q
theorem D1h (T:Txt K mg):C0 P w K mg base CX0 2 T.aU.a T.aU.d ["land", "rows"] (spD [.sh,.sh] D1d):=by
 have dJ:=@C0a P w K mg base T
 have dL:=T.bc.b
 refine G5 T.aU.F B9v rfl (λC cdv A outer s H E hr=>⟨_,(@F8 _ _ _ _ _ _ (G1 (C2 (i:=2) B9v.nd rfl (p9 rfl) (Q6 (C7 (pv 1) (A0b E3) (λ_ _=>rfl)) (D3 (C9 (v:=V.int 1) rfl T.g_RISEN.m ⟨_,rfl⟩)) (λ_ _=>rfl)))) (@D9 _ _ _ _ (@E9 _ _ _ _ _ (@F1 _ _ _ _ _ _ _ (@B3 _ _ _ _ _ _ _ _ _ _ _ _ _ _ _ _ dJ (hr.mono DD) rfl T.bc.m T.bc.F.kp dL .nil A8 (@B7 _ _ _ _ _ _ (A5 (pv 0)) (@B7 _ _ _ _ _ _ (A5 (pv 1)) (@B7 _ _ _ _ _ _ (@Q6 _ _ _ _ _ _ _ (@L3 _ _ _ _ (@A10 _ _ _ _ _ _ _ _ rfl (V4 (M2.new (N:=["land", "rows", "last"]) (osc:=B6 A9v) KK) rfl (A9h (y7 rfl T.bp (D8 (C7 (pv 0) (D3 (C9 (v:=V.int 0) rfl T.g_MANY.m ⟨_,rfl⟩)) (λ_ _=>rfl)) G0 A7))) (λ_=>(B1x (O3 A4v A65 (C7 (pv 2) (A5 (pv 3)) (λ_ _=>rfl)) N2 (D5 _)))) (λ_=>(A5 (pv 3)))))) E3 (λ_ _=>rfl)) F0 A7) A1) A1) DD A1 ((A6 A1 (A6 A7 A3)))))))),λds Q hl h=>?_⟩)
 obtain⟨m,ws,rs,r,rfl,ok,hR,hn,hl2,⟨p0,n0,hp0⟩,q⟩:=h
 have m2:=ok.m2
 have hr0:=hR r (List.mem_of_getLast? hl2)
 array_mem_dec
 rw[show -(1:Int)=-1 from rfl,A7r (B0h hl2)]
 array_mem_dec
 refine⟨⟨OO,OO⟩,⟨rfl,by unfold U4;rw[C1,R6];lia⟩,?_⟩
 unfold U4
 rw[show ((m:Nat):Int).toNat=m by simp]
 refine B2n (p:=λi=>(gt r.2 i).isSome) (f:=λi=>.int (0 + ((i:Nat):Int))) (λi hi Q' q'=>?_) (λi hi _ Q' q'=>?_) ?_
 ·left
  rw[show (0:Int) + ((i:Nat):Int)=((i:Nat):Int) by lia] at q' ⊢
  rw[B94 (by rw[hr0.1];exact U7.mp hi)]
  left
  cases c:gt r.2 i with
  | none=>rw[c] at q';exact q'
  | some n=>rw[c] at q';exact q'
 ·exact q'
 ·have hp0m:p0 < m:=by
   by_cases h:p0 < m
   ·exact h
   ·rw[A5l (by rw[hr0.1];lia)] at hp0;cases hp0
  have hmem:p0∈(G9 m).filter λi=>(gt r.2 i).isSome:=B0z.mpr ⟨U7.mpr hp0m,by rw[hp0];rfl⟩
  cases hf:(G9 m).filter λi=>(gt r.2 i).isSome with
  | nil=>rw[hf] at hmem;cases hmem
  | cons p ps=>
   have hpm:p∈(G9 m).filter λi=>(gt r.2 i).isSome:=by rw[hf];exact D4
   obtain⟨h1,h2⟩:=B0z.mp hpm
   obtain⟨n,hn'⟩:=Option.isSome_iff_exists.mp h2
   rw[T9,O9,C68]
   left
   refine⟨m,ws,rs,p,by rw[show (0:Int) + ((p:Nat):Int)=((p:Nat):Int) by lia];rfl,U7.mp h1,ok,hR,hn,q p n (U7.mp h1) hn' ⟨ps,hf⟩⟩
theorem C0h {P:Nat->Nat}:∀k:Nat,(∀i j,i < j->j < k->P i≠P j)->((G9 k).map P).Nodup
 | 0,_=>j8
 | k + 1,h=>by
  rw[A8j,P2,A6l]
  refine⟨C0h k λi j h1 h2=>h i j h1 OO,by simp,λa ha b hb=>?_⟩
  obtain⟨i,hi,rfl⟩:=N0.mp ha
  have:b=P k:=by simpa using hb
  subst this
  exact h i k (U7.mp hi) (OO)
def plI (P:Nat->Nat) (n:Nat):List Int:=((G9 n).map P).map λp=>((p:Nat):Int)
theorem B41 {P:Nat->Nat} {n:Nat} {x:Nat}:((x:Nat):Int)∈plI P n↔∃i,i < n/\P i=x:=by
 unfold plI
 constructor
 ·intro h
  obtain⟨y,hy,e⟩:=N0.mp h
  obtain⟨i,hi,rfl⟩:=N0.mp hy
  exact⟨i,U7.mp hi,OO⟩
 ·rintro ⟨i,hi,rfl⟩
  exact N0.mpr ⟨P i,N0.mpr ⟨i,U7.mpr hi,rfl⟩,rfl⟩
theorem D1i {P:Nat->Nat} {n:Nat}:numL ((G9 n).map P)=(plI P n).map PyData.int:=by
 simp only[numL,plI,A0w]
 rfl
theorem B42 {P:Nat->Nat} {n:Nat}:(plI P n).length=n:=by unfold plI;rw[C1,C1,R6]
theorem D1j {P:Nat->Nat} {n:Nat} {x:Nat} (h:((x:Nat):Int)∈plI P n):(plI P n).idxOf ((x:Nat):Int) < n/\P ((plI P n).idxOf ((x:Nat):Int))=x:=by
 have h1:=B01.mpr h
 have h2:=C2j h1
 rw[B42] at h1
 refine⟨h1,?_⟩
 have hx:∀i (h:i < (plI P n).length),(plI P n)[i]=((P i:Nat):Int):=λi h=>by simp [plI]
 rw[hx] at h2
 lia
theorem D1k (T:Txt K mg):C0 P w K mg base CX0 1 T.aA.a T.aA.d ["land", "walk"] (spD [.sh,.sh] D1e):=by
 refine G5 T.aA.F A7p rfl (λC cdv A outer s H E hr=>⟨_,(@F8 _ _ _ _ _ _ (@G1 _ _ _ _ _ (@C2 _ _ 2 _ _ _ _ A7p.nd rfl (B9 rfl) (@L3 _ _ _ _ (@A68 _ _ _ _ _ _ _ (L3 (Z5 (D8 (C7 (pv 1) (D3 (C9 (v:=V.int 0) rfl T.g_FROM.m ⟨_,rfl⟩)) (λ_ _=>rfl)) G0 A7))) (@L3 _ _ _ _ (@A10 _ _ _ _ _ _ _ _ rfl (@V4 _ _ _ _ _ _ _ _ _ _ _ _ _ _ _ (M2.new (N:=["land", "walk", "places", "end", "begin"]) (osc:=B6 A9w) KK) rfl (A9g (C7 (pv 1) (D3 (C9 (v:=V.int 1) rfl T.g_BY.m ⟨_,rfl⟩)) (λ_ _=>rfl))) (λ_=>A05) (λ_=>(Q6 (Q6 (C7 (pv 0) (D3 (C9 (v:=V.int 1) rfl T.g_WAYS.m ⟨_,rfl⟩)) (λ_ _=>rfl)) (A5 (pv 5)) (λ_ _=>rfl)) (D3 (C9 (v:=V.int 1) rfl T.g_END.m ⟨_,rfl⟩)) (λ_ _=>rfl))) (by rfl) (by rfl) (by intro _;rfl)))))) (by rfl) (by first | exact .inl rfl | exact .inr rfl | assumption))) (@F8 _ _ _ _ _ _ (G1 (C2 (i:=3) A7p.nd rfl (B9 rfl) E3)) (@F8 _ _ _ _ _ _ (A9k (A4s S9 (O3 C4o C64 (C7 (pv 2) (A5 (pv 3)) (λ_ _=>rfl)) (L3 (B8c (pv 2) B19 (A67 (A5 (pv 3))))) (by with_unfolding_all rfl))
   (D9 (G1 (C2 (i:=3) A7p.nd rfl (B9 rfl) (K7 O2 e7 (A5 (pv 3)) E3)))))) (@F8 _ _ _ _ _ _ (G1 (C2 (i:=4) A7p.nd rfl (B9 rfl) (B8m (z5 t9 C2i PySem.F.type_list_index B7t (pv 2) (A2 (C7 (pv 2) (A5 (pv 3)) (λ_ _=>rfl)) A4 A7))))) (D9 (E9 (X0 (D8 (L3 (B8d (C7 (pv 1) (D3 (C9 (v:=V.int 1) rfl T.g_BY.m ⟨_,rfl⟩)) (λ_ _=>rfl)) B19 (A67 (A5 (pv 4))))) (D8 (L3 (B8d (C7 (pv 1) (D3 (C9 (v:=V.int 1) rfl T.g_BY.m ⟨_,rfl⟩)) (λ_ _=>rfl)) (A67 (A5 (pv 4))) (A67 (A5 (pv 3))))) G0 A7) A7)))))))),λds Q hl h=>?_⟩)
 obtain⟨m,ws,st,b,N,PP,L,rfl,ok,hb,W,hN,q⟩:=h
 have m2:=ok.m2
 have hpl:∀k,k<=m->PP k < m:=λk hk=>W.pl ok hb k (OO)
 unfold A7t
 array_mem_dec
 refine⟨DD,⟨rfl,by rw[n8];lia⟩,?_⟩
 unfold numL
 refine A06 (f:=λn=>.int (A07 ws n:Nat)) (λn hm Q' q'=>?_) ?_
 ·obtain⟨k,hk,rfl⟩:=A6g.mp hm
  obtain⟨w,hw,_,e,_⟩:=W.way k N[k] (M9 hk)
  right
  rw[B0g hw]
  right
  have e2:A07 ws N[k]=w.2.1:=by unfold A07;rw[hw]
  rw[e2] at q'
  exact q'
 ·left
  refine⟨by rw[C1];lia,?_⟩
  have epl:PyData.int ((PP 0:Nat):Int)::N.map (λn=>PyData.int ((A07 ws n:Nat):Int))=(plI PP (m + 1)).map PyData.int:=by
   have:=W.places
   rw[hN] at this
   rw[<-D1i,<-this]
   unfold numL
   rw[P2,A0w]
   rfl
  rw[epl]
  unfold A7d
  refine⟨fun μ ρ=>∃(k:Nat) (z:Sl),ρ=[Sl.sh (G3 m ws),Sl.sh (A7t (PP 0) N),Sl.sh (.list ((plI PP (m + 1)).map PyData.int)),Sl.sh (.int (k:Nat)),z]/\1<=k/\k<=m/\μ + k=m/\∀i j,i < j->j < k->PP i≠PP j,⟨m - 1,1,_,rfl,OO,ok.m1,by have:=ok.m1;lia,λi j h1 h2=>OO⟩,?_⟩
  rintro μ ρ ⟨k,z,rfl,k1,k2,hμ,hd⟩
  right
  have eat:atI ((plI PP (m + 1)).map PyData.int) ((k:Nat):Int)=some (.int ((PP k:Nat):Int)):=z4 (by
   unfold plI
   rw[A0w,L8,L8,A79 (OO)]
   rfl)
  have ecut:i9 ((plI PP (m + 1)).map PyData.int) none (some ((k:Nat):Int))=(plI PP k).map PyData.int:=by
   rw[B2o,<-A0u]
   congr 1
   unfold plI
   rw[<-A0u,<-A0u,List.take_range,B03 (OO)]
  rw[eat]
  right
  rw[ecut,A7e]
  right
  by_cases c:((PP k:Nat):Int)∈plI PP k
  ·rw[show (!(plI PP k).contains ((PP k:Nat):Int))=false by simp [c]]
   right
   rw[A7e]
   right
   have hc2:((PP k:Nat):Int)∈plI PP (m + 1):=B41.mpr ⟨k,OO,rfl⟩
   refine⟨⟨hc2,by rw[B42];lia⟩,?_⟩
   obtain⟨i0,hi0,ei0⟩:=B41.mp c
   obtain⟨hi1,hi2⟩:=D1j hc2
   have hik:(plI PP (m + 1)).idxOf ((PP k:Nat):Int) < k:=by
    by_cases h:(plI PP (m + 1)).idxOf ((PP k:Nat):Int) < k
    ·exact h
    ·exfalso
     have hmem:((PP k:Nat):Int)∈(plI PP (m + 1)).take k:=by
      have:(plI PP (m + 1)).take k=plI PP k:=by
       unfold plI
       rw[<-A0u,<-A0u,List.take_range,B03 (OO)]
      rw[this];exact c
     have h1:=B01.mpr hmem
     rw[b4,B42] at h1
     have h2:(plI PP (m + 1)).idxOf ((PP k:Nat):Int)=((plI PP (m + 1)).take k).idxOf ((PP k:Nat):Int):=by
      conv=>lhs;rw[<-List.take_append_drop k (plI PP (m + 1))]
      rw[List.idxOf_append,if_pos hmem]
     lia
   unfold A7t
   right
   generalize (plI PP (m + 1)).idxOf ((PP k:Nat):Int)=i at hi1 hi2 hik
   refine⟨DD,?_⟩
   have qq:=q i k hik k2 hi2 hd
   have e1:i9 (numL N) none (some ((i:Nat):Int))=numL (seg N 0 i):=by
    rw[B2o]
    unfold numL seg
    rw[<-A0u,List.drop_zero,Nat.sub_zero]
   have e2:i9 (numL N) (some ((i:Nat):Int)) (some ((k:Nat):Int))=numL (seg N i k):=by
    rw[C69 (by rw[n8];lia) (by rw[n8];lia)]
    unfold numL seg
    rw[A0u,List.map_drop]
   rw[e1,e2]
   exact qq
  ·rw[show (!(plI PP k).contains ((PP k:Nat):Int))=true by simp [c]]
   decreasing_trivial_pre_omega
   have hd2:∀i j,i < j->j < k + 1->PP i≠PP j:=λi j h1 h2 e=>by
    by_cases hj:j < k
    ·exact hd i j h1 hj e
    ·have:j=k:=by lia
     subst this
     exact c (B41.mpr ⟨i,h1,e⟩)
   have hkm:k + 1<=m:=by
    have:=B2y m ((G9 (k + 1)).map PP) (C0h (k + 1) hd2) λx hx=>by
     obtain⟨i,hi,rfl⟩:=N0.mp hx
     exact hpl i (by have:=U7.mp hi;lia)
    rw[C1,R6] at this
    exact this
   exact⟨μ - 1,OO,k + 1,_,rfl,OO,hkm,OO,hd2⟩
theorem Wk.nb {ws:List Wy} {st:Int} {b:Tb} {N:List Nat} {P:Nat->Nat} {L:Nat->Int} (W:Wk ws st b N P L):∀n∈N,n < ws.length:=λn hn=>by
 obtain⟨k,hk,rfl⟩:=A6g.mp hn
 obtain⟨w,hw,_⟩:=W.way k N[k] (M9 hk)
 exact (V9.mp hw).1
theorem D1l {N:List Nat} {i j n:Nat} (h:n∈seg N i j):n∈N:=List.mem_of_mem_drop (List.mem_of_mem_take h)
theorem B43 {N:List Nat} {i j:Nat}:(seg N i j).length<=N.length:=by
 unfold seg
 rw[b4,List.length_drop]
 lia
theorem D1m {m:Nat} {ws:List Wy} (ok:J6 m ws) (n:Nat):Y1 ws n<=1000000000000000000:=by
 unfold Y1
 split
 ·rename_i w hw;exact ok.hi w (Q9 hw)
 ·decide
theorem C0i {B:Int}:∀{cs:List Int},(∀c∈cs,c<=B)->cs.sum<=(cs.length:Int) * B
 | [],_=>by simp
 | c::cs,h=>by
  have:=C0i (cs:=cs) λd hd=>h d (C8 _ hd)
  have h1:=h c D4
  rw[B53,G6,Int.natCast_add,Int.add_mul]
  lia
theorem D1n {x g:Int} (hx:0 < x) (hg:0 < g):1<=-(-x / g)/\-(-x / g)<=x:=by
 have e:=Int.mul_ediv_add_emod (-x) g
 have r0:=B05 (-x) (show g≠0 by lia)
 have r1:=B55 (-x) hg
 generalize -x / g=d at e
 constructor
 ·by_cases h:0<=d
  ·have:=Int.mul_nonneg (Int.le_of_lt hg) h
   lia
  ·lia
 ·by_cases h:-x<=d
  ·lia
  ·exfalso
   have h1:g * d<=g * (-x - 1):=Int.mul_le_mul_of_nonneg_left OO (OO)
   have h2:g * (-x - 1)=-(g * x) - g:=by rw[Int.mul_sub,Int.mul_neg,Int.mul_one]
   have h3:1 * x<=g * x:=Int.mul_le_mul_of_nonneg_right OO (OO)
   lia
theorem D1o {x g:Int} (hg:0 < g):x<=-(-x / g) * g:=by
 have e:=Int.mul_ediv_add_emod (-x) g
 have r0:=B05 (-x) (show g≠0 by lia)
 rw[Int.neg_mul,Int.mul_comm]
 lia
def Z9 (N:List Nat) (i j k:Nat) (tm:Int):List Pt:=(prt (seg N 0 i)++[(seg N i j,tm)])++prt (seg N i (i + k))
def D1p:DSp:=λds Q=>∃(m:Nat) (ws:List Wy) (st:Int) (b:Tb) (N:List Nat) (P:Nat->Nat) (L:Nat->Int),ds=[G3 m ws,.int st,.int (L 0),A7t (P 0) N]/\J6 m ws/\0<=st/\st<=1000000000000000000000/\F7 m st b/\Wk ws st b N P L/\N.length=m/\
 ∀i j k le g tp tm,i < j->j<=m->P i=P j->le<=L i->Rnd st (chs ws (seg N i j)) (L i) le g tp k->1<=tm->tm<=1000000000000000000000000->tp<=L i + tm * g->(∀a c,a < c->c < j->P a≠P c)->tm=-(-(tp - L i) / g)->Q (.list ((Z9 N i j k tm).map P6))
theorem A50 {ns:List Nat}:(prt ns).length<=1:=by unfold prt;split <;> simp
theorem D1q (T:Txt K mg):C0 P w K mg base CX0 6 T.aJ.a T.aJ.d ["land", "store", "level", "walk"] (spD [.sh,.sh,.sh,.sh] D1p):=by
 have dQ:=@D1k P w K mg base T
 have dR:=T.aA.b
 have fS:=@D0o P w K mg base T
 have fU:=T.bz.b
 have cQ:=@D0z P w K mg base T
 have cR:=T.av.b
 have dk:=@D0p P w K mg base T
 have dl:=T.ay.b
 have cI:=@C0b P w K mg base T
 have cJ:=T.aD.b
 refine G5 T.aJ.F A13 rfl (λC cdv A outer s H E hr=>⟨_,(@M7 _ _ _ _ _ _ (G1 (C2 (i:=4) A13.nd rfl (B9 rfl) (F1 (B3 dQ (hr.mono DD) rfl T.aA.m T.aA.F.kp dR .nil A8 (B7 (A5 (pv 0)) (B7 (A5 (pv 3)) F0 A1) A1))))) (@M7 _ _ _ _ _ _ (G1 (C2 (i:=5) A13.nd rfl (B9 rfl) (C7 (pv 4) E3 (λ_ _=>rfl)))) (@M7 _ _ _ _ _ _ (G1 (C2 (i:=6) A13.nd rfl (B9 rfl) (C7 (pv 4) E3 (λ_ _=>rfl)))) (@M7 _ _ _ _ _ _ (@G1 _ _ _ _ _ (@C2 _ _ 7 _ _ _ _ A13.nd rfl (B9 rfl) (@F1 _ _ _ _ _ _ _ (@B3 _ _ _ _ _ _ _ _ _ _ _ _ _ _ _ _ fS (hr.mono DD) rfl T.bz.m T.bz.F.kp fU .nil A8 (B7 (A5 (pv 1)) (B7 (F1 (B3 cQ (hr.mono DD) rfl T.av.m T.av.F.kp cR .nil A8 (B7 (A5 (pv 0)) (B7 (A5 (pv 6)) F0 A1) A1))) F0 D7) A1) DD A1 ((A6 D7 A3)))) (by rfl) (by first | exact .inl rfl | exact .inr rfl | assumption))) (@M7 _ _ _ _ _ _ (@G1 _ _ _ _ _ (@C2 _ _ 8 _ _ _ _ A13.nd rfl (B9 rfl) (@K7 _ _ _ _ _ _ _ _ _ _ A4t A88 (C7 (pv 7) (D3 (C9 (v:=V.int 2) rfl T.g_TOP.m ⟨_,rfl⟩)) (λ_ _=>rfl)) (@Q6 _ _ _ _ _ _ _ (@F1 _ _ _ _ _ _ _ (@B3 _ _ _ _ _ _ _ _ _ _ _ _ _ _ _ _ dk (hr.mono DD) rfl T.ay.m T.ay.F.kp dl .nil A8 (B7 (A5 (pv 1)) (B7 (A5 (pv 2)) (B7 (F1 (B3 cQ (hr.mono DD) rfl T.av.m T.av.F.kp cR .nil A8 (B7 (A5 (pv 0)) (B7 (A5 (pv 5)) F0 A1) A1))) F0 D7) A1) A1) DD A1 ((A6 A1 (A6 D7 A3))))) (A0b E3) (λ_ _=>rfl))) (by rfl) (by first | exact .inl rfl | exact .inr rfl | assumption))) (@M7 _ _ _ _ _ _ (G1 (C2 (i:=9) A13.nd rfl (B9 rfl) (A0b (K7 B1z B72 (A0b (A5 (pv 8))) (C7 (pv 7) (D3 (C9 (v:=V.int 1) rfl T.g_GAIN.m ⟨_,rfl⟩)) (λ_ _=>rfl)))))) (@M7 _ _ _ _ _ _ (@G1 _ _ _ _ _ (@C2 _ _ 10 _ _ _ _ A13.nd rfl (B9 rfl) (@F1 _ _ _ _ _ _ _ (@B3 _ _ _ _ _ _ _ _ _ _ _ _ _ _ _ _ dk (hr.mono DD) rfl T.ay.m T.ay.F.kp dl .nil A8 (B7 (A5 (pv 1)) (B7 (C7 (pv 7) (D3 (C9 (v:=V.int 2) rfl T.g_TOP.m ⟨_,rfl⟩)) (λ_ _=>rfl)) (B7 (F1 (B3 cQ (hr.mono DD) rfl T.av.m T.av.F.kp cR .nil A8 (B7 (A5 (pv 0)) (B7 (A5 (pv 6)) F0 A1) A1))) F0 D7) A7) A1) DD A1 ((A6 A7 (A6 D7 A3))))) (by rfl) (by first | exact .inl rfl | exact .inr rfl | assumption))) (@D9 _ _ _ _ (@E9 _ _ _ _ _ (@L3 _ _ _ _ (@A68 _ _ _ _ _ _ _ (L3 (A68 (F1 (B3 cI (hr.mono DD) rfl T.aD.m T.aD.F.kp cJ .nil A8 (B7 (A5 (pv 5)) F0 A1))) (L3 (Z5 (D8 (X0 (D8 (A5 (pv 6)) (D8 (A5 (pv 9)) G0 A1) A1)) G0 X8))))) (F1 (B3 cI (hr.mono DD) rfl T.aD.m T.aD.F.kp cJ .nil A8 (B7 (L3 (B8c (pv 6) B19 (A67 (B8m (z5 t9 C2i PySem.F.type_list_index B7t (pv 10) (A2 (A5 (pv 1)) A4 A1)))))) F0 A7)))))))))))))),λds Q hl h=>?_⟩)
 obtain⟨m,ws,st,b,N,PP,L,rfl,ok,h0,hst,hb,W,hN,q⟩:=h
 have m2:=ok.m2
 left
 refine⟨m,ws,st,b,N,PP,L,rfl,ok,hb,W,hN,λi j hij hj hp hfst=>?_⟩
 have nb:∀a c n,n∈seg N a c->n < ws.length:=λa c n hn=>W.nb n (D1l hn)
 have fw:∀a c,(seg N a c).length<=900:=λa c=>by have:=@B43 N a c;lia
 have fw2:∀a c,(chs ws (seg N a c)).length<=900:=λa c=>by unfold chs;rw[C1];exact fw a c
 obtain⟨b0,b1⟩:=W.bd h0 hb i (OO)
 obtain⟨le,g,tp,k,R,hle⟩:=C7t b0 b1 (W.seg (i:=i) (j:=j) OO OO) (W.strict i j hij OO hp)
 have kl:k<=j - i:=by
  have:=R.kl
  unfold chs at this
  rw[C1,A5q (OO)] at this
  exact this
 refine go ?_;left
 refine go ?_;left
 refine go ?_;left
 refine⟨m,ws,seg N i j,rfl,nb i j,fw i j,?_⟩
 left
 refine⟨st,_,rfl,?_⟩
 rw[R.fx]
 refine go ?_;right
 refine⟨m,ws,seg N 0 i,rfl,nb 0 i,fw 0 i,?_⟩
 left
 refine⟨st,L 0,_,rfl,fw2 0 i,?_⟩
 have w0:=W.seg (i:=0) (j:=i) (J7 _) (OO)
 have hlast:(N8 st (L 0) (chs ws (seg N 0 i))).getLast?=some (L i):=by
  obtain⟨z,z1,z2⟩:=B2v w0 (chs ws (seg N 0 i)).length (E1 _)
  rw[B02 (E1 _),w0] at z2
  cases z2
  rw[List.getLast?_eq_getElem?,B2w w0]
  exact z1
 left
 rw[show -(1:Int)=-1 from rfl,A7r (xs:=U6 _) (B0h hlast)]
 left
 refine go ?_;left
 have hg:g < 100000000000000000000000000000000000000000000000000000000000000:=by
  rw[R.gs]
  have h1:=C0i (B:=1000000000000000000) (cs:=chs ws (seg N i j)) λc hc=>by
   obtain⟨n,_,rfl⟩:=N0.mp hc
   exact D1m ok n
  have h2:=fw2 i j
  lia
 refine⟨⟨R.g0,hg⟩,?_⟩
 refine go ?_;left
 refine⟨m,ws,seg N i j,rfl,nb i j,fw i j,?_⟩
 left
 refine⟨st,tp,_,rfl,fw2 i j,?_⟩
 refine go ?_;left
 refine⟨seg N 0 i,rfl,?_⟩
 left
 have hp1:=@A50 (seg N 0 i)
 refine⟨DD,DD,by rw[C1];simp;lia,?_⟩
 unfold U6
 rw[A7e]
 left
 refine⟨⟨R.km,by rw[R.ll];have:=fw2 i j;lia⟩,?_⟩
 rw[R.ki]
 have ecut:i9 (numL (seg N i j)) none (some ((k:Nat):Int))=numL (seg N i (i + k)):=by
  rw[B2o]
  unfold numL
  rw[<-A0u,B2x kl]
 rw[ecut]
 refine⟨_,rfl,?_⟩
 left
 have hp2:=@A50 (seg N i (i + k))
 refine⟨by simp;lia,?_⟩
 obtain⟨t1,t2⟩:=D1n (x:=tp - L i) (g:=g) (by have:=R.xt;lia) R.g0
 have t3:=R.tst
 have qq:=q i j k le g tp (-(-(tp - L i) / g)) hij hj hp hle R t1 OO (by have:=@D1o (tp - L i) g R.g0;lia) hfst rfl
 unfold Z9 at qq
 rw[P2,P2] at qq
 exact qq
theorem Rows.risen {m:Nat} {ws:List Wy} {st:Int} {b:Tb} (ok:J6 m ws) (h0:0<=st) (hb:F7 m st b) {r:Rw} {rs:List Rw} (h:Rows m ws st b (r::rs)) (hn:rs≠[]):∃p n,gt r.2 p=some n:=by
 cases h with
 | one=>exact absurd rfl hn
 | @more r0 rs0 h' c=>
  obtain⟨a1,_,_⟩:=h'.ok ok h0 hb
  have I:=n6 (st:=st) (t:=r0.1) ok a1.len
  by_cases z:∃p n,gt (N7 m ws st r0.1 r0.1).2 p=some n
  ·exact z
  ·refine absurd (B8q (by rw[I.l1,a1.len]) λp=>I.no p ?_) c
   cases e:gt (N7 m ws st r0.1 r0.1).2 p with
   | none=>rfl
   | some n=>exact absurd ⟨p,n,e⟩ z
theorem Rows.rok {m:Nat} {ws:List Wy} {st:Int} {b:Tb} (ok:J6 m ws) (h0:0<=st) (hb:F7 m st b):∀{rs:List Rw},Rows m ws st b rs->A37 m ws rs
 | _,.one=>λr hr=>by
  have:r=(b,E5 m none):=by simpa using hr
  subst this
  exact⟨by simp,λq n e=>by rw[A5m] at e;cases e⟩
 | _,.more (r:=r0) h c=>λr hr=>by
  rcases J1.mp hr with e | hr
  ·subst e
   obtain⟨a1,_,_⟩:=h.ok ok h0 hb
   have I:=n6 (st:=st) (t:=r0.1) ok a1.len
   refine⟨I.l2,λq n e=>?_⟩
   obtain⟨w,hw,_⟩:=I.yes q n e
   exact (V9.mp hw).1
  ·exact Rows.rok ok h0 hb h r hr
theorem D1r {m:Nat} {ws:List Wy} {st:Int} {b:Tb} (ok:J6 m ws) (h0:0<=st) (hb:F7 m st b):∃r rs,(M4 m ws st m (b,E5 m none)).reverse=r::rs/\(M4 m ws st m (b,E5 m none)).getLast?=some r/\(M4 m ws st m (b,E5 m none)).length=rs.length + 1/\rs.length<=m/\Rows m ws st b (r::rs)/\A37 m ws (M4 m ws st m (b,E5 m none))/\
  ((M4 m ws st m (b,E5 m none)).length<=m->N4 m ws st b r.1):=by
 obtain⟨r,rs,e,h,z⟩:=B8t (m:=m) (ws:=ws) (st:=st) (b:=b) m (b,E5 m none) [] .one
 rw[List.reverse_nil,T9] at e
 have hl:(M4 m ws st m (b,E5 m none)).length=rs.length + 1:=by
  rw[<-b5,e];rfl
 have hbd:∀(k:Nat) (q:Rw),(M4 m ws st k q).length<=k + 1:=by
  intro k
  induction k with
  | zero=>intro q;exact E1 _
  | succ k ih=>
   intro q
   unfold M4
   split
   ·simp
   ·have:=ih (N7 m ws st q.1 q.1);simp;lia
 have hb2:=hbd m (b,E5 m none)
 refine⟨r,rs,e,?_,hl,OO,h,λq hq=>h.rok ok h0 hb q (by rw[<-e];exact List.mem_reverse.mpr hq),λhm=>?_⟩
 ·rw[<-List.head?_reverse,e];rfl
 ·rcases z with z | z
  ·exact h.least ok h0 hb z
  ·rw[G6] at z
   simp at z
   lia
abbrev Rd:=Nat×List Pt
def j6 (r:Rd):PyData:=.tuple [.int (r.1:Nat),.list (r.2.map P6)]
def itF (st:Int) (cs:List Int):Nat->Option Int->Option Int
 | 0,o=>o
 | n + 1,o=>itF st cs n (wkF st o cs)
def A0l (ws:List Wy) (st:Int):Option Int->List Pt->Option Int
 | o,[]=>o
 | o,p::ps=>A0l ws st (itF st (chs ws p.1) p.2.toNat o) ps
theorem A7u {ws:List Wy} {st:Int}:∀(xs:List Pt) (o:Option Int) (ys:List Pt),A0l ws st o (xs++ys)=A0l ws st (A0l ws st o xs) ys
 | [],_,_=>rfl
 | x::xs,o,ys=>A7u xs _ ys
theorem B44 {ws:List Wy} {st:Int} {o:Option Int} {ns:List Nat}:A0l ws st o (prt ns)=wkF st o (chs ws ns):=by
 cases ns with
 | nil=>rfl
 | cons n ns=>rfl
theorem C0j {st:Int} {cs:List Int} {le g tp:Int} (fx:fxF st cs=some (le,g,tp)) (g0:0 < g) (tst:tp<=st):∀(n:Nat) {x:Int},0<=x->le<=x->x<=tp->itF st cs n (some x)=some (if x + ((n:Nat):Int) * g < tp then x + ((n:Nat):Int) * g else tp)
 | 0,x,x0,h1,h2=>by
  show some x=_
  congr 1
  split <;> simp at * <;> lia
 | n + 1,x,x0,h1,h2=>by
  show itF st cs n (wkF st (some x) cs)=_
  have w:=A9n x0 (show x<=st by lia) cs
  rw[fx] at w
  unfold K9 at w
  dsimp only at w
  rw[if_neg (OO)] at w
  rw[<-w]
  have e:(((n + 1:Nat)):Int) * g=((n:Nat):Int) * g + g:=by rw[Int.natCast_add,Int.add_mul];simp
  have e0:0<=((n:Nat):Int) * g:=Int.mul_nonneg OO (OO)
  rw[C0j fx g0 tst n (by split <;> lia) (by split <;> lia) (by split <;> lia),e]
  congr 1
  split <;> split <;> split <;> lia
theorem D1s {ws:List Wy} {st:Int} {b:Tb} {N:List Nat} {P:Nat->Nat} {L:Nat->Int} {m:Nat} (W:Wk ws st b N P L) (h0:0<=st) (hb:F7 m st b) {i j:Nat} (hij:i < j) (hj:j<=N.length) {le g tp tm:Int} {k:Nat} (hle:le<=L i) (R:Rnd st (chs ws (seg N i j)) (L i) le g tp k) (t1:1<=tm) (t3:tp<=L i + tm * g) :
  A0l ws st (some (L 0)) (Z9 N i j k tm)=some st:=by
 have kl:k<=j - i:=by
  have:=R.kl
  unfold chs at this
  rw[C1,A5q hj] at this
  exact this
 unfold Z9
 rw[A7u,A7u,B44 (o:=some (L 0)),W.seg (J7 _) (OO)]
 have hr:A0l ws st (some (L i)) [(seg N i j,tm)]=some tp:=by
  show itF st (chs ws (seg N i j)) tm.toNat (some (L i))=_
  rw[C0j R.fx R.g0 R.tst tm.toNat (W.bd h0 hb i OO).1 hle (Int.le_of_lt R.xt),if_neg (by rw[show ((tm.toNat:Nat):Int)=tm by lia];lia)]
 rw[hr,B44]
 have kw:=R.kw
 unfold chs at kw ⊢
 rw[<-A0u,B2x kl] at kw
 exact kw
structure C0k (ws:List Wy) (st:Int) (b0:Tb) (r:Rd) (q:Nat) (y:Int):Prop where
 trp:Trp ws r.1 r.2 q
 arr:∃y0,gt b0 r.1=some y0/\A0l ws st (some y0) r.2=some y
structure A1b (m:Nat) (ws:List Wy) (st:Int) (b0 b:Tb) (rd:List Rd) (B:Nat):Prop where
 len:rd.length=m
 ok:∀q y r,gt b q=some y->rd[q]?=some r->C0k ws st b0 r q y
 few:∀r∈rd,r.2.length<=B/\∀pt∈r.2,pt.1.length<=m
theorem A1b.more {m:Nat} {ws:List Wy} {st:Int} {b0 b:Tb} {rd:List Rd} {B C:Nat} (h:A1b m ws st b0 b rd B) (l:B<=C):A1b m ws st b0 b rd C:=⟨h.len,h.ok,λr hr=>⟨T8 (h.few r hr).1 l,(h.few r hr).2⟩⟩
def B45 (st:Int) (b0 b:Tb):Prop:=∀p,gt b p=gt b0 p\/gt b p=some st
theorem D1t {N:List Nat} {i j k:Nat} {tm:Int}:∀pt∈Z9 N i j k tm,pt.1.length<=N.length:=λpt h=>by
 have hp:∀{a c:Nat},pt∈prt (seg N a c)->pt.1.length<=N.length:=λ{a c} h=>by
  unfold prt at h
  split at h
  ·cases h
  ·have:pt=(seg N a c,1):=by simpa using h
   subst this
   exact B43
 unfold Z9 at h
 rcases V8.mp h with h | h
 ·rcases V8.mp h with h | h
  ·exact hp h
  ·have:pt=(seg N i j,tm):=by simpa using h
   subst this
   exact B43
 ·exact hp h
theorem A1b.fill {m:Nat} {ws:List Wy} {st:Int} {b0 b:Tb} {rd:List Rd} {B:Nat} (h:A1b m ws st b0 b rd B) {p f:Nat} {x:Int} {r:Rd} {ps:List Pt} (hf:f < b.length) (hp:gt b p=some x) (hr:rd[p]?=some r) (ht:Trp ws p ps f) (ha:A0l ws st (some x) ps=some st) (h3:ps.length<=3) (hfe:∀pt∈ps,pt.1.length<=m):A1b m ws st b0 (b.set f (some st)) (rd.set f (r.1,r.2++ps)) (B + 3):=by
 refine⟨by rw[W0];exact h.len,λq y r' hq hr'=>?_,λr' hr'=>?_⟩
 ·rw[A30 hf] at hq
  by_cases c:f=q
  ·subst c
   rw[if_pos rfl] at hq
   cases hq
   rw[A1h] at hr'
   simp only[if_true] at hr'
   split at hr'
   ·cases hr'
    obtain⟨t,y0,e0,e1⟩:=h.ok p x r hp hr
    exact⟨t.app ht,y0,e0,by rw[A7u,e1];exact ha⟩
   ·cases hr'
  ·rw[if_neg c] at hq
   rw[A0o c] at hr'
   exact h.ok q y r' hq hr'
 ·rcases List.mem_or_eq_of_mem_set hr' with z | rfl
  ·exact⟨by have:=(h.few r' z).1;lia,(h.few r' z).2⟩
  ·have z:=h.few r (Q9 hr)
   refine⟨by have:=z.1;rw[P0];lia,λpt hpt=>?_⟩
   rcases V8.mp hpt with q | q
   ·exact z.2 pt q
   ·exact hfe pt q
theorem B0i {m:Nat} {ws:List Wy} {st:Int} {b:Tb} (ok:J6 m ws) (h0:0<=st) (hb:F7 m st b):∀{r:Rw} {rs:List Rw},Rows m ws st b (r::rs)->∀p x,gt r.1 p=some x->
  ∃q y N,wlk ws (r::rs) p=(q,N)/\gt b q=some y/\Pth ws q N p/\wkF st (some y) (chs ws N)=some x/\N.length<=rs.length
 | _,_,.one,p,x,e=>by
  refine⟨p,x,[],?_,e,.nil,rfl,J7 _⟩
  show (match gt (E5 m (none:Option Nat)) p with
   | none=>wlk ws [] p
   | some n=>((wlk ws [] (P5 ws n)).1,(wlk ws [] (P5 ws n)).2++[n]))=_
  rw[A5m]
  rfl
 | _,_,.more (r:=r) (rs:=rs) h c,p,x,e=>by
  obtain⟨a1,_,a3⟩:=h.ok ok h0 hb
  have I:=n6 (st:=st) (t:=r.1) ok a1.len
  have ew:wlk ws (N7 m ws st r.1 r.1::r::rs) p=(match gt (N7 m ws st r.1 r.1).2 p with
   | none=>wlk ws (r::rs) p
   | some n=>((wlk ws (r::rs) (P5 ws n)).1,(wlk ws (r::rs) (P5 ws n)).2++[n])):=rfl
  cases hn:gt (N7 m ws st r.1 r.1).2 p with
  | none=>
   obtain⟨q,y,N,f1,f2,f3,f4,f5⟩:=B0i ok h0 hb h p x (by rw[<-I.no p hn];exact e)
   exact⟨q,y,N,by rw[ew,hn];exact f1,f2,f3,f4,by rw[G6];lia⟩
  | some n=>
   obtain⟨w,hw,e1,e2,e3⟩:=I.yes p n hn
   rw[e] at e2
   obtain⟨l',hl',hs⟩:∃l',gt r.1 w.1=some l'/\K5 st l' w.2.2=some x:=by
    have hl2:=e2.symm
    unfold N3 at hl2
    split at hl2
    ·cases hl2
    ·rename_i l' e;exact⟨l',e,hl2⟩
   obtain⟨q,y,N,f1,f2,f3,f4,f5⟩:=B0i ok h0 hb h w.1 l' hl'
   have ws1:P5 ws n=w.1:=by unfold P5;rw[hw]
   have wc:Y1 ws n=w.2.2:=by unfold Y1;rw[hw]
   refine⟨q,y,N++[n],by rw[ew,hn];show ((wlk ws (r::rs) (P5 ws n)).1,(wlk ws (r::rs) (P5 ws n)).2++[n])=_;rw[ws1,f1],f2,f3.app (by rw[<-e1];exact .cons hw .nil),?_,by simp only[P0,G6,A4o];lia⟩
   unfold chs
   rw[P2,B2u]
   show wkF st (wkF st (some y) (chs ws N)) [Y1 ws n]=_
   rw[f4,wc]
   exact hs
def Stp (m:Nat) (ws:List Wy) (st:Int) (b:Tb) (rd:List Rd) (b':Tb) (rd':List Rd):Prop:=∃(r:Rw) (N:List Nat) (P:Nat->Nat) (L:Nat->Int) (p i j k:Nat) (le g tp tm:Int),(M4 m ws st m (b,E5 m none)).getLast?=some r/\m < (M4 m ws st m (b,E5 m none)).length/\(∃ps,((G9 m).filter λi=>(gt r.2 i).isSome)=p::ps)/\wlk ws (M4 m ws st m (b,E5 m none)).reverse p=(P 0,N)/\Wk ws st b N P L/\N.length=m/\i < j/\j<=m/\P i=P j/\(∀a c,a < c->c < j->P a≠P c)/\Rnd st (chs ws (seg N i j)) (L i) le g tp k/\tm=-(-(tp - L i) / g)/\b'=b.set (P (i + k)) (some st)/\rd'=rd.set (P (i + k)) ((rd.getD (P 0) (0,[])).1,(rd.getD (P 0) (0,[])).2++Z9 N i j k tm)
theorem Wk.same {ws:List Wy} {st:Int} {b:Tb} {N:List Nat} {P P':Nat->Nat} {L L':Nat->Int} (W:Wk ws st b N P L) (W':Wk ws st b N P' L') (h:P 0=P' 0) {i:Nat} (hi:i<=N.length):P i=P' i/\L i=L' i:=by
 have e:=W.places
 rw[h,W'.places] at e
 have e1:=congrArg (λl=>l[i]?) e
 simp only[L8,A79 (show i < N.length + 1 by lia),A2i,Option.some.injEq] at e1
 have z:=W.beg
 rw[h,W'.beg] at z
 have z:=Option.some.inj z
 have s1:=W.seg (i:=0) (j:=i) (J7 _) hi
 rw[<-z,W'.seg (i:=0) (j:=i) (J7 _) hi] at s1
 exact⟨e1.symm,(Option.some.inj s1).symm⟩
theorem Stp.uniq {m:Nat} {ws:List Wy} {st:Int} {b b1 b2:Tb} {rd r1 r2:List Rd} (h1:Stp m ws st b rd b1 r1) (h2:Stp m ws st b rd b2 r2):b1=b2/\r1=r2:=by
 obtain⟨r,N,P,L,p,i,j,k,le,g,tp,tm,a1,a2,⟨ps,a3⟩,a4,a5,a6,a7,a8,a9,a10,a11,a12,a13,a14⟩:=h1
 obtain⟨r',N',P',L',p',i',j',k',le',g',tp',tm',c1,c2,⟨ps',c3⟩,c4,c5,c6,c7,c8,c9,c10,c11,c12,c13,c14⟩:=h2
 rw[a1] at c1
 cases c1
 rw[a3] at c3
 cases c3
 rw[a4] at c4
 obtain⟨e0,rfl⟩:=Prod.mk.inj c4
 have sm:=λ{x:Nat} (hx:x<=m)=>a5.same c5 e0 (i:=x) (OO)
 have ej:j=j':=by
  rcases Nat.lt_trichotomy j j' with h | h | h
  ·exact absurd (by rw[<-(sm (x:=i) OO).1,<-(sm (x:=j) OO).1];exact a9) (c10 i j a7 h)
  ·exact h
  ·exact absurd (by rw[(sm (x:=i') OO).1,(sm (x:=j') OO).1];exact c9) (a10 i' j' c7 h)
 subst ej
 have ei:i=i':=by
  have e9:P i=P i':=by rw[a9,(sm (x:=i') OO).1,c9,(sm (x:=j) OO).1]
  rcases Nat.lt_trichotomy i i' with h | h | h
  ·exact absurd e9 (a10 i i' h c7)
  ·exact h
  ·exact absurd e9.symm (a10 i' i h a7)
 subst ei
 have eL:=(sm (x:=i) OO).2
 have fx:=a11.fx
 rw[c11.fx] at fx
 cases fx
 have ek:=a11.ki
 rw[c11.ki] at ek
 subst ek
 have kl:=a11.kl
 unfold chs at kl
 rw[C1,A5q (OO)] at kl
 have eP:=(sm (x:=i + k') OO).1
 subst a12 c12 a13 c13 a14 c14
 rw[eP,e0,eL]
 exact⟨rfl,rfl⟩
inductive Chn (m:Nat) (ws:List Wy) (st:Int):Tb->List Rd->Tb->List Rd->Prop
 | refl {b rd}:Chn m ws st b rd b rd
 | cons {b rd b1 r1 b2 r2}:Stp m ws st b rd b1 r1->Chn m ws st b1 r1 b2 r2->Chn m ws st b rd b2 r2
theorem Chn.snoc {m:Nat} {ws:List Wy} {st:Int} {b b1 b2:Tb} {rd r1 r2:List Rd} (h:Chn m ws st b rd b1 r1) (s:Stp m ws st b1 r1 b2 r2):Chn m ws st b rd b2 r2:=by
 induction h with
 | refl=>exact .cons s .refl
 | cons t _ ih=>exact .cons t (ih s)
theorem Chn.uniq {m:Nat} {ws:List Wy} {st:Int} {b b1 b2:Tb} {rd r1 r2:List Rd} (h:Chn m ws st b rd b1 r1) (f:(M4 m ws st m (b1,E5 m none)).length<=m) (h':Chn m ws st b rd b2 r2) (f':(M4 m ws st m (b2,E5 m none)).length<=m):b1=b2/\r1=r2:=by
 have no:∀{x y:Tb} {u v:List Rd},(M4 m ws st m (x,E5 m none)).length<=m->¬ Stp m ws st x u y v:=λhx s=>by
  obtain⟨r,N,P,L,p,i,j,k,le,g,tp,tm,_,z,_⟩:=s
  lia
 induction h with
 | refl=>
  cases h' with
  | refl=>exact⟨rfl,rfl⟩
  | cons s _=>exact absurd s (no f)
 | cons s _ ih=>
  cases h' with
  | refl=>exact absurd s (no f')
  | cons s' t'=>
   obtain⟨rfl,rfl⟩:=s.uniq s'
   exact ih f t'
def rd0 (m:Nat):List Rd:=(G9 m).map λi=>(i,([]:List Pt))
def D1u:DSp:=λds Q=>∃(m:Nat) (ws:List Wy) (st:Int) (b0:Tb),ds=[G3 m ws,.int st,.list (B8 b0)]/\J6 m ws/\0<=st/\st<=1000000000000000000000/\F7 m st b0/\
 ∀(rs qs:List Rw) (r:Rw) (b:Tb) (rd:List Rd),rs.getLast?=some r->rs.reverse=r::qs->N4 m ws st b0 r.1->Rows m ws st b (r::qs)->A37 m ws rs->rs.length<=m->F7 m st b->B45 st b0 b->A1b m ws st b0 b rd (3 * m)->rs=M4 m ws st m (b,E5 m none)->Chn m ws st b0 (rd0 m) b rd->Q (.tuple [.list (rs.map T5),.list (rd.map j6)])
def A51 (m:Nat) (ws:List Wy) (st:Int) (b0 t:Tb):Prop:=∀p x,gt t p=some x->∃q y N,(gt b0 q=some y\/y=st)/\gt t q≠none/\leO (some y) (gt t q)/\Pth ws q N p/\wkF st (some y) (chs ws N)=some x/\N.length + 1<=m
theorem C0l {m:Nat} {ws:List Wy} {st:Int} {b0 b:Tb} (ok:J6 m ws) (h0:0<=st) (hb:F7 m st b) (hf:B45 st b0 b) {r:Rw} {rs:List Rw} (h:Rows m ws st b (r::rs)) (hl:rs.length + 1<=m):A51 m ws st b0 r.1:=λp x e=>by
 obtain⟨q,y,N,_,f2,f3,f4,f5⟩:=B0i ok h0 hb h p x e
 have up:=(h.ok ok h0 hb).2.2 q
 rw[f2] at up
 refine⟨q,y,N,?_,λz=>by rw[z] at up;exact j1 up,up,f3,f4,OO⟩
 rcases hf q with z | z
 ·exact .inl (by rw[<-z];exact f2)
 ·rw[f2] at z;cases z;exact .inr rfl
def C0m:DSp:=λds Q=>∃(m:Nat) (ws:List Wy) (st:Int) (b0:Tb),ds=[G3 m ws,.int st,.list (B8 b0)]/\J6 m ws/\0<=st/\st<=1000000000000000000000/\F7 m st b0/\∀t,N4 m ws st b0 t->A51 m ws st b0 t->Q (.list (B8 t))
theorem D1v {st:Int} {b:Tb}:A32 st b<=b.length:=List.countP_le_length
theorem D1w {N:List Nat} {i j k:Nat} {tm:Int}:(Z9 N i j k tm).length<=3:=by
 unfold Z9
 have h1:=@A50 (seg N 0 i)
 have h2:=@A50 (seg N i (i + k))
 rw[P0,P0]
 simp
 lia
theorem C0n (T:Txt K mg):C0 P w K mg base CX0 7 T.be.a T.be.d ["land", "store", "base"] (spD [.sh,.sh,.bo] D1u):=by
 have dS:=@D1f P w K mg base T
 have dU:=T.aN.b
 have eW:=@D1g P w K mg base T
 have eX:=T.aT.b
 have eY:=@D1h P w K mg base T
 have eZ:=T.aU.b
 have eA:=@D1q P w K mg base T
 have eB:=T.aJ.b
 have gU:=@D08 P w K mg base T
 have gW:=T.bZ.b
 refine G5 T.be.F A09 rfl (λC cdv A outer s H E hr=>⟨_,(@M7 _ _ _ _ _ _ (A3v (C2 (i:=3) A09.nd rfl (B9 rfl) (B18 (R8 W7 rfl T.au R9 (A2 (pv 2) A4 A1))))) (@M7 _ _ _ _ _ _ (@C6z _ _ _ _ _ _ _ _ _ rfl (@A2q _ _ _ _ _ _ _ _ _ _ _ _ _ 4 _ _ _ _ _ A09.nd rfl (B9 rfl) (M2.new (N:=["land", "store", "base", "table", "roads", "rows", "walk", "parts", "full", "road"]) (osc:=B6 A9x) KK) rfl (A9h (y7 rfl T.bp (D8 (C7 (pv 0) (D3 (C9 (v:=V.int 0) rfl T.g_MANY.m ⟨_,rfl⟩)) (λ_ _=>rfl)) G0 A7))) (λ_=>A05) (λ_=>(X0 (D8 (A5 (pv 10)) (D8 (L3 (Z5 G0)) G0 A2s) A1))) (by rfl) (by first | exact .inl rfl | exact .inr rfl | assumption) (by rfl) (by rfl) (by intro _;rfl))) (@M7 _ _ _ _ _ _ (G1 (C2 (i:=5) A09.nd rfl (B9 rfl) (F1 (B3 dS (hr.mono DD) rfl T.aN.m T.aN.F.kp dU .nil A8 (B7 (A5 (pv 0)) (B7 (A5 (pv 1)) (Z7 (pv 3) F0 A1) A1) A1))))) (@M7 _ _ _ _ _ _ (@A9k _ _ _ _ _ (@A4s _ _ _ _ _ _ S9 (A2u (F1 (B3 eW (hr.mono DD) rfl T.aT.m T.aT.F.kp eX .nil A8 (B7 (A5 (pv 0)) (B7 (A5 (pv 5)) F0 A1) A1)))) (@M7 _ _ _ _ _ _ (G1 (C2 (i:=6) A09.nd rfl (B9 rfl) (F1 (B3 eY (hr.mono DD) rfl T.aU.m T.aU.F.kp eZ .nil A8 (B7 (A5 (pv 0)) (B7 (A5 (pv 5)) F0 A1) A1))))) (@M7 _ _ _ _ _ _ (@G1 _ _ _ _ _ (@C2 _ _ 7 _ _ _ _ A09.nd rfl (B9 rfl) (@F1 _ _ _ _ _ _ _ (@B3 _ _ _ _ _ _ _ _ _ _ _ _ _ _ _ _ eA (hr.mono DD) rfl T.aJ.m T.aJ.F.kp eB .nil A8 (B7 (A5 (pv 0)) (B7 (A5 (pv 1)) (B7 (C7 (pv 3) (C7 (pv 6) (D3 (C9 (v:=V.int 0) rfl T.g_FROM.m ⟨_,rfl⟩)) (λ_ _=>rfl)) (λ_ _=>rfl)) (B7 (A5 (pv 6)) F0 A1) A7) A1) A1) DD A1 ((A6 A1 (A6 A7 (A6 A1 A3)))))) (by rfl) (by first | exact .inl rfl | exact .inr rfl | assumption))) (@M7 _ _ _ _ _ _ (G1 (C2 (i:=8) A09.nd rfl (B9 rfl) (F1 (B3 gU (hr.mono DD) rfl T.bZ.m T.bZ.F.kp gW .nil A8 (B7 (A5 (pv 0)) (B7 (C7 (pv 6) (D3 (C9 (v:=V.int 0) rfl T.g_FROM.m ⟨_,rfl⟩)) (λ_ _=>rfl)) (B7 (A5 (pv 7)) F0 A1) A7) A1))))) (@M7 _ _ _ _ _ _ (G1 (C2 (i:=9) A09.nd rfl (B9 rfl) (C7 (pv 4) (C7 (pv 6) (D3 (C9 (v:=V.int 0) rfl T.g_FROM.m ⟨_,rfl⟩)) (λ_ _=>rfl)) (λ_ _=>rfl)))) (@M7 _ _ _ _ _ _ (A7c (T0 (X0 (D8 (C7 (pv 9) (D3 (C9 (v:=V.int 0) rfl T.g_FROM.m ⟨_,rfl⟩)) (λ_ _=>rfl)) (D8 (L3 (A68 (C7 (pv 9) (D3 (C9 (v:=V.int 1) rfl T.g_BY.m ⟨_,rfl⟩)) (λ_ _=>rfl)) (A5 (pv 7)))) G0 K0) A7)) (W4 (pv 4) (A5 (pv 8)) U2))) (@M7 _ _ _ _ _ _ (A7c (T0 (A5 (pv 1)) (W4 (pv 3) (A5 (pv 8)) U2))) (D9 (G1 (C2 (i:=5) A09.nd rfl (B9 rfl) (F1 (B3 dS (hr.mono DD) rfl T.aN.m T.aN.F.kp dU .nil A8 (B7 (A5 (pv 0)) (B7 (A5 (pv 1)) (Z7 (pv 3) F0 A1) A1) A1)))))))))))))) (D9 (E9 (X0 (D8 (A5 (pv 5)) (D8 (A5 (pv 4)) G0 A1) A1)))))))),λds Q hl h=>?_⟩)
 obtain⟨m,ws,st,b0,rfl,ok,h0,hst,hb0,q⟩:=h
 have m2:=ok.m2
 left
 refine go ?_;array_mem_dec
 refine⟨⟨OO,OO⟩,⟨rfl,by unfold U4;rw[C1,R6];lia⟩,?_⟩
 unfold U4
 rw[show ((m:Nat):Int).toNat=m by simp]
 refine A06 (f:=λi=>.tuple [.int (0 + ((i:Nat):Int)),.list []]) (λi hi Q' q'=>?_) ?_
 ·left
  exact⟨DD,DD,q'⟩
 left
 rw[show List.map (λi=>PyData.tuple [.int (0 + ((i:Nat):Int)),.list []]) (G9 m)=List.map j6 ((G9 m).map λi=>(i,([]:List Pt))) by
  rw[A0w]
  refine A6m λi _=>?_
  show PyData.tuple [.int (0 + ((i:Nat):Int)),.list []]=.tuple [.int ((i:Nat):Int),.list []]
  rw[B07]]
 refine go ?_;left
 refine⟨rfl,m,ws,st,b0,rfl,ok,hb0.len,?_⟩
 left
 refine go ?_
 unfold A0i A7d
 refine⟨fun μ ρ=>∃(b:Tb) (rd:List Rd) (z2 z6 z7 z8 z9:Sl),ρ=[Sl.sh (G3 m ws),Sl.sh (.int st),z2,Sl.ow (B8 b),Sl.ow (rd.map j6),Sl.sh (.list ((M4 m ws st m (b,E5 m none)).map T5)),z6,z7,z8,z9]/\F7 m st b/\A32 st b=μ/\(∀t,N4 m ws st b t->N4 m ws st b0 t)/\B45 st b0 b/\A1b m ws st b0 b rd (3 * (m - μ))/\Chn m ws st b0 (rd0 m) b rd,
  ⟨A32 st b0,b0,_,_,_,_,_,_,rfl,hb0,rfl,λt h=>h,λp=>.inl rfl,⟨by simp,λq y r hq hr=>?_,λr hr=>?_⟩,.refl⟩,?_⟩
 ·rw[L8] at hr
  cases e:(G9 m)[q]? with
  | none=>rw[e] at hr;cases hr
  | some i=>
   rw[e] at hr
   obtain⟨_,e2⟩:=V9.mp e
   rw[List.getElem_range] at e2
   subst e2
   cases hr
   exact⟨.nil,y,hq,rfl⟩
 ·obtain⟨i,_,rfl⟩:=N0.mp hr
  exact⟨J7 _,λpt h=>nomatch h⟩
 rintro μ ρ ⟨b,rd,z2,z6,z7,z8,z9,rfl,hb,hμ,hle,hfl,hrd,hch⟩
 obtain⟨r,rs,e1,e2,e3,e4,hR,hok,hfin⟩:=D1r ok h0 hb
 left
 refine⟨m,ws,_,rfl,?_⟩
 by_cases c:m < (M4 m ws st m (b,E5 m none)).length
 ·rw[decide_eq_true c]
  sizeOf_list_dec
  have hne:rs≠[]:=λz=>by rw[z] at e3;have:=ok.m1;simp at e3;lia
  refine⟨m,ws,_,r,rfl,ok,hok,OO,e2,hR.risen ok h0 hb hne,λp n hp hn hfp=>?_⟩
  obtain⟨N,PP,L,f1,f2,f3,f4,W,f6⟩:=B8y ok h0 hb hR p (.inr ⟨n,hn⟩)
  have hN:N.length=m:=by lia
  rw[e1,f1]
  have hbeg:gt b (PP 0)=some (L 0):=W.beg
  have hP0:PP 0 < m:=W.pl ok hb 0 (J7 _)
  refine go ?_;left
  rw[A35 (by rw[hb.len];exact hP0),hbeg]
  right
  refine⟨m,ws,st,b,N,PP,L,rfl,ok,h0,hst,hb,W,hN,λi j k le g tp tm hij hj hpp hle2 R t1 t2 t3 hfst htm=>?_⟩
  have kl:k<=j - i:=by
   have:=R.kl
   unfold chs at this
   rw[C1,A5q (OO)] at this
   exact this
  have hfull:PP (i + k) < m:=W.pl ok hb (i + k) (OO)
  have htrp:Trp ws (PP 0) (Z9 N i j k tm) (PP (i + k)):=by
   unfold Z9
   refine ((B40 (W.pth (i:=0) (j:=i) (J7 _) OO)).app ?_).app (B40 (W.pth (i:=i) (j:=i + k) OO OO))
   have hs:=W.pth (i:=i) (j:=j) OO (OO)
   rw[<-hpp] at hs
   exact .cons hs (λz=>by have:=congrArg A6b z;rw[A5q (OO)] at this;simp at this;lia) t1 t2 (.inr rfl) .nil
  have harr:=D1s W h0 hb hij OO hle2 R t1 t3
  refine go ?_;left
  refine⟨m,ws,PP 0,PP (i + k),_,rfl,htrp,?_⟩
  obtain⟨r0,hr0⟩:∃d,rd[PP 0]?=some d:=⟨_,M9 (by rw[hrd.len];exact hP0)⟩
  have hps:=(hrd.few r0 (Q9 hr0)).1
  refine go ?_;left
  rw[z4 (show (rd.map j6)[PP 0]?=some (.tuple [.int (r0.1:Nat),.list (r0.2.map P6)]) by rw[L8,hr0];rfl)]
  left
  refine go ?_;left
  have h3:=@D1w N i j k tm
  have hlk:=B80 st b (PP (i + k)) (by rw[hb.len];exact hfull) (C7v W h0 hb hij OO hpp OO)
  have hlm:=@D1v st b
  rw[hb.len] at hlm
  refine⟨by rw[C1,C1];lia,DD,?_⟩
  rw[A36 (by rw[C1,hrd.len];exact hfull)]
  left
  rw[show (rd.map j6).set (PP (i + k)) (.tuple [.int (r0.1:Nat),.list (r0.2.map P6++(Z9 N i j k tm).map P6)])=(rd.set (PP (i + k)) (r0.1,r0.2++Z9 N i j k tm)).map j6 by
   rw[List.map_set,<-P2];rfl]
  refine go ?_;left
  rw[A36 (by rw[Y2,hb.len];exact hfull)]
  left
  rw[show (B8 b).set (PP (i + k)) (PyData.int st)=B8 (b.set (PP (i + k)) (some st)) from B4z (x:=some st)]
  refine go ?_;left
  have hb':=C7w h0 hb hfull
  refine⟨rfl,m,ws,st,_,rfl,ok,hb'.len,?_⟩
  left
  refine⟨A32 st (b.set (PP (i + k)) (some st)),OO,b.set (PP (i + k)) (some st),rd.set (PP (i + k)) (r0.1,r0.2++Z9 N i j k tm),_,_,_,_,_,rfl,hb',rfl,λt h=>hle t (h.fill hb hfull λT hT h1 h2=>C7u W hij OO hpp hle2 R hT h1 h2),λp=>?_,(hrd.fill (by rw[hb.len];exact hfull) hbeg hr0 htrp harr h3 λpt hpt=>by rw[<-hN];exact D1t pt hpt).more OO,hch.snoc ⟨r,N,PP,L,p,i,j,k,le,g,tp,tm,e2,c,hfp,by rw[e1];exact f1,W,hN,hij,hj,hpp,hfst,R,htm,rfl,by rw[C2m,hr0];rfl⟩⟩
  rw[A30 (by rw[hb.len];exact hfull)]
  split
  ·exact .inr rfl
  ·exact hfl p
 ·rw[decide_eq_false c]
  left
  refine go ?_
  left
  refine⟨DD,?_⟩
  exact q _ rs r b rd e2 e1 (hle _ (hfin OO)) hR hok OO hb hfl (hrd.more OO) rfl hch
theorem B46 (T:Txt K mg):C0 P w K mg base CX0 8 T.aw.a T.aw.d ["land", "store", "base"] (spD [.sh,.sh,.bo] C0m):=by
 have dM:=@C0n P w K mg base T
 have dN:=T.be.b
 refine G5 T.aw.F C9d rfl (λC cdv A outer s H E hr=>⟨_,(@D9 _ _ _ _ (@E9 _ _ _ _ _ (@Q6 _ _ _ _ _ _ _ (Q6 (Q6 (F1 (B3 dM (hr.mono DD) rfl T.be.m T.be.F.kp dN .nil A8 (B7 (A5 (pv 0)) (B7 (A5 (pv 1)) (Z7 (pv 2) F0 A1) A1) A1))) E3 (λ_ _=>rfl)) (A0b E3) (λ_ _=>rfl)) (D3 (C9 (v:=V.int 0) rfl T.g_TABLE.m ⟨_,rfl⟩)) (λ_ _=>rfl)))),λds Q hl h=>?_⟩)
 obtain⟨m,ws,st,b0,rfl,ok,h0,hst,hb0,q⟩:=h
 left
 refine⟨rfl,m,ws,st,b0,rfl,ok,h0,hst,hb0,λrs qs r b rd hl he hL hR hok hlen hb hf hrd _ _=>?_⟩
 left
 rw[show -(1:Int)=-1 from rfl,A7r (B0h hl)]
 right
 have hq:qs.length + 1<=m:=by
  have:=congrArg A6b he
  rw[b5,G6] at this
  lia
 exact q _ hL (C0l ok h0 hb hf hR hq)
theorem D1x {sp:DSp} {vs:List V} {H:Hp} {Q:VK} {E:XK} (hl:∀ds Qd,sp ds Qd->∃a b xs,ds=[a,b,.list xs]) (h:spD [.sh,.sh,.sh] sp vs H Q E):spD [.sh,.sh,.bo] sp vs H Q E:=by
 obtain⟨F,hand,ds,Qd,h1,h2,h3,ar,h5,h6⟩:=h
 refine⟨F,hand,ds,Qd,h1,h2,h3,?_,h5,h6⟩
 obtain⟨a,b,xs,rfl⟩:=hl _ _ h5
 cases ar with
 | cons t1 ar=>
 cases ar with
 | cons t2 ar=>
 cases ar with
 | cons t3 ar=>
 cases ar
 have t3:ThV F H _ (.list xs):=t3
 cases t3 with
 | lst g e t=>exact .cons t1 (.cons t2 (.cons ⟨_,_,_,rfl,rfl,(λq hq z=>h2 q hq (by rw[<-z];exact g)),e,t⟩ .nil))
theorem D1y (T:Txt K mg):C0 P w K mg base CX0 8 T.aw.a T.aw.d ["land", "store", "base"] (spD [.sh,.sh,.sh] C0m):=(B46 T).imp λvs H Q E h=>D1x (λds Qd z=>by
 obtain⟨m,ws,st,b,rfl,_⟩:=z
 exact⟨_,_,_,rfl⟩) h
def trO:Option Rd->PyData
 | none=>.none
 | some r=>j6 r
def A16 (ws:List Wy) (rs:List Rw) (rd:List Rd) (p:Nat):Rd:=((rd.getD (wlk ws rs.reverse p).1 (0,[])).1,(rd.getD (wlk ws rs.reverse p).1 (0,[])).2++prt (wlk ws rs.reverse p).2)
def D1z:DSp:=λds Q=>∃(m:Nat) (ws:List Wy) (rs:List Rw) (rd:List Rd) (p:Nat),ds=[G3 m ws,.list (rs.map T5),.list (rd.map j6),.int (p:Nat)]/\p < m/\J6 m ws/\A37 m ws rs/\rs.length<=900/\(wlk ws rs.reverse p).1 < rd.length/\(∀r∈rd,r.2.length<=900)/\Q (j6 (A16 ws rs rd p))
structure C0o (m:Nat) (ws:List Wy) (st:Int) (b0:Tb) (r:Rd) (p:Nat) (x:Int):Prop extends C0k ws st b0 r p x where
 few:r.2.length<=40
 thin:∀pt∈r.2,pt.1.length<=12
structure A7v (m:Nat) (ws:List Wy) (st:Int) (b0 t:Tb) (trs:List (Option Rd)):Prop where
 len:trs.length=m
 no:∀p,p < m->gt t p=none->trs[p]?=some none
 yes:∀p x,gt t p=some x->∃r,trs[p]?=some (some r)/\C0o m ws st b0 r p x
def A4a (m:Nat) (ws:List Wy) (st:Int) (b0:Tb) (trs:List (Option Rd)):Prop:=∃(b:Tb) (rd:List Rd) (r:Rw),Chn m ws st b0 (rd0 m) b rd/\(M4 m ws st m (b,E5 m none)).length<=m/\(M4 m ws st m (b,E5 m none)).getLast?=some r/\trs=(G9 m).map λi=>(gt r.1 i).map λ_=>A16 ws (M4 m ws st m (b,E5 m none)) rd i
theorem A4a.uniq {m:Nat} {ws:List Wy} {st:Int} {b0:Tb} {x y:List (Option Rd)} (h:A4a m ws st b0 x) (k:A4a m ws st b0 y):x=y:=by
 obtain⟨b,rd,r,h1,h2,h3,rfl⟩:=h
 obtain⟨b',rd',r',k1,k2,k3,rfl⟩:=k
 obtain⟨rfl,rfl⟩:=h1.uniq h2 k1 k2
 rw[h3] at k3
 cases k3
 rfl
def D10:DSp:=λds Q=>∃(m:Nat) (ws:List Wy) (st:Int) (b0:Tb),ds=[G3 m ws,.int st,.list (B8 b0)]/\J6 m ws/\0<=st/\st<=1000000000000000000000/\F7 m st b0/\∀t trs,N4 m ws st b0 t->A51 m ws st b0 t->A7v m ws st b0 t trs->A4a m ws st b0 trs->Q (.list (trs.map trO))
theorem D11 (n:Nat):U4 0 n=(G9 n).map λk=>PyData.int ((k:Nat):Int):=by
 unfold U4
 exact A6m λk _=>by rw[B07]
theorem D12 {ns:List Nat} {pt:Pt} (h:pt∈prt ns):pt.1.length<=ns.length:=by
 unfold prt at h
 split at h
 ·cases h
 ·have:pt=(ns,1):=by simpa using h
  subst this
  exact E1 _
theorem C0p {m:Nat} {ws:List Wy} {st:Int} {b0 b:Tb} {rd:List Rd} {r:Rw} {qs rs:List Rw} (ok:J6 m ws) (h0:0<=st) (hb:F7 m st b) (he:rs.reverse=r::qs) (hR:Rows m ws st b (r::qs)) (hl:rs.length<=m) (hrd:A1b m ws st b0 b rd (3 * m)) {p:Nat} {x:Int} (e:gt r.1 p=some x):(wlk ws rs.reverse p).1 < m/\C0o m ws st b0 (A16 ws rs rd p) p x:=by
 obtain⟨q,y,N,f1,f2,f3,f4,f5⟩:=B0i ok h0 hb hR p x e
 have m2:=ok.m2
 have hq:q < m:=by
  by_cases h:q < m
  ·exact h
  ·rw[A5l (by rw[hb.len];lia)] at f2;cases f2
 have hqs:qs.length + 1<=m:=by
  have:=congrArg A6b he
  rw[b5,G6] at this
  lia
 rw[he,f1]
 refine⟨hq,?_⟩
 unfold A16
 rw[he,f1]
 obtain⟨d,hd⟩:∃d,rd[q]?=some d:=⟨_,M9 (by rw[hrd.len];exact hq)⟩
 rw[C2m,hd]
 obtain⟨t,y0,e0,e1⟩:=hrd.ok q y d f2 hd
 have hfe:=hrd.few d (Q9 hd)
 refine⟨⟨t.app (B40 f3),y0,e0,?_⟩,?_,λpt hpt=>?_⟩
 ·show A0l ws st (some y0) (d.2++prt N)=_
  rw[A7u,e1,B44]
  exact f4
 ·show (d.2++prt N).length<=40
  have:=hfe.1
  have:=@A50 N
  rw[P0]
  lia
 ·rcases V8.mp (show pt∈d.2++prt N from hpt) with z | z
  ·have:=hfe.2 pt z;lia
  ·have:=D12 z;lia
theorem D13 (T:Txt K mg):C0 P w K mg base CX0 3 T.bQ.a T.bQ.d ["land", "rows", "roads", "place"] (spD [.sh,.sh,.sh,.sh] D1z):=by
 have dJ:=@C0a P w K mg base T
 have dL:=T.bc.b
 have cI:=@C0b P w K mg base T
 have cJ:=T.aD.b
 refine G5 T.bQ.F B0d rfl (λC cdv A outer s H E hr=>⟨_,(@M7 _ _ _ _ _ _ (G1 (C2 (i:=4) B0d.nd rfl (B9 rfl) (F1 (B3 dJ (hr.mono DD) rfl T.bc.m T.bc.F.kp dL .nil A8 (B7 (A5 (pv 0)) (B7 (A5 (pv 1)) (B7 (A5 (pv 3)) F0 A1) A1) A1))))) (@M7 _ _ _ _ _ _ (G1 (C2 (i:=5) B0d.nd rfl (B9 rfl) (C7 (pv 2) (C7 (pv 4) (D3 (C9 (v:=V.int 0) rfl T.g_FROM.m ⟨_,rfl⟩)) (λ_ _=>rfl)) (λ_ _=>rfl)))) (@M7 _ _ _ _ _ _ (@C60 _ _ _ _ _ _ _ _ _ rfl (@A2q _ _ _ _ _ _ _ _ _ _ _ _ _ 6 _ _ _ _ _ B0d.nd rfl (B9 rfl) (M2.new (N:=["land", "rows", "roads", "place", "walk", "road", "trip"]) (osc:=B6 A9y) KK) rfl (A9g (C7 (pv 5) (D3 (C9 (v:=V.int 1) rfl T.g_BY.m ⟨_,rfl⟩)) (λ_ _=>rfl))) (λ_=>A05) (λ_=>(X0 (D8 (L3 (C6g (R8 W7 rfl T.au R9 (A2 (C7 (pv 7) (D3 (C9 (v:=V.int 0) rfl T.g_NUMBERS.m ⟨_,rfl⟩)) (λ_ _=>rfl)) A4 A7)))) (D8 (C7 (pv 7) (D3 (C9 (v:=V.int 1) rfl T.g_TIMES.m ⟨_,rfl⟩)) (λ_ _=>rfl)) G0 A7) D7))) (by rfl) (by first | exact .inl rfl | exact .inr rfl | assumption) (by rfl) (by rfl) (by intro _;rfl))) (@D9 _ _ _ _ (@E9 _ _ _ _ _ (@X0 _ _ _ _ _ _ (@D8 _ _ _ _ _ _ (C7 (pv 5) (D3 (C9 (v:=V.int 0) rfl T.g_FROM.m ⟨_,rfl⟩)) (λ_ _=>rfl)) (D8 (L3 (A68 (A5 (pv 6)) (F1 (B3 cI (hr.mono DD) rfl T.aD.m T.aD.F.kp cJ .nil A8 (B7 (C7 (pv 4) (D3 (C9 (v:=V.int 1) rfl T.g_BY.m ⟨_,rfl⟩)) (λ_ _=>rfl)) F0 A7))))) G0 K0) A7))))))),λds Q hl h=>?_⟩)
 obtain⟨m,ws,rs,rd,p,rfl,hp,ok,hR,hn,hw,hfe,q⟩:=h
 left
 refine⟨m,ws,rs,p,rfl,hp,ok,hR,hn,?_⟩
 obtain⟨d,hd⟩:∃d,rd[(wlk ws rs.reverse p).1]?=some d:=⟨_,M9 hw⟩
 have hd2:=hfe d (Q9 hd)
 unfold A16 at q
 rw[C2m,hd] at q
 refine go ?_;left
 rw[z4 (show (rd.map j6)[(wlk ws rs.reverse p).1]?=some (j6 d) by rw[L8,hd];rfl)]
 unfold j6
 left
 refine go ?_;array_mem_dec
 refine⟨⟨rfl,by rw[C1];lia⟩,?_⟩
 refine A06 (f:=P6) (λpt hpt Q' q'=>?_) ?_
 ·right
  exact⟨DD,q'⟩
 rw[T9]
 refine go ?_;array_mem_dec
 refine⟨_,rfl,?_⟩
 have h1:=@A50 (wlk ws rs.reverse p).2
 left
 rw[<-P2]
 refine⟨by rw[C1,C1];lia,DD,q⟩
theorem D14 (T:Txt K mg):C0 P w K mg base CX0 8 T.bG.a T.bG.d ["land", "store", "base"] (spD [.sh,.sh,.sh] D10):=by
 have dM:=@C0n P w K mg base T
 have dN:=T.be.b
 have gG:=@D13 P w K mg base T
 have gH:=T.bQ.b
 refine G5 T.bG.F B0e rfl (λC cdv A outer s H E hr=>⟨_,(@M7 _ _ _ _ _ _ (G1 (C2 (i:=3) B0e.nd rfl (p9 rfl) (F1 (B3 dM (hr.mono DD) rfl T.be.m T.be.F.kp dN .nil A8 (B7 (A5 (pv 0)) (B7 (A5 (pv 1)) (Z7 (pv 2) F0 A1) A1) A1))))) (@M7 _ _ _ _ _ _ (G1 (C2 (i:=4) B0e.nd rfl (p9 rfl) (C7 (pv 3) E3 (λ_ _=>rfl)))) (@M7 _ _ _ _ _ _ (G1 (C2 (i:=5) B0e.nd rfl (p9 rfl) (Q6 (C7 (pv 4) (A0b E3) (λ_ _=>rfl)) (D3 (C9 (v:=V.int 0) rfl T.g_TABLE.m ⟨_,rfl⟩)) (λ_ _=>rfl)))) (@D9 _ _ _ _ (@E9 _ _ _ _ _ (@L3 _ _ _ _ (@A10 _ _ _ _ _ _ _ _ rfl (@V4 _ _ _ _ _ _ _ _ _ _ _ _ _ _ _ (M2.new (N:=["land", "store", "base", "found", "rows", "table"]) (osc:=B6 A9z) KK) rfl (A9h (y7 rfl T.bp (D8 (C7 (pv 0) (D3 (C9 (v:=V.int 0) rfl T.g_MANY.m ⟨_,rfl⟩)) (λ_ _=>rfl)) G0 A7))) (λ_=>A05) (λ_=>(@B71 _ _ _ _ _ _ _ _ _ (O3 Z2 A0e (C7 (pv 5) (A5 (pv 6)) (λ_ _=>rfl)) N2 (D5 _)) N2 (F1 (B3 gG (hr.mono DD) rfl T.bQ.m T.bQ.F.kp gH .nil A8 (B7 (A5 (pv 0)) (B7 (A5 (pv 4)) (B7 (C7 (pv 3) E3 (λ_ _=>rfl)) (B7 (A5 (pv 6)) F0 A1) A7) A1) A1))))) (by rfl) (by rfl) (by intro _;rfl))))))))),λds Q hl h=>?_⟩)
 obtain⟨m,ws,st,b0,rfl,ok,h0,hst,hb0,q⟩:=h
 have m2:=ok.m2
 left
 refine⟨rfl,m,ws,st,b0,rfl,ok,h0,hst,hb0,λrs qs r b rd hl he hL hR hok hlen hb hf hrd hrs hch=>?_⟩
 have hq:qs.length + 1<=m:=by
  have:=congrArg A6b he
  rw[b5,G6] at this
  lia
 refine go ?_;left
 refine go ?_;left
 rw[show -(1:Int)=-1 from rfl,A7r (B0h hl)]
 right
 refine go ?_;array_mem_dec
 rw[show ((m:Nat):Int).toNat=m by simp]
 refine⟨⟨OO,OO⟩,⟨rfl,by unfold U4;rw[C1,R6];lia⟩,?_⟩
 rw[D11]
 refine A06 (f:=λi=>trO ((gt r.1 i).map λ_=>A16 ws rs rd i)) (λi hi Q' q'=>?_) ?_
 ·have him:=U7.mp hi
  left
  rw[A35 (by rw[hL.tab.len];exact him)]
  cases e:gt r.1 i with
  | none=>
   rw[e] at q'
   right
   exact q'
  | some x=>
   rw[e] at q'
   have:=C0p ok h0 hb he hR hlen hrd e
   right
   exact⟨m,ws,rs,rd,i,rfl,him,ok,hok,OO,by rw[hrd.len];exact this.1,λr hr=>by have:=(hrd.few r hr).1;lia,q'⟩
 rw[T9]
 have qq:=q r.1 ((G9 m).map λi=>(gt r.1 i).map λ_=>A16 ws rs rd i) hL (C0l ok h0 hb hf hR hq) ⟨by rw[C1,R6],λp hp e=>by rw[L8,A79 hp];show some ((gt r.1 p).map _)=_;rw[e];rfl,λp x e=>?_⟩ ?_
 ·rw[A0w] at qq
  exact qq
 ·have hp:p < m:=by
   by_cases h:p < m
   ·exact h
   ·rw[A5l (by rw[hL.tab.len];lia)] at e;cases e
  exact⟨A16 ws rs rd p,by rw[L8,A79 hp];show some ((gt r.1 p).map _)=_;rw[e];rfl,(C0p ok h0 hb he hR hlen hrd e).2⟩
 ·subst hrs
  exact⟨b,rd,r,hch,hlen,hl,rfl⟩
def lkF (st:Int) (t:Tb):Tb:=t.map λo=>o.map λx=>st - x
theorem D15 {st:Int} {t:Tb} {p:Nat}:gt (lkF st t) p=(gt t p).map λx=>st - x:=by
 unfold gt lkF
 rw[L8]
 cases t[p]? with
 | none=>rfl
 | some o=>rfl
theorem B47 {m:Nat} {st:Int} {t:Tb} (h:F7 m st t):F7 m st (lkF st t):=by
 refine⟨by unfold lkF;rw[C1];exact h.len,λp x e=>?_⟩
 rw[D15] at e
 cases z:gt t p with
 | none=>rw[z] at e;cases e
 | some y=>
  rw[z] at e
  have:st - y=x:=Option.some.inj e
  have:=h.bd p y z
  lia
theorem C0q {m:Nat} {ws:List Wy} (ok:J6 m ws):J6 m (ws.map T6):=by
 refine⟨ok.m1,ok.m2,by rw[C1];exact ok.few,λw hw=>?_,λw hw=>?_,λw hw=>?_,λw hw=>?_⟩
 all_goals obtain⟨v,hv,rfl⟩:=N0.mp hw
 ·exact ok.en v hv
 ·exact ok.st v hv
 ·exact ok.lo v hv
 ·exact ok.hi v hv
def D16:DSp:=λds Q=>∃(st:Int) (t:Tb),ds=[.int st,.list (B8 t)]/\t.length<=900/\Q (.list (B8 (lkF st t)))
def D17:DSp:=λds Q=>∃(m:Nat) (ws:List Wy) (st:Int) (g:Tb),ds=[G3 m ws,.int st,.list (B8 g)]/\J6 m ws/\0<=st/\st<=1000000000000000000000/\F7 m st g/\∀t,N4 m (ws.map T6) st (lkF st g) t->Q (.list (B8 (lkF st t)))
theorem B48 {H H':Hp} (k:Kq none H H'):Same H H':=λb o e=>k b o e λq hq=>nomatch hq
theorem FpV.early {H H' H2:Hp} {v:V} {d:PyData} {fp:List Addr} (s1:Same H H') (s2:Same H' H2) (t:FpV (λb=>H' b=none\/∃xs,H' b=some (.tup xs)) H2 v d fp):FpV (λb=>H b=none\/∃xs,H b=some (.tup xs)) H2 v d fp/\∀b∈fp,H' b=none:=by
 have back:∀b,H' b=none->H b=none:=λb h=>by
  cases z:H b with
  | none=>rfl
  | some o=>rw[s1 _ _ z] at h;cases h
 refine⟨t.mvm λb o g e _=>⟨?_,e⟩,λb hb=>?_⟩
 ·rcases g with g | ⟨xs,g⟩
  ·exact .inl (back b g)
  ·cases z:H b with
   | none=>exact .inl rfl
   | some o'=>
    have:=s1 _ _ z
    rw[g] at this
    cases this
    exact .inr ⟨xs,rfl⟩
 ·obtain⟨g,xs,e⟩:=t.mem b hb
  rcases g with g | ⟨ys,g⟩
  ·exact g
  ·rw[s2 _ _ g] at e;cases e
abbrev TT0:Addr->Prop:=λ_=>True
theorem T7 {a R:TS} {D:Y8} {σ:L2.St} {H:Hp} (h:∀W:TS,W=R->A6r a W D σ H):A6r a R D σ H:=h R rfl
theorem C3 (W:TS) {a R:TS} {D:Y8} {σ:L2.St} {H:Hp} (e:W=A6r a R) (h:∀W':TS,W'=R->A6r a W' D σ H):W D σ H:=by rw[e];exact h R rfl
abbrev F9 (H:Hp):Addr->Prop:=λb=>H b=none\/∃xs,H b=some (.tup xs)
theorem j7 {ms:List Md} {sp:DSp} {vs:List V} {ds:List PyData} {H:Hp} {Q:VK} {E:XK} (Qd:PyData->Prop) (ar:X9 TT0 none H ms vs ds) (h:sp ds Qd) (k:∀d v H',Qd d->ThV TT0 H' v d->Same H H'->Q v H'):spD ms sp vs H Q E:=
 ⟨TT0,none,ds,Qd,⟨λ_ _=>trivial,λ_ _ _=>trivial⟩,λq hq=>(nomatch hq),λq hq=>(nomatch hq),ar,h,λd v H' a b c _=>k d v H' a b (B48 c)⟩
theorem D18 {sp:DSp} {H:Hp} {Q:VK} {E:XK} {hd hl:Addr} (Qd:PyData->Prop) (d:Hd H hd hl) (h:sp [.none] Qd) (k:∀d v H',Qd d->ThV (λb=>b≠hd) H' v d->Kq (some (hd,hl)) H H'->Hd H' hd hl->Q v H'):spD [.hd] sp [.ref hd] H Q E:=by
 have d0:=d
 obtain⟨_,_,_,_,_,_,_,_,e⟩:=d
 exact⟨λb=>b≠hd,some (hd,hl),[.none],Qd,⟨(λb z y=>by rw[y,e] at z;cases z),(λb xs z y=>by rw[y,e] at z;cases z)⟩,λq hq=>by cases hq;exact λz=>z rfl,λq hq=>by cases hq;exact d0,.cons ⟨_,rfl,rfl⟩ .nil,h,λd v H' a b c z=>k d v H' a b c (z _ rfl)⟩
theorem E6 {F G:Addr->Prop} {H H':Hp}:∀{t:Tb} {us:List V},A9 F H us (B8 t)->A9 G H' us (B8 t)
 | [],_,h=>by cases h;exact .nil
 | o::t,_,h=>by
  cases h with
  | cons x r=>
   cases o with
   | none=>cases x;exact .cons .non (E6 r)
   | some i=>cases x;exact .cons (.int _) (E6 r)
theorem A7w {F G:Addr->Prop} {H H':Hp}:∀{t:Tb} {us:List V},A9 F H us (B8 t)->E7 G H' us (B8 t) []
 | [],_,h=>by cases h;exact .nil
 | o::t,_,h=>by
  cases h with
  | cons x r=>
   cases o with
   | none=>cases x;exact E7.cons (fp:=[]) (fps:=[]) .non (A7w r)
   | some i=>cases x;exact E7.cons (fp:=[]) (fps:=[]) (.int _) (A7w r)
theorem B0j {F G:Addr->Prop} {H H':Hp}:∀{ns:List Nat} {us:List V},A9 F H us (numL ns)->E7 G H' us (numL ns) []
 | [],_,h=>by cases h;exact .nil
 | n::ns,_,h=>by
  cases h with
  | cons x r=>cases x;exact E7.cons (fp:=[]) (fps:=[]) (.int _) (B0j r)
theorem D19 {F G:Addr->Prop} {H H':Hp} {ns:List Nat} {us:List V} (t:A9 F H us (numL ns)):A9 G H' us (numL ns):=(B0j (G:=G) (H':=H') t).th
theorem _root_.L2.Same.early {H H':Hp} (s:Same H H') {b:Addr} (h:H' b=none):H b=none:=by
 cases z:H b with
 | none=>rfl
 | some o=>rw[s _ _ z] at h;cases h
theorem C0r {H H':Hp} (s:Same H H') {b:Addr} (h:F9 H' b):F9 H b:=by
 rcases h with h | ⟨xs,h⟩
 ·exact .inl (s.early h)
 ·cases z:H b with
  | none=>exact .inl z
  | some o=>
   have:=s _ _ z
   rw[h] at this
   cases this
   exact .inr ⟨xs,z⟩
theorem A1c {H H':Hp} (s:Same H H') {b:Addr} {xs:List V} (h:F9 H b) (e:H' b=some (.lst xs)):H b=none:=by
 rcases h with h | ⟨ys,h⟩
 ·exact h
 ·rw[s _ _ h] at e;cases e
theorem A52 {ms:List Md} {sp:DSp} {vs:List V} {ds:List PyData} {H:Hp} {Q:VK} {E:XK} {hd hl:Addr} (Qd:PyData->Prop) (d:Hd H hd hl) (ar:X9 (λb=>b≠hd) (some (hd,hl)) H ms vs ds) (h:sp (.none::ds) Qd) (k:∀d v H',Qd d->ThV (λb=>b≠hd) H' v d->Kq (some (hd,hl)) H H'->Hd H' hd hl->Q v H'):spD (.hd::ms) sp (.ref hd::vs) H Q E:=by
 have d0:=d
 obtain⟨_,_,_,_,_,_,_,_,e⟩:=d
 exact⟨λb=>b≠hd,some (hd,hl),.none::ds,Qd,⟨(λb z y=>by rw[y,e] at z;cases z),(λb xs z y=>by rw[y,e] at z;cases z)⟩,λq hq=>by cases hq;exact λz=>z rfl,λq hq=>by cases hq;exact d0,.cons ⟨_,rfl,rfl⟩ ar,h,λd v H' a b c z=>k d v H' a b c (z _ rfl)⟩
def spN (sp:DSp):Sp:=λvs H Q _=>∃ds Qd,A9 TT0 H vs ds/\sp ds Qd/\∀d v H',Qd d->ThV (F9 H) H' v d->Same H H'->Q v H'
theorem A1d {H:Hp} {p b:Addr} {o:HO} (h:upd H p o b=none):b≠p/\H b=none:=by
 by_cases e:b=p
 ·subst e;rw[B2] at h;cases h
 ·rw[B4 e] at h;exact⟨e,h⟩
theorem _root_.L2.Same.upd {H:Hp} {p:Addr} {o:HO} (h:H p=none):Same H (upd H p o):=λb o' e=>by rw[B4 (Q3 e h)];exact e
theorem _root_.L2.Same.tr {H H1 H2:Hp} (a:Same H H1) (b:Same H1 H2):Same H H2:=λc o e=>b _ _ (a _ _ e)
theorem ThV.keep {F:Addr->Prop} {H H':Hp} {v:V} {d:PyData} (t:ThV F H v d) (s:Same H H'):ThV F H' v d:=t.mv λb o z e=>⟨z,s _ _ e⟩
theorem A9.keep {F:Addr->Prop} {H H':Hp} {v:List V} {d:List PyData} (t:A9 F H v d) (s:Same H H'):A9 F H' v d:=t.mv λb o z e=>⟨z,s _ _ e⟩
theorem ThV.any {F:Addr->Prop} {H:Hp} {v:V} {d:PyData} (t:ThV F H v d):ThV TT0 H v d:=t.mv λb o z e=>⟨trivial,e⟩
theorem A9.any {F:Addr->Prop} {H:Hp} {v:List V} {d:List PyData} (t:A9 F H v d):A9 TT0 H v d:=t.mv λb o z e=>⟨trivial,e⟩
theorem B49 {F:Addr->Prop} {H:Hp}:∀{vs:List V} {ds:List PyData} {i:Nat} {x:V},A9 F H vs ds->vs[i]?=some x->∃d,ds[i]?=some d/\ThV F H x d
 | _,_,_,_,.nil,e=>nomatch e
 | _,_,0,_,.cons x _,e=>by cases e;exact⟨_,rfl,x⟩
 | _,_,i + 1,_,.cons _ t,e=>B49 (i:=i) t e
abbrev D2a:Sp:=spN D16
abbrev D2b:Sp:=spN D17
def A53 (a b:Option Int):Bool:=match b,a with
 | none,_=>true
 | some _,none=>false
 | some y,some x=>decide (x<=y)
def D2c:DSp:=λds Q=>∃a b:Option Int,ds=[oD a,oD b]/\Q (.bool (A53 a b))
def A1e (t o:Tb):List Nat:=(G9 t.length).filter λp=>!A53 (gt o p) (gt t p)
def D2d:DSp:=λds Q=>∃t o:Tb,ds=[.list (B8 t),.list (B8 o)]/\t.length=o.length/\t.length<=900/\Q (.list (numL (A1e t o)))
abbrev D2e:Sp:=spN D2d
theorem D2f {H:Hp} {v:V} {xs:List PyData} (t:ThV TT0 H v (.list xs)):B2c TT0 none H v (.list xs) .bo:=by
 obtain⟨a,us,rfl,_,e,tu⟩:=K8 t
 exact⟨a,us,xs,rfl,rfl,(λq hq=>nomatch hq),e,tu⟩
theorem C0s (T:Txt K mg):C0 P w K mg base CX0 1 T.aK.a T.aK.d ["store", "table"] D2a:=by
 refine T.aK.F.ok C9e (λvs H Q E h=>?_) (λcdv A outer s H vs Q E hr h=>?_)
 ·obtain⟨ds,Qd,t,⟨st,t0,rfl,_⟩,_⟩:=h
  rw[t.len];rfl
 ·obtain⟨ds,Qd,tv,⟨st,t0,rfl,hl,q⟩,told⟩:=h
  obtain⟨v1,v2,rfl,t1,t2⟩:=Q1 tv
  cases t1
  obtain⟨at',ut,rfl,_,et,tut⟩:=K8 t2
  have lut:ut.length=t0.length:=by rw[tut.len,Y2]
  refine⟨_,(C5 (F2 (V4 (M2.new (N:=["store", "table"]) (osc:=B6 A90) KK) rfl (Z0 (pv 1)) (λ_=>d8) (λ_=>(B1c (J2 Z2 (pv 2) w5 (D5 _)) w5 (J5 A4t (pv 0) (pv 2))))))),?_⟩
  refine⟨_,rfl,at',rfl,⟨ut,SqL.of et⟩,?_⟩
  refine A0a (xs:=ut) (λi ys Hn=>Hn=H/\A9 TT0 H ys (B8 (lkF st (t0.take i)))) ?_ ⟨rfl,.nil⟩ ?_ ?_ ?_
  ·rw[lut,sizeLine_eq];lia
  ·rintro i ys Hn hi ⟨rfl,h2⟩
   refine⟨?_,SqL.of et⟩
   rw[h2.len,Y2]
   unfold lkF
   rw[C1,b4]
   lia
  ·rintro i x ys Hn hx ⟨rfl,h2⟩ ca
   obtain⟨d,hd,tx⟩:=B49 tut hx
   unfold B8 at hd
   rw[L8] at hd
   obtain⟨o,ho,rfl⟩:=A0v.mp hd
   have stp:B8 (lkF st (t0.take (i + 1)))=B8 (lkF st (t0.take i))++[oD (o.map λx=>st - x)]:=by
    rw[A2g,ho]
    unfold lkF B8
    rw[P2,P2];rfl
   unfold b9
   refine F5 ⟨_,rfl,rfl,_,rfl,?_⟩
   rw[stp]
   cases o with
   | none=>
    cases tx
    exact F5 ⟨rfl,h2.append (.cons .non .nil)⟩
   | some y=>
    cases tx
    rw[show decide (V.int y=V.non)=false from decide_eq_false λz=>by cases z]
    exact D0 ⟨_,rfl,_,rfl,_,_,rfl,rfl,rfl,h2.append (.cons (.int _) .nil)⟩
  rintro ys Hn ⟨rfl,h2⟩ p hp
  rw[lut,A2j] at h2
  exact told _ _ _ q (.lst (.inl hp) B2 (E6 h2)) (Same.upd hp)
theorem C0t (T:Txt K mg):C0 P w K mg base CX0 9 T.bL.a T.bL.d ["land", "store", "goal"] D2b:=by
 have cT:=@C0s P w K mg base T
 have cU:=T.aK.b
 have cC:=@B46 P w K mg base T
 have cD:=T.aw.b
 have cE:=@B99 P w K mg base T
 have cF:=T.ax.b
 refine T.bL.F.ok C9f (λvs H Q E h=>?_) (λcdv A outer s H vs Q E hr h=>?_)
 ·obtain⟨ds,Qd,t,⟨m,ws,st,g,rfl,_⟩,_⟩:=h
  rw[t.len];rfl
 ·obtain⟨ds,Qd,tv,⟨m,ws,st,g,rfl,ok,h0,hst,hg,q⟩,told⟩:=h
  cases tv with
  | @cons vl _ _ _ tl tv=>
  obtain⟨vst,vg,rfl,tst,tg⟩:=Q1 tv
  cases tst
  have m2:=ok.m2
  have few:=ok.few
  have hgl:=hg.len
  refine⟨_,(C5 (F2 (B3 cT (hr.mono DD) rfl T.aK.m T.aK.F.kp cU .nil A8 (A2 (pv 1) (A2 (B3 cC (hr.mono DD) rfl (T.bu.trans T.aw.m) T.aw.F.kp cD .nil A8 (A2 (B3 cE (hr.mono DD) rfl T.ax.m T.ax.F.kp cF .nil A8 (A2 (pv 0) A4 A1)) (A2 (pv 1) (A2 (B3 cT (hr.mono DD) rfl T.aK.m T.aK.F.kp cU .nil A8 (A2 (pv 1) (A2 (pv 2) A4 A1) A1)) A4 D7) A1) D7)) A4 D7) A1)))),?_⟩
  refine⟨_,rfl,_,rfl,j7 (E:=E0) (λd=>d=G3 m (ws.map T6)) (.cons tl .nil) ⟨m,ws,rfl,OO,rfl⟩ λd v1 H1 hd t1 s1=>?_⟩
  subst hd
  refine⟨_,rfl,_,rfl,_,rfl,[.int st,.list (B8 g)],(λd=>d=.list (B8 (lkF st g))),.cons (.int _) (.cons (tg.keep s1) .nil),⟨st,g,rfl,OO,rfl⟩,λd v2 H2 hd t2 s2=>?_⟩
  subst hd
  refine j7 (E:=E0) (λd=>∃t,N4 m (ws.map T6) st (lkF st g) t/\d=.list (B8 t)) (.cons (t1.keep s2) (.cons (.int _) (.cons (D2f t2.any) .nil))) ⟨m,_,st,_,rfl,C0q ok,h0,hst,B47 hg,λt ht _=>⟨t,ht,rfl⟩⟩ λd v3 H3 hd t3 s3=>?_
  obtain⟨t,ht,rfl⟩:=hd
  have htl:=ht.tab.len
  have s03:=(s1.tr s2).tr s3
  refine⟨[.int st,.list (B8 t)],(λd=>d=.list (B8 (lkF st t))),.cons (.int _) (.cons t3 .nil),⟨st,t,rfl,OO,rfl⟩,λd v4 H4 hd t4 s4=>?_⟩
  subst hd
  exact told _ _ _ (q t ht) (t4.mv λb o z e=>⟨C0r s03 z,e⟩) (s03.tr s4)
theorem D2g (T:Txt K mg):C0 P w K mg base CX0 1 T.bx.a T.bx.d ["level", "bound"] (spD [.sh,.sh] D2c):=by
 refine G5 T.bx.F C85 rfl (λC cdv A outer s H E hr=>⟨_,(D9 (E9 (B15 (m8 Z2 A0e (A5 (pv 1)) N2 (D5 _)) (d9 (m9 (m8 A4v A65 (A5 (pv 0)) N2 (D5 _)) (d9 (m8 i8 C58 (A5 (pv 0)) (A5 (pv 1)) (D5 _)))))))),λds Q hl h=>?_⟩)
 obtain⟨a,b,rfl,q⟩:=h
 cases b with
 | none=>
  right
  exact q
 | some y=>
  cases a with
  | none=>
   right
   exact q
  | some x=>
   right
   exact q
theorem D2h (T:Txt K mg):C0 P w K mg base CX0 2 T.az.a T.az.d ["table", "other"] D2e:=by
 have fV:=@D2g P w K mg base T
 have fW:=T.bx.b
 refine T.az.F.ok C9j (λvs H Q E h=>?_) (λcdv A outer s H vs Q E hr h=>?_)
 ·obtain⟨ds,Qd,t,⟨t0,o0,rfl,_⟩,_⟩:=h
  rw[t.len];rfl
 ·obtain⟨ds,Qd,tv,⟨t0,o0,rfl,hlen,hl,q⟩,told⟩:=h
  obtain⟨v1,v2,rfl,t1,t2⟩:=Q1 tv
  obtain⟨at',ut,rfl,_,et,tut⟩:=K8 t1
  obtain⟨ao,uo,rfl,_,eo,tuo⟩:=K8 t2
  have lut:ut.length=t0.length:=by rw[tut.len,Y2]
  refine⟨_,(C5 (F2 (V4 (M2.new (N:=["table", "other"]) (osc:=B6 A92) KK) rfl (y7 rfl T.bp (A2 (J8 b8 rfl T.bC Z4 (A2 (pv 0) A4 A1)) A4 D7)) (λ_=>(B1x (l3 (W3 (B3 fV (hr.mono DD) rfl T.bx.m T.bx.F.kp fW .nil A8 (A2 (C6 D6 (pv 1) (pv 2) (λ_ _=>rfl)) (A2 (C6 D6 (pv 0) (pv 2) (λ_ _=>rfl)) A4 A7) A7)))))) (λ_=>(pv 2))))),?_⟩
  refine⟨_,rfl,at',ut,rfl,.inl (SqL.of et),_,rfl,OO,OO,?_⟩
  refine B7k (n:=((ut.length:Nat):Int).toNat) (λi ys Hn=>Same H Hn/\A9 TT0 H ys (numL ((G9 i).filter λp=>!A53 (gt o0 p) (gt t0 p)))) ?_ ⟨λ_ _ e=>e,.nil⟩ ?_ ?_ ?_
  ·rw[lut,sizeLine_eq];lia
  ·rintro i ys Hn hi ⟨h1,h2⟩
   rw[h2.len,n8]
   exact T8 (A8a _ _) (by rw[R6];exact E1 _)
  ·rintro i ys Hn hi ⟨h1,h2⟩ ca
   rw[lut,Int.toNat_natCast] at hi
   rw[B07]
   obtain⟨vo,hvo,tvo⟩:=A9a tuo (A35 (t:=o0) (p:=i) OO)
   obtain⟨vt,hvt,tvt⟩:=A9a tut (A35 (t:=t0) (p:=i) hi)
   refine⟨_,rfl,_,rfl,ao,uo,_,_,rfl,rfl,SqL.of (h1 _ _ eo),hvo,_,rfl,_,rfl,at',ut,_,_,rfl,rfl,SqL.of (h1 _ _ et),hvt,j7 (E:=E0) (λd=>d=.bool (A53 (gt o0 i) (gt t0 i))) (.cons (tvo.any.keep h1) (.cons (tvt.any.keep h1) .nil)) ⟨_,_,rfl,rfl⟩ λd v H' hd tv s'=>?_⟩
   subst hd
   cases tv
   refine⟨_,rfl,?_⟩
   rw[A8j,List.filter_append]
   cases e:A53 (gt o0 i) (gt t0 i) with
   | true=>
    refine D0 ⟨h1.tr s',?_⟩
    rw[B52 (by rw[e];decide),List.filter_nil,Y6]
    exact h2
   | false=>
    refine F5 ⟨_,rfl,h1.tr s',?_⟩
    rw[B51 (by rw[e];rfl),List.filter_nil]
    unfold numL
    rw[P2]
    exact h2.append (.cons (.int _) .nil)
  rintro ys Hn ⟨h1,h2⟩ p hp
  rw[lut,Int.toNat_natCast] at h2
  exact told _ _ _ q (.lst (.inl (h1.early hp)) B2 (D19 h2)) (h1.tr (Same.upd hp))
abbrev Kw:=List (Int×Wy)
def Q2 (kws:Kw) (k:Int):Option Wy:=(kws.find? λq=>decide (q.1=k)).map (·.2)
def Y3 (kws:Kw) (k:Int) (w:Wy):Kw:=if (kws.any λq=>decide (q.1=k))=true then kws.map (λq=>if q.1=k then (q.1,w) else q) else kws++[(k,w)]
def A54 (kws:Kw) (k:Int):Kw:=kws.filter λq=>decide (q.1≠k)
def E8 (kws:Kw):List Int:=kws.map (·.1)
inductive N5 (H:Hp):List (Key×V)->Kw->Prop
 | nil:N5 H [] []
 | cons {k:Int} {v:V} {w:Wy} {kvs:List (Key×V)} {kws:Kw}:ThV TT0 H v (K6 w)->N5 H kvs kws->N5 H ((Sum.inl k,v)::kvs) ((k,w)::kws)
theorem B5a {F G:Addr->Prop} {H H':Hp}:∀{xs:List Int} {us:List V},A9 F H us (xs.map PyData.int)->A9 G H' us (xs.map PyData.int)
 | [],_,h=>by cases h;exact .nil
 | x::xs,_,h=>by
  cases h with
  | cons y r=>cases y;exact .cons (.int _) (B5a r)
theorem A7x {F G:Addr->Prop} {H H':Hp} {v:V} {w:Wy} (t:ThV F H v (K6 w)) (s:∀b xs,H b=some (.tup xs)->H' b=some (.tup xs)) (g:∀b xs,H b=some (.tup xs)->G b):ThV G H' v (K6 w):=by
 obtain⟨a,us,rfl,_,e,tu⟩:=V5 (show ThV F H v (.tuple ([((w.1:Nat):Int),((w.2.1:Nat):Int),w.2.2].map PyData.int)) from t)
 exact .tup (g _ _ e) (s _ _ e) (B5a tu)
section
variable {H H':Hp} {kvs:List (Key×V)} {kws:Kw}
theorem N5.mv (h:N5 H kvs kws) (s:∀b xs,H b=some (.tup xs)->H' b=some (.tup xs)):N5 H' kvs kws:=by
 induction h with
 | nil=>exact .nil
 | cons t _ ih=>exact .cons (A7x t s λ_ _ _=>trivial) ih
theorem N5.len (h:N5 H kvs kws):kvs.length=kws.length:=by
 induction h with
 | nil=>rfl
 | cons _ _ ih=>rw[G6,G6,ih]
theorem N5.keys (h:N5 H kvs kws):kvs.map (·.1)=(E8 kws).map Sum.inl:=by
 induction h with
 | nil=>rfl
 | cons _ _ ih=>
  unfold E8 at ih ⊢
  rw[O9,O9,O9,ih]
theorem D2i {a b:Int}:((Sum.inl a:Key)=Sum.inl b)↔a=b:=⟨λh=>Sum.inl.inj h,λh=>by rw[h]⟩
theorem C0u (q:Int×Wy) (r:Kw) (k:Int):Q2 (q::r) k=if q.1=k then some q.2 else Q2 r k:=by
 unfold Q2
 rw[A6j]
 by_cases e:q.1=k
 ·rw[decide_eq_true e,if_pos e];rfl
 ·rw[decide_eq_false e,if_neg e]
theorem N5.val (h:N5 H kvs kws) (k:Int):(T3 kvs (Sum.inl k:Key)=none/\Q2 kws k=none)\/∃v w,T3 kvs (Sum.inl k:Key)=some v/\Q2 kws k=some w/\ThV TT0 H v (K6 w):=by
 induction h with
 | nil=>exact .inl ⟨rfl,rfl⟩
 | @cons k' v w kvs kws t _ ih=>
  rw[C0u]
  by_cases e:k'=k
  ·subst e
   rw[if_pos rfl,A7j (p:=((Sum.inl k':Key),v)) rfl]
   exact .inr ⟨v,w,rfl,rfl,t⟩
  ·rw[if_neg e,A7k (p:=((Sum.inl k':Key),v)) (λz=>e (Sum.inl.inj z))]
   exact ih
theorem N5.map (h:N5 H kvs kws) {k:Int} {v:V} {w:Wy} (t:ThV TT0 H v (K6 w)):N5 H (kvs.map λkv=>if kv.1=(Sum.inl k:Key) then (kv.1,v) else kv) (kws.map λq=>if q.1=k then (q.1,w) else q):=by
 induction h with
 | nil=>exact .nil
 | @cons k' v' w' kvs kws t' _ ih=>
  rw[O9,O9]
  by_cases e:k'=k
  ·rw[if_pos (show (Sum.inl k':Key)=Sum.inl k by rw[e]),if_pos (show k'=k from e)]
   exact .cons t ih
  ·rw[if_neg (show ¬ (Sum.inl k':Key)=Sum.inl k from λz=>e (Sum.inl.inj z)),if_neg (show ¬ k'=k from e)]
   exact .cons t' ih
theorem N5.snoc (h:N5 H kvs kws) {k:Int} {v:V} {w:Wy} (t:ThV TT0 H v (K6 w)):N5 H (kvs++[(Sum.inl k,v)]) (kws++[(k,w)]):=by
 induction h with
 | nil=>exact .cons t .nil
 | cons t' _ ih=>exact .cons t' ih
theorem N5.any (h:N5 H kvs kws) (k:Int):(kvs.any λkv=>decide (kv.1=(Sum.inl k:Key)))=(kws.any λq=>decide (q.1=k)):=by
 induction h with
 | nil=>rfl
 | cons _ _ ih=>
  rw[A2e,A2e,ih]
  congr 1
  exact decide_eq_decide.mpr D2i
theorem N5.put (h:N5 H kvs kws) {k:Int} {v:V} {w:Wy} (t:ThV TT0 H v (K6 w)):N5 H (S1 kvs (Sum.inl k:Key) v) (Y3 kws k w):=by
 unfold S1 Y3
 rw[h.any k]
 split
 ·exact h.map t
 ·exact h.snoc t
theorem N5.drop (h:N5 H kvs kws) (k:Int):N5 H (A08 kvs (Sum.inl k:Key)) (A54 kws k):=by
 unfold A08 A54
 induction h with
 | nil=>exact .nil
 | @cons k' v w kvs kws t _ ih=>
  by_cases e:k'=k
  ·rw[B52 (by simp [e]),B52 (by simp [e])]
   exact ih
  ·rw[B51 (by simp [e]),B51 (by simp [e])]
   exact .cons t ih
end
def srt (ns:List Int):List Int:=ns.mergeSort (λa b=>decide (a<=b))
theorem A0m (ns:List Int):(srt ns).Perm ns:=List.mergeSort_perm ns _
theorem D2j (ns:List Int):(srt ns).Pairwise (·<=·):=by
 have:=List.pairwise_mergeSort (le:=λa b:Int=>decide (a<=b)) (λa b c h1 h2=>by simp at *;lia) (λa b=>by simp;lia) ns
 exact this.imp λh=>by simpa using h
theorem B5b {ns ms:List Int} (p:ms.Perm ns) (h:ms.Pairwise (·<=·)):ms=srt ns:=(p.trans (A0m ns).symm).eq_of_pairwise (λa b _ _ h1 h2=>OO) h (D2j ns)
def wsF (kws:Kw):List Wy:=(srt (E8 kws)).map λk=>(Q2 kws k).getD (0,0,0)
structure B0k (m:Nat) (w:Wy):Prop where
 st:w.1 < m
 en:w.2.1 < m
 lo:-1000000000000000000<=w.2.2
 hi:w.2.2<=1000000000000000000
structure KOk (m:Nat) (st:Int) (g:Tb) (kws:Kw):Prop where
 m1:1<=m
 m2:m<=12
 s0:0<=st
 s1:st<=100000000000000000000
 gt:F7 m st g
 nd:(E8 kws).Nodup
 few:kws.length<=40
 way:∀q∈kws,(1<=q.1/\q.1<=1000000000000000000)/\B0k m q.2
theorem A7y {kws:Kw} {k:Int} {w:Wy} (h:Q2 kws k=some w):(k,w)∈kws:=by
 unfold Q2 at h
 cases e:kws.find? λq=>decide (q.1=k) with
 | none=>rw[e] at h;cases h
 | some q=>
  rw[e] at h
  cases h
  have h1:=List.find?_some e
  have h2:=List.mem_of_find?_eq_some e
  have h3:q.1=k:=by simpa using h1
  rw[<-h3];exact h2
theorem A55 {kws:Kw} {k:Int} (h:k∈E8 kws):∃w,Q2 kws k=some w:=by
 induction kws with
 | nil=>cases h
 | cons q r ih=>
  rw[C0u]
  by_cases e:q.1=k
  ·rw[if_pos e];exact⟨_,rfl⟩
  ·rw[if_neg e]
   rcases J1.mp (show k∈q.1::E8 r from h) with z | z
   ·exact absurd z.symm e
   ·exact ih z
theorem KOk.land {m:Nat} {st:Int} {g:Tb} {kws:Kw} (o:KOk m st g kws):J6 m (wsF kws):=by
 have key:∀w∈wsF kws,B0k m w:=λw hw=>by
  unfold wsF at hw
  obtain⟨k,hk,rfl⟩:=N0.mp hw
  obtain⟨w',hw'⟩:=A55 ((A0m _).mem_iff.mp hk)
  rw[hw']
  exact (o.way _ (A7y hw')).2
 refine⟨o.m1,o.m2,?_,λw hw=>(key w hw).st,λw hw=>(key w hw).en,λw hw=>(key w hw).lo,λw hw=>(key w hw).hi⟩
 unfold wsF
 rw[C1,(A0m _).length_eq]
 unfold E8
 rw[C1]
 exact o.few
def Y4 (m:Nat) (st:Int) (g:Tb) (kws:Kw) (low:Tb):Prop:=∃t,N4 m ((wsF kws).map T6) st (lkF st g) t/\low=lkF st t
theorem Y4.uniq {m:Nat} {st:Int} {g:Tb} {kws:Kw} {a b:Tb} (h:Y4 m st g kws a) (k:Y4 m st g kws b):a=b:=by
 obtain⟨t,h1,rfl⟩:=h
 obtain⟨u,h2,rfl⟩:=k
 rw[h1.uniq h2]
theorem Y4.tab {m:Nat} {st:Int} {g:Tb} {kws:Kw} {a:Tb} (h:Y4 m st g kws a):F7 m st a:=by
 obtain⟨t,h1,rfl⟩:=h
 exact B47 h1.tab
structure Kst where
 m:Nat
 st:Int
 g:Tb
 kws:Kw
 low:Tb
def kfs (m:Nat) (st:Int) (g d l:Addr):List (Str×V):=[("many",.int ((m:Nat):Int)),("full",.int st),("wanted",.ref g),("laid",.ref d),("lowest",.ref l)]
theorem B0l {m:Nat} {st:Int} {g d l:Addr}:(kfs m st g d l).lookup ("many" : Str)=some (.int ((m:Nat):Int)):=by with_unfolding_all rfl
theorem A7z {m:Nat} {st:Int} {g d l:Addr}:(kfs m st g d l).lookup ("full" : Str)=some (.int st):=by with_unfolding_all rfl
theorem B0m {m:Nat} {st:Int} {g d l:Addr}:(kfs m st g d l).lookup ("wanted" : Str)=some (.ref g):=by with_unfolding_all rfl
theorem o7 {m:Nat} {st:Int} {g d l:Addr}:(kfs m st g d l).lookup ("laid" : Str)=some (.ref d):=by with_unfolding_all rfl
theorem B0n {m:Nat} {st:Int} {g d l:Addr}:(kfs m st g d l).lookup ("lowest" : Str)=some (.ref l):=by with_unfolding_all rfl
theorem O7 {m:Nat} {st:Int} {g d l:Addr} {f:Str} (h:(f == "many" ||f == "full" ||f == "wanted" ||f == "laid" ||f == "lowest")=false):(kfs m st g d l).lookup f=none:=by
 simp only[Bool.or_eq_false_iff] at h
 obtain⟨⟨⟨⟨h1,h2⟩,h3⟩,h4⟩,h5⟩:=h
 unfold kfs
 rw[r8,h1,r8,h2,r8,h3,r8,h4,r8,h5]
 rfl
theorem D2k {m:Nat} {st:Int} {g d l l':Addr}:P4 "lowest" (.ref l') (kfs m st g d l)=kfs m st g d l':=by with_unfolding_all rfl
theorem D2l {m:Nat} {st st':Int} {g d l:Addr}:P4 "full" (.int st') (kfs m st g d l)=kfs m st' g d l:=by with_unfolding_all rfl
theorem D2m {m:Nat} {st:Int} {g g' d l:Addr}:P4 "wanted" (.ref g') (kfs m st g d l)=kfs m st g' d l:=by with_unfolding_all rfl
structure D1 (F:Addr->Prop) (C:Addr) (H:Hp) (p d:Addr) (k:Kst):Prop where
 ob:∃dx g l ug ul,H p=some (.ins C dx (kfs k.m k.st g d l))/\F g/\H g=some (.lst ug)/\A9 TT0 H ug (B8 k.g)/\F l/\H l=some (.lst ul)/\A9 TT0 H ul (B8 k.low)
 dc:∃kvs,H d=some (.dK kvs)/\N5 H kvs k.kws
theorem D1.mv {F G:Addr->Prop} {C:Addr} {H H':Hp} {p d:Addr} {k:Kst} (h:D1 F C H p d k) (s:∀b o,H b=some o->(∀xs,o=.lst xs->F b)->H' b=some o) (hF:∀b,F b->G b):D1 G C H' p d k:=by
 obtain⟨⟨dx,g,l,ug,ul,e1,g1,e2,t2,g3,e3,t3⟩,kvs,e4,kv⟩:=h
 refine⟨⟨dx,g,l,ug,ul,s _ _ e1 (λxs z=>by cases z),hF _ g1,s _ _ e2 (λ_ _=>g1),E6 t2,hF _ g3,s _ _ e3 (λ_ _=>g3),E6 t3⟩,kvs,s _ _ e4 (λxs z=>by cases z),kv.mv λb xs e=>s _ _ e (λ_ z=>by cases z)⟩
theorem C0v {t u:DS} {D:X1} {ρ:List Sl} (M:List Sl->Prop) (h1:t { D with nx:=M } ρ) (h2:∀ρ',M ρ'->Go (u D) ρ'):A0i (B2i t) u D ρ:=⟨M,h1,h2⟩
def D2n:DSp:=λds Q=>∃x:Int,ds=[.int x]/\1<=x/\x<=1000000000000000000/\Q (.bool true)
def D2o:DSp:=λds Q=>∃x:Int,ds=[.int x]/\-1000000000000000000<=x/\x<=1000000000000000000/\Q (.bool true)
def D2p:DSp:=λds Q=>∃(m:Nat) (w:Wy),ds=[.int (m:Nat),K6 w]/\B0k m w/\Q (.bool true)
def D2q:DSp:=λds Q=>∃x:Int,ds=[.int x]/\0<=x/\x<=100000000000000000000/\Q (.bool true)
def D2r:DSp:=λds Q=>∃st x:Int,ds=[.int st,.int x]/\0<=x/\x<=st/\Q (.bool true)
def D2s:DSp:=λds Q=>∃(t:Tb) (m:Nat) (st:Int),ds=[.int (m:Nat),.int st,.list (B8 t)]/\m<=900/\F7 m st t/\Q (.bool true)
theorem C0w {α:Type} (b:Bool):∀xs:List α,A3f (xs.map λ_=>PyData.bool b)=some (xs.map λ_=>b)
 | []=>rfl
 | x::xs=>by
  show (A3f (xs.map λ_=>PyData.bool b)).map (b::·)=_
  rw[C0w b xs];rfl
theorem C0x {α:Type}:∀xs:List α,(xs.map λ_=>true).all id=true
 | []=>rfl
 | x::xs=>by
  show (true&&(xs.map λ_=>true).all id)=true
  rw[C0x xs];rfl
theorem C0y {t:Tb} {o:Option Int} (h:o∈t):∃p,gt t p=o:=by
 obtain⟨p,hp,e⟩:=A6g.mp h
 exact⟨p,by unfold gt;rw[M9 hp,e];rfl⟩
theorem C0z (T:Txt K mg):C0 P w K mg base CX0 2 T.aO.a T.aO.d ["thing"] (spD [.sh] D2n):=by
 have aX:=@A7s P w K mg base T
 have aY:=T.ai.b
 refine G5 T.aO.F C9i rfl (λC cdv A outer s H E hr=>⟨_,(D9 (E9 (m9 (F1 (B3 aX (hr.mono DD) rfl T.ai.m T.ai.F.kp aY .nil A8 (B7 (A5 (pv 0)) F0 A1))) (d9 (A66 i8 i8 E3 (A5 (pv 0)) (K7 b7 A0c E3 E3)))))),λds Q hl h=>?_⟩)
 obtain⟨x,rfl,x0,x1,q⟩:=h
 left
 refine⟨_,rfl,?_⟩
 rw[show A1a (.int x)=true from rfl]
 left
 rw[decide_eq_true x0]
 left
 refine⟨⟨DD,DD,DD⟩,?_⟩
 rw[decide_eq_true (show x<=10 ^ (18:Int).toNat from B04 x1 DD)]
 exact q
theorem C00 (T:Txt K mg):C0 P w K mg base CX0 2 T.aF.a T.aF.d ["thing"] (spD [.sh] D2o):=by
 have aX:=@A7s P w K mg base T
 have aY:=T.ai.b
 refine G5 T.aF.F C8y rfl (λC cdv A outer s H E hr=>⟨_,(D9 (E9 (m9 (F1 (B3 aX (hr.mono DD) rfl T.ai.m T.ai.F.kp aY .nil A8 (B7 (A5 (pv 0)) F0 A1))) (d9 (A66 i8 i8 (A0b (K7 b7 A0c E3 E3)) (A5 (pv 0)) (K7 b7 A0c E3 E3)))))),λds Q hl h=>?_⟩)
 obtain⟨x,rfl,x0,x1,q⟩:=h
 left
 refine⟨_,rfl,?_⟩
 rw[show A1a (.int x)=true from rfl]
 left
 refine⟨⟨DD,DD,DD⟩,?_⟩
 rw[decide_eq_true (show -(10:Int) ^ (18:Int).toNat<=x from B04 DD x0)]
 left
 refine⟨⟨DD,DD,DD⟩,?_⟩
 rw[decide_eq_true (show x<=10 ^ (18:Int).toNat from B04 x1 DD)]
 exact q
theorem D2t (T:Txt K mg):C0 P w K mg base CX0 3 T.bW.a T.bW.d ["many", "thing"] (spD [.sh,.sh] D2p):=by
 have cG:=@B97 P w K mg base T
 have cH:=T.aC.b
 have de:=@C00 P w K mg base T
 have df:=T.aF.b
 refine G5 T.bW.F C8z rfl (λC cdv A outer s H E hr=>⟨_,(@M7 _ _ _ _ _ _ (@B2j _ _ _ _ (@T2 _ _ _ _ _ _ _ _ _ (PW.pt (@A2x _ _ _ _ _ _ _ _ (A62 (A2u (A9d C6m (J8 A83 rfl T.aG A1n (A2 (pv 1) (A2 (A1j (v:=V.ty "tuple") rfl T.dj A82 rfl) A4 A1) A1))))) (A43 (O3 (A1m (O0 hr)) A1p (A46 (J8 b8 rfl T.bC Z4 (A2 (pv 1) A4 A1))) E3 (D5 _))))) (D9 (E9 B70)) U5)) (@D9 _ _ _ _ (@E9 _ _ _ _ _ (@m9 _ _ _ _ _ _ _ _ (F1 (B3 cG (hr.mono DD) rfl T.aC.m T.aC.F.kp cH .nil A8 (B7 (A5 (pv 0)) (B7 (C7 (pv 1) (D3 (C9 (v:=V.int 0) rfl T.g_START.m ⟨_,rfl⟩)) (λ_ _=>rfl)) F0 A7) A1))) (@m9 _ _ _ _ _ _ _ _ (F1 (B3 cG (hr.mono DD) rfl T.aC.m T.aC.F.kp cH .nil A8 (B7 (A5 (pv 0)) (B7 (C7 (pv 1) (D3 (C9 (v:=V.int 1) rfl T.g_END.m ⟨_,rfl⟩)) (λ_ _=>rfl)) F0 A7) A1))) (d9 (F1 (B3 de (hr.mono DD) rfl T.aF.m T.aF.F.kp df .nil A8 (B7 (C7 (pv 1) (D3 (C9 (v:=V.int 2) rfl T.g_CHANGE.m ⟨_,rfl⟩)) (λ_ _=>rfl)) F0 A7))))))))),λds Q hl h=>?_⟩)
 obtain⟨m,w,rfl,ow,q⟩:=h
 refine C0v (fun ρ'=>ρ'=[Sl.sh (.int ((m:Nat):Int)),Sl.sh (K6 w)]) ?_ ?_
 ·right
  refine⟨rfl,rfl,A38 _ _,?_⟩
  exact D0 rfl
 rintro ρ rfl
 refine go ?_
 right
 have h1:=ow.st
 have h2:=ow.en
 refine⟨_,_,rfl,?_⟩
 rw[decide_eq_true (show (0:Int)<=((w.1:Nat):Int)/\((w.1:Nat):Int) < ((m:Nat):Int) by lia)]
 right
 refine⟨_,_,rfl,?_⟩
 rw[decide_eq_true (show (0:Int)<=((w.2.1:Nat):Int)/\((w.2.1:Nat):Int) < ((m:Nat):Int) by lia)]
 right
 exact⟨w.2.2,rfl,ow.lo,ow.hi,q⟩
theorem D2u (T:Txt K mg):C0 P w K mg base CX0 2 T.bD.a T.bD.d ["thing"] (spD [.sh] D2q):=by
 have aX:=@A7s P w K mg base T
 have aY:=T.ai.b
 refine G5 T.bD.F C8v rfl (λC cdv A outer s H E hr=>⟨_,(D9 (E9 (m9 (F1 (B3 aX (hr.mono DD) rfl T.ai.m T.ai.F.kp aY .nil A8 (B7 (A5 (pv 0)) F0 A1))) (d9 (A66 i8 i8 E3 (A5 (pv 0)) (K7 b7 A0c E3 E3)))))),λds Q hl h=>?_⟩)
 obtain⟨x,rfl,x0,x1,q⟩:=h
 left
 refine⟨_,rfl,?_⟩
 rw[show A1a (.int x)=true from rfl]
 left
 rw[decide_eq_true x0]
 left
 refine⟨⟨DD,DD,DD⟩,?_⟩
 rw[decide_eq_true (show x<=10 ^ (20:Int).toNat from B04 x1 DD)]
 exact q
theorem D2v (T:Txt K mg):C0 P w K mg base CX0 2 T.bE.a T.bE.d ["store", "thing"] (spD [.sh,.sh] D2r):=by
 have aX:=@A7s P w K mg base T
 have aY:=T.ai.b
 refine G5 T.bE.F C8w rfl (λC cdv A outer s H E hr=>⟨_,(D9 (E9 (m9 (F1 (B3 aX (hr.mono DD) rfl T.ai.m T.ai.F.kp aY .nil A8 (B7 (A5 (pv 1)) F0 A1))) (d9 (A66 i8 i8 E3 (A5 (pv 1)) (A5 (pv 0))))))),λds Q hl h=>?_⟩)
 obtain⟨st,x,rfl,x0,x1,q⟩:=h
 left
 refine⟨_,rfl,?_⟩
 rw[show A1a (.int x)=true from rfl]
 left
 rw[decide_eq_true x0]
 left
 rw[decide_eq_true x1]
 exact q
theorem C01 (T:Txt K mg):C0 P w K mg base CX0 3 T.aM.a T.aM.d ["many", "store", "thing"] (spD [.sh,.sh,.sh] D2s):=by
 have gf:=@D2v P w K mg base T
 have gh:=T.bE.b
 refine G5 T.aM.F C83 rfl (λC cdv A outer s H E hr=>⟨_,(@M7 _ _ _ _ _ _ (@B2j _ _ _ _ (@T2 _ _ _ _ _ _ _ _ _ (PW.pt (@A2x _ _ _ _ _ _ _ _ (A62 (A2u (A9d C6l (J8 A83 rfl T.aG A1n (A2 (pv 2) (A2 (A1j (v:=V.ty "list") rfl T.au R9 rfl) A4 A1) A1))))) (A43 (O3 (A1m (O0 hr)) A1p (A46 (J8 b8 rfl T.bC Z4 (A2 (pv 2) A4 A1))) (A5 (pv 0)) (D5 _))))) (D9 (E9 B70)) U5)) (@D9 _ _ _ _ (@E9 _ _ _ _ _ (@Z6 _ _ _ _ _ _ C6f (@J8 _ _ _ _ _ _ _ _ _ (C48 rfl) rfl T.ik C5a (@D8 _ _ _ _ _ _ (@L3 _ _ _ _ (@A10 _ _ _ _ _ _ _ _ rfl (@V4 _ _ _ _ _ _ _ _ _ _ _ _ _ _ _ (M2.new (N:=["many", "store", "thing"]) (osc:=B6 A9t) KK) rfl (A7b (pv 2)) (λ_=>A05) (λ_=>(B15 (m8 Z2 A0e (A5 (pv 3)) N2 (D5 _)) (d9 (F1 (B3 gf (hr.mono DD) rfl T.bE.m T.bE.F.kp gh .nil A8 (B7 (A5 (pv 1)) (B7 (A5 (pv 3)) F0 A1) A1)))))) (by rfl) (by rfl) (by intro _;rfl)))) G0 A2t) DD DD A2t A3))))),λds Q hl h=>?_⟩)
 obtain⟨t,m,st,rfl,hm,ht,q⟩:=h
 have hl:=ht.len
 refine C0v (fun ρ'=>ρ'=[Sl.sh (.int ((m:Nat):Int)),Sl.sh (.int st),Sl.sh (.list (B8 t))]) ?_ ?_
 ·right
  refine⟨rfl,rfl,A38 _ _,?_⟩
  rw[A39,Y2,hl,beq_self_eq_true]
  exact D0 rfl
 rintro ρ rfl
 refine go ?_
 array_mem_dec
 refine⟨⟨rfl,by rw[Y2];lia⟩,?_⟩
 unfold B8
 refine A06 (f:=λ_=>.bool true) (λo ho Q' q'=>?_) ?_
 ·cases o with
  | none=>
   right
   exact q'
  | some x=>
   obtain⟨p,hp⟩:=C0y ho
   obtain⟨b0,b1⟩:=ht.bd p x hp
   right
   exact⟨st,x,rfl,b0,b1,q'⟩
 ·rw[T9]
  unfold gBs
  left
  rw[C0w]
  left
  rw[C0x]
  exact q
theorem D1.same {F:Addr->Prop} {C:Addr} {H H':Hp} {p d:Addr} {k:Kst} (h:D1 F C H p d k) (s:Same H H'):D1 F C H' p d k:=h.mv (λb o e _=>s _ _ e) λ_ z=>z
def TL (H:Hp) (v:V) (b:Addr):Prop:=v=.ref b\/∃a xs,v=.ref a/\H a=some (.tup xs)/\V.ref b∈xs
def Apt (C:Addr) (H:Hp) (p d:Addr) (k:Kst) (v:V):Prop:=(∀a x y,v=.ref a->H a=some (.tup [.ref x,.ref y])->x≠y)/\D1 (λb=>¬ TL H v b) C H p d k
theorem D1.ex {F:Addr->Prop} {C:Addr} {H:Hp} {p d:Addr} {k:Kst} (h:D1 F C H p d k):D1 (λb=>∃xs,H b=some (.lst xs)) C H p d k:=by
 obtain⟨⟨dx,g,l,ug,ul,e1,g1,e2,t2,g3,e3,t3⟩,z⟩:=h
 exact⟨⟨dx,g,l,ug,ul,e1,⟨_,e2⟩,e2,t2,⟨_,e3⟩,e3,t3⟩,z⟩
theorem b3 {G G':Addr->Prop} {C:Addr} {H:Hp} {p d:Addr} {k:Kst} (h:D1 G C H p d k) (n:∀b xs,G b->H b=some (.lst xs)->G' b):D1 G' C H p d k:=by
 obtain⟨⟨dx,g,l,ug,ul,e1,g1,e2,t2,g3,e3,t3⟩,z⟩:=h
 exact⟨⟨dx,g,l,ug,ul,e1,n _ _ g1 e2,e2,t2,n _ _ g3 e3,e3,t3⟩,z⟩
section
variable {G:Addr->Prop} {C:Addr} {H H0:Hp} {p d:Addr} {k:Kst} {a:Addr}
theorem D2w {i:Int} (h:D1 G C H p d k):Apt C H p d k (.int i):=⟨(λa x y e _=>by cases e),b3 h λb xs _ _ z=>by
 rcases z with z | ⟨_,_,z,_⟩ <;> cases z⟩
theorem B5c {xs:List V} (h:D1 (λb=>∃xs,H0 b=some (.lst xs)) C H p d k) (n:H0 a=none) (e:H a=some (.lst xs)):Apt C H p d k (.ref a):=⟨(λb x y e1 e2=>by
 cases e1
 rw[e] at e2;cases e2),b3 h λb xs g _ z=>by
 obtain⟨ys,g⟩:=g
 rcases z with z | ⟨_,_,z,z2,_⟩
 ·cases z
  rw[n] at g;cases g
 ·cases z
  rw[e] at z2;cases z2⟩
theorem D2x {i:Int} {l:Addr} (h:D1 (λb=>∃xs,H0 b=some (.lst xs)) C H p d k) (n:H0 a=none) (n2:H0 l=none) (e:H a=some (.tup [.int i,.ref l])):Apt C H p d k (.ref a):=⟨(λb x y e1 e2=>by
 cases e1
 rw[e] at e2;cases e2),b3 h λb xs g _ z=>by
 obtain⟨ys,g⟩:=g
 rcases z with z | ⟨_,_,z,z2,z3⟩
 ·cases z
  rw[n] at g;cases g
 ·cases z
  rw[e] at z2;cases z2
  rcases J1.mp z3 with z | z
  ·cases z
  ·cases Y7.mp z
   rw[n2] at g;cases g⟩
theorem D2y {F:Addr->Prop} {v:V} {w:Wy} (h:D1 G C H p d k) (t:ThV F H v (K6 w)):Apt C H p d k v:=by
 obtain⟨a,us,rfl,_,e,tu⟩:=V5 (show ThV F H v (.tuple ([((w.1:Nat):Int),((w.2.1:Nat):Int),w.2.2].map PyData.int)) from t)
 have hu:∀{xs:List Int} {us:List V},A9 F H us (xs.map PyData.int)->∀b,V.ref b∉us:=λ{xs}=>by
  induction xs with
  | nil=>intro us t b z;cases t;cases z
  | cons x xs ih=>
   intro us t b z
   cases t with
   | cons y r=>
    cases y
    rcases J1.mp z with z | z
    ·cases z
    ·exact ih r b z
 refine⟨λb x y e1 e2=>?_,b3 h λb xs _ eb z=>?_⟩
 ·cases e1
  rw[e] at e2
  cases e2
  exact absurd D4 (hu tu x)
 ·rcases z with z | ⟨_,_,z,z2,z3⟩
  ·cases z
   rw[e] at eb;cases eb
  ·cases z
   rw[e] at z2;cases z2
   exact hu tu b z3
end
def g6 (C:Addr) (pre:Kst->List PyData->Prop) (post:Kst->List PyData->PyData->Kst->Prop):Sp:=λvs H Q _=>∃(F:Addr->Prop) (p d:Addr) (k:Kst) (us:List V) (ds:List PyData),vs=.ref p::us/\(∀b,H b=none->F b)/\D1 F C H p d k/\A9 TT0 H us ds/\pre k ds/\
 ∀r v k' H',post k ds r k'->D1 F C H' p d k'->ThV (F9 H) H' v r->(∀b o,H b=some o->b≠p->b≠d->H' b=some o)->Apt C H' p d k' v->Q v H'
def D2z (k:Kst) (ds:List PyData):Prop:=ds=[]/\(E8 k.kws).length < 64
def D20 (k:Kst) (_:List PyData) (r:PyData) (k':Kst):Prop:=r=G3 k.m (wsF k.kws)/\k'=k
def B5d (k:Kst) (ds:List PyData):Prop:=ds=[]
def D21 (k:Kst) (_:List PyData) (r:PyData) (k':Kst):Prop:=r=.list (B8 k.low)/\k'=k
def B0o (a b:Tb):PyData:=.tuple [.list (numL (A1e b a)),.list (numL (A1e a b))]
def A17 (k:Kst) (low:Tb) (r:PyData) (k':Kst):Prop:=∃b,Y4 k.m k.st k.g k.kws b/\r=B0o low b/\k'={ k with low:=b }
def D22 (k:Kst) (ds:List PyData):Prop:=ds=[]/\KOk k.m k.st k.g k.kws/\k.low.length=k.m
def D23 (k:Kst) (_:List PyData) (r:PyData) (k':Kst):Prop:=A17 k k.low r k'
theorem A70 (T:Txt K mg):C0 P w K mg base CX0 1 T.aH.a T.aH.d ["self"] (g6 T.ac D2z D20):=by
 refine T.aH.F.ok C9s (λvs H Q E h=>?_) (λcdv A outer s H vs Q E hr h=>?_)
 ·obtain⟨F,p,d,k,us,ds,rfl,_,_,tus,⟨rfl,_⟩,_⟩:=h
  cases tus;rfl
 ·obtain⟨F,p,d,k,us,ds,rfl,hF,kp,tus,⟨rfl,hk⟩,told⟩:=h
  cases tus
  have kp0:=kp
  obtain⟨⟨dx,g,l,ug,ul,e1,g1,e2,t2,g3,e3,t3⟩,kvs,e4,kv⟩:=kp
  refine⟨_,(C5 (F2 (Q0 (A2 (N6 (pv 0) rfl) (A2 (V4 (M2.new (N:=["self"]) (osc:=B6 A94) KK) rfl (Z0 (J8 (B22 rfl) rfl T.du B10 (A2 (N6 (pv 0) rfl) A4 K4))) (λ_=>d8) (λ_=>(A7m (u1 (O0 hr)) (N6 (pv 0) rfl) (pv 1) (λ_ _=>rfl)))) A4 A2t) K4)))),?_⟩
  refine⟨_,rfl,p,_,dx,_,_,rfl,e1,T.ae,T.cK,B0l,?_⟩
  refine⟨_,rfl,p,_,dx,_,_,rfl,e1,T.ae,T.bf,o7,d,kvs,_,rfl,e4,kv.keys,hk,λl1 ms hl1 hp hs=>?_⟩
  have ems:=B5b hp hs
  subst ems
  obtain⟨H1,hH1⟩:∃H1,H1=upd H l1 (.lst ((srt (E8 k.kws)).map V.int)):=⟨_,rfl⟩
  rw[<-hH1]
  have s1:Same H H1:=by rw[hH1];exact Same.upd hl1
  have el1:H1 l1=some (.lst ((srt (E8 k.kws)).map V.int)):=by rw[hH1];exact B2
  have lsr:(srt (E8 k.kws)).length < 64:=by rw[(A0m _).length_eq];exact hk
  refine⟨l1,rfl,⟨_,SqL.of el1⟩,?_⟩
  refine A0a (xs:=(srt (E8 k.kws)).map V.int) (λi ys Hn=>Hn=H1/\A9 (F9 H) H1 ys (((wsF k.kws).take i).map K6)) ?_ ⟨rfl,.nil⟩ ?_ ?_ ?_
  ·rw[C1,sizeLine_eq];lia
  ·rintro i ys Hn hi ⟨rfl,h2⟩
   refine⟨?_,SqL.of el1⟩
   rw[h2.len,C1,b4]
   lia
  ·rintro i x ys Hn hx ⟨rfl,h2⟩ ca
   rw[L8] at hx
   obtain⟨n,hn,rfl⟩:=A0v.mp hx
   obtain⟨w0,hw0⟩:=A55 ((A0m _).mem_iff.mp (Q9 hn))
   have hwi:(wsF k.kws)[i]?=some w0:=by
    unfold wsF
    rw[L8,hn,A2i,hw0];rfl
   rcases kv.val n with ⟨_,z⟩ | ⟨v0,w1,hv,hw1,tv⟩
   ·rw[hw0] at z;cases z
   rw[hw0] at hw1
   cases hw1
   unfold b9
   refine F5 ⟨_,rfl,p,_,dx,_,_,rfl,s1 _ _ e1,T.ae,T.bf,o7,_,rfl,d,v0,rfl,by rw[<-hv];exact V6.k (k:=Sum.inl n) (s1 _ _ e4),rfl,?_⟩
   rw[A2g,hwi,P2]
   exact h2.append (.cons (A7x tv (λb xs e=>s1 _ _ e) λb xs e=>.inr ⟨xs,e⟩) .nil)
  rintro ys Hn ⟨rfl,h2⟩ l2 hl2
  have lw:(wsF k.kws).length=(srt (E8 k.kws)).length:=by unfold wsF;rw[C1]
  rw[C1,<-lw,A2j] at h2
  refine⟨by show 2<=sizeLine;decide,λr hr'=>?_⟩
  have s2:Same Hn (upd Hn l2 (.lst ys)):=Same.upd hl2
  have s3:Same (upd Hn l2 (.lst ys)) _:=Same.upd (o:=.tup [.int ((k.m:Nat):Int),.ref l2]) hr'
  have s13:=(s1.tr s2).tr s3
  refine told _ _ k _ ⟨rfl,rfl⟩ (kp0.same s13) (.tup (.inl ((s1.tr s2).early hr')) B2 (.cons (.int _) (.cons (.lst (.inl (s1.early hl2)) (s3 _ _ B2) ((h2.keep s2).keep s3)) .nil))) (λb o e _ _=>s13 _ _ e) (D2x (kp0.ex.same s13) ((s1.tr s2).early hr') (s1.early hl2) B2)
theorem D24 (T:Txt K mg):C0 P w K mg base CX0 1 T.cg.a T.cg.d ["self"] (g6 T.ac B5d D21):=by
 refine T.cg.F.ok C9t (λvs H Q E h=>?_) (λcdv A outer s H vs Q E hr h=>?_)
 ·obtain⟨F,p,d,k,us,ds,rfl,_,_,tus,rfl,_⟩:=h
  cases tus;rfl
 ·obtain⟨F,p,d,k,us,ds,rfl,hF,kp,tus,rfl,told⟩:=h
  cases tus
  have kp0:=kp
  obtain⟨⟨dx,g,l,ug,ul,e1,g1,e2,t2,g3,e3,t3⟩,kvs,e4,kv⟩:=kp
  refine⟨_,(C5 (F2 (R8 W7 rfl T.au R9 (A2 (N6 (pv 0) rfl) A4 K4)))),?_⟩
  refine⟨_,rfl,p,_,dx,_,_,rfl,e1,T.ae,T.bO,B0n,l,ul,rfl,.inl (SqL.of e3),λl2 hl2=>?_⟩
  exact told _ _ k _ ⟨rfl,rfl⟩ (kp0.same (Same.upd hl2)) (.lst (.inl hl2) B2 (E6 t3)) (λb o e _ _=>Same.upd hl2 _ _ e) (B5c (kp0.ex.same (Same.upd hl2)) hl2 B2)
theorem F6 {F:Addr->Prop} {C:Addr} {H:Hp} {p d:Addr} {k:Kst} (h:D1 F C H p d k) {b:Addr} {xs:List V} (e:H b=some (.lst xs)):b≠p/\b≠d:=by
 obtain⟨⟨dx,g,l,ug,ul,e1,_⟩,kvs,e4,_⟩:=h
 exact⟨(λz=>by rw[z,e1] at e;cases e),λz=>by rw[z,e4] at e;cases e⟩
theorem O1 {F:Addr->Prop} {C:Addr} {H:Hp} {p d:Addr} {k:Kst} (h:D1 F C H p d k) {b:Addr} {xs:List V} (e:H b=some (.tup xs)):b≠p/\b≠d:=by
 obtain⟨⟨dx,g,l,ug,ul,e1,_⟩,kvs,e4,_⟩:=h
 exact⟨(λz=>by rw[z,e1] at e;cases e),λz=>by rw[z,e4] at e;cases e⟩
theorem A4b {F:Addr->Prop} {C:Addr} {H:Hp} {p d:Addr} {k:Kst} (h:D1 F C H p d k):p≠d/\H p≠none/\H d≠none:=by
 obtain⟨⟨dx,g,l,ug,ul,e1,_⟩,kvs,e4,_⟩:=h
 exact⟨(λz=>by rw[z,e4] at e1;cases e1),(λz=>by rw[z] at e1;cases e1),λz=>by rw[z] at e4;cases e4⟩
theorem A71 (T:Txt K mg):C0 P w K mg base CX0 10 T.aB.a T.aB.d ["self"] (g6 T.ac D22 D23):=by
 have bJ:=@A70 P w K mg base T
 have bK:=T.aH.b
 have eF:=@C0t P w K mg base T
 have eG:=T.bL.b
 have dq:=@D2h P w K mg base T
 have dr:=T.az.b
 refine T.aB.F.ok B90 (λvs H Q E h=>?_) (λcdv A outer s H vs Q E hr h=>?_)
 ·obtain⟨F,p,d,k,us,ds,rfl,_,_,tus,⟨rfl,_⟩,_⟩:=h
  cases tus;rfl
 ·obtain⟨F,p,d,k,us,ds,rfl,hF,kp,tus,⟨rfl,ok,hll⟩,told⟩:=h
  cases tus
  have kp0:=kp
  obtain⟨⟨dx,g,l,ug,ul,e1,g1,e2,t2,g3,e3,t3⟩,kvs,e4,kv⟩:=kp
  have fk:=ok.few
  have m2:=ok.m2
  have s1k:=ok.s1
  have lk:(E8 k.kws).length < 64:=by unfold E8;rw[C1];lia
  refine⟨_,(B5 (C2 (i:=1) B90.nd rfl (B9 rfl) (N6 (pv 0) rfl))
   (B5 (A1k (pv 0) (B3 eF (hr.mono DD) rfl (T.cA.trans T.bL.m) T.bL.F.kp eG .nil A8 (A2 (Z3 (pv 0) T.ae T.aH.m bJ (hr.mono DD) bK .nil A8) (A2 (N6 (pv 0) rfl) (A2 (N6 (pv 0) rfl) A4 K4) K4) D7)) rfl)
   (C5 (F2 (Q0 (A2 (B3 dq (hr.mono DD) rfl T.az.m T.az.F.kp dr .nil A8 (A2 (N6 (pv 0) rfl) (A2 (pv 1) A4 A1) K4)) (A2 (B3 dq (hr.mono DD) rfl T.az.m T.az.F.kp dr .nil A8 (A2 (pv 1) (A2 (N6 (pv 0) rfl) A4 K4) A1)) A4 D7) D7)))))),?_⟩
  try dsimp only[N1,Cx.nox]
  refine T7 λW hW=>?_
  refine⟨_,rfl,p,_,dx,_,_,rfl,e1,T.ae,T.bO,B0n,?_⟩
  refine C3 W hW λW hW=>?_
  refine⟨_,rfl,p,dx,_,rfl,e1,O7 KK,F,p,d,k,[],[],rfl,hF,kp0,.nil,⟨rfl,lk⟩,λr v k' H1 po kp1 tv fr _=>?_⟩
  obtain⟨rfl,rfl⟩:=po
  have kp1':=kp1
  obtain⟨⟨dx1,g',l',ug',ul',f1,gg1,f2,tt2,gg3,f3,tt3⟩,kvs',f4,kv'⟩:=kp1
  have n3:=F6 kp0 e3
  have e3':=fr _ _ e3 n3.1 n3.2
  refine⟨_,rfl,p,_,dx1,_,_,rfl,f1,T.ae,T.cc,A7z,_,rfl,p,_,dx1,_,_,rfl,f1,T.ae,T.bN,B0m,?_⟩
  refine⟨[G3 k'.m (wsF k'.kws),.int k'.st,.list (B8 k'.g)],(λd=>∃t,N4 k'.m ((wsF k'.kws).map T6) k'.st (lkF k'.st k'.g) t/\d=.list (B8 (lkF k'.st t))),.cons tv.any (.cons (.int _) (.cons (.lst trivial f2 tt2) .nil)),⟨k'.m,wsF k'.kws,k'.st,k'.g,rfl,ok.land,ok.s0,OO,ok.gt,λt ht=>⟨t,ht,rfl⟩⟩,λd' v2 H2 hd' t2' s2=>?_⟩
  obtain⟨t,ht,rfl⟩:=hd'
  obtain⟨ln,un,rfl,gn,en,tn⟩:=K8 t2'
  have lnn:H1 ln=none:=A1c s2 gn en
  refine⟨_,rfl,p,_,dx1,_,rfl,s2 _ _ f1,T.ae,T.bO,by show 5 < 1000;decide,?_⟩
  rw[D2k]
  obtain⟨H3,hH3⟩:∃H3,H3=upd H2 p (.ins T.ac dx1 (kfs k'.m k'.st g' d ln)):=⟨_,rfl⟩
  rw[<-hH3]
  have f3':∀b o,H2 b=some o->b≠p->H3 b=some o:=λb o e n=>by rw[hH3,B4 n];exact e
  have pd:=A4b kp1'
  have np:∀{b:Addr} {xs:List V},H2 b=some (.lst xs)->H3 b=some (.lst xs):=λ{b xs} e=>f3' _ _ e λz=>by rw[z,s2 _ _ f1] at e;cases e
  have lb:Y4 k'.m k'.st k'.g k'.kws (lkF k'.st t):=⟨t,ht,rfl⟩
  have kpF:D1 F T.ac H3 p d { k' with low:=lkF k'.st t }:=by
   refine⟨⟨dx1,g',ln,ug',un,by rw[hH3];exact B2,gg1,np (s2 _ _ f2),E6 tt2,hF _ ?_,np en,E6 tn⟩,kvs',f3' _ _ (s2 _ _ f4) pd.1.symm,kv'.mv λb xs e=>f3' _ _ (s2 _ _ e) (O1 kp1' e).1⟩
   cases z:H ln with
   | none=>rfl
   | some o=>
    by_cases c1:ln=p
    ·rw[c1,s2 _ _ f1] at en;cases en
    ·by_cases c2:ln=d
     ·rw[c2,s2 _ _ f4] at en;cases en
     ·rw[fr _ _ z c1 c2] at lnn;cases lnn
  have eH3p:H3 p=some (.ins T.ac dx1 (kfs k'.m k'.st g' d ln)):=by rw[hH3];exact B2
  have lt:=lb.tab.len
  subst hW
  refine⟨_,rfl,p,_,dx1,_,_,rfl,eH3p,T.ae,T.bO,B0n,_,rfl,[.list (B8 (lkF k'.st t)),.list (B8 k'.low)],(λd=>d=.list (numL (A1e (lkF k'.st t) k'.low))),.cons (.lst trivial (np en) (E6 tn)) (.cons (.lst trivial (np (s2 _ _ e3')) (E6 t3)) .nil),⟨_,_,rfl,by rw[lt,hll],OO,rfl⟩,λd' v4 H4 hd' t4 s4=>?_⟩
  subst hd'
  refine⟨_,rfl,_,rfl,p,_,dx1,_,_,rfl,s4 _ _ eH3p,T.ae,T.bO,B0n,[.list (B8 k'.low),.list (B8 (lkF k'.st t))],(λd=>d=.list (numL (A1e k'.low (lkF k'.st t)))),.cons (.lst trivial (s4 _ _ (np (s2 _ _ e3'))) (E6 t3)) (.cons (.lst trivial (s4 _ _ (np en)) (E6 tn)) .nil),⟨_,_,rfl,by rw[lt,hll],OO,rfl⟩,λd' v5 H5 hd' t5 s5=>?_⟩
  subst hd'
  refine⟨by show 2<=sizeLine;decide,λrr hrr=>?_⟩
  have s6:Same H5 (upd H5 rr (.tup [v4,v5])):=Same.upd hrr
  have s36:=(s4.tr s5).tr s6
  have fr3:∀b o,H b=some o->b≠p->b≠d->H3 b=some o:=λb o e n1 n2=>f3' _ _ (s2 _ _ (fr _ _ e n1 n2)) n1
  have new3:∀b,F9 H3 b->F9 H b:=λb hb=>by
   rcases hb with hb | ⟨xs,hb⟩
   ·cases z:H b with
    | none=>exact .inl z
    | some o=>
     by_cases c1:b=p
     ·rw[c1,eH3p] at hb;cases hb
     ·by_cases c2:b=d
      ·rw[c2,f3' _ _ (s2 _ _ f4) pd.1.symm] at hb;cases hb
      ·rw[fr3 _ _ z c1 c2] at hb;cases hb
   ·cases z:H b with
    | none=>exact .inl z
    | some o=>
     by_cases c1:b=p
     ·rw[c1,eH3p] at hb;cases hb
     ·by_cases c2:b=d
      ·rw[c2,f3' _ _ (s2 _ _ f4) pd.1.symm] at hb;cases hb
      ·have:=fr3 _ _ z c1 c2
       rw[hb] at this
       cases this
       exact .inr ⟨xs,z⟩
  refine told _ _ _ _ ⟨lkF k'.st t,lb,rfl,rfl⟩ (kpF.same s36) (.tup (new3 _ (.inl ((s4.tr s5).early hrr))) B2 (.cons (((t4.mv λb o z e=>⟨new3 _ z,e⟩).keep s5).keep s6) (.cons ((t5.mv λb o z e=>⟨new3 _ (C0r s4 z),e⟩).keep s6) .nil))) (λb o e n1 n2=>s36 _ _ (fr3 _ _ e n1 n2)) ⟨λa x y z1 z2=>?_,b3 (kpF.ex.same s36) λb xs g _ z=>?_⟩
  ·cases z1
   rw[B2] at z2
   cases z2
   obtain⟨_,_,ex,_,ex1,_⟩:=K8 t4
   cases ex
   obtain⟨_,_,ey,gy,ey1,_⟩:=K8 t5
   cases ey
   have:=A1c s5 gy ey1
   intro z
   rw[<-z,ex1] at this
   cases this
  ·obtain⟨ys,g⟩:=g
   rcases z with z | ⟨_,_,z,z2,z3⟩
   ·cases z
    rw[(s4.tr s5).early hrr] at g;cases g
   ·cases z
    rw[B2] at z2
    cases z2
    rcases J1.mp z3 with z | z
    ·obtain⟨_,_,ex,gx,ex1,_⟩:=K8 t4
     rw[<-z] at ex
     cases ex
     rw[A1c s4 gx ex1] at g;cases g
    ·have z:=Y7.mp z
     obtain⟨_,_,ey,gy,ey1,_⟩:=K8 t5
     rw[<-z] at ey
     cases ey
     have:=A1c s5 gy ey1
     rw[s4 _ _ g] at this;cases this
inductive L6
 | lay (x:Int) (w:Wy)
 | lift (x:Int)
 | turn (x c:Int)
 | refill (s:Int)
 | aim (g:Tb)
def L6.args:L6->List PyData
 | .lay x w=>[.int x,.int ((w.1:Nat):Int),.int ((w.2.1:Nat):Int),.int w.2.2]
 | .lift x=>[.int x]
 | .turn x c=>[.int x,.int c]
 | .refill s=>[.int s]
 | .aim g=>[.list (B8 g)]
def o8 (kws:Kw) (x c:Int):Wy:=(((Q2 kws x).getD (0,0,0)).1,((Q2 kws x).getD (0,0,0)).2.1,c)
def J3 (k:Kst):L6->Kst
 | .lay x w=>{ k with kws:=Y3 k.kws x w }
 | .lift x=>{ k with kws:=A54 k.kws x }
 | .turn x c=>{ k with kws:=Y3 k.kws x (o8 k.kws x c) }
 | .refill s=>{ k with st:=s }
 | .aim g=>{ k with g:=g }
def o9 (x:Int):Prop:=1<=x/\x<=1000000000000000000
def p5 (k:Kst):L6->Prop
 | .lay x w=>o9 x/\Q2 k.kws x=none/\B0k k.m w/\k.kws.length < 40
 | .lift x=>o9 x/\∃w,Q2 k.kws x=some w
 | .turn x c=>(o9 x/\∃w,Q2 k.kws x=some w)/\-1000000000000000000<=c/\c<=1000000000000000000
 | .refill s=>(0<=s/\s<=100000000000000000000)/\F7 k.m s k.g
 | .aim g=>F7 k.m k.st g
theorem C02 {kws:Kw} {x:Int} {w:Wy} (h:Q2 kws x=none):Y3 kws x w=kws++[(x,w)]:=by
 unfold Y3
 rw[if_neg]
 intro z
 rw[List.any_eq_true] at z
 obtain⟨q,hq,e⟩:=z
 have e:q.1=x:=by simpa using e
 obtain⟨w',hw'⟩:=A55 (kws:=kws) (k:=x) (by unfold E8;exact N0.mpr ⟨q,hq,e⟩)
 rw[h] at hw';cases hw'
theorem B0p {kws:Kw} {x:Int} {w w0:Wy} (h:Q2 kws x=some w0):Y3 kws x w=kws.map λq=>if q.1=x then (q.1,w) else q:=by
 unfold Y3
 rw[if_pos]
 rw[List.any_eq_true]
 exact⟨_,A7y h,by simp⟩
theorem D25 {kws:Kw} {x:Int} {w w0:Wy} (h:Q2 kws x=some w0):E8 (Y3 kws x w)=E8 kws:=by
 rw[B0p h]
 unfold E8
 rw[A0w]
 refine A6m λq _=>?_
 show (if q.1=x then (q.1,w) else q).1=q.1
 split <;> rfl
theorem A4c {k:Kst} (o:KOk k.m k.st k.g k.kws):∀{dd:L6},p5 k dd->KOk (J3 k dd).m (J3 k dd).st (J3 k dd).g (J3 k dd).kws
 | .lay x w,⟨lx,hn,hw,hl⟩=>by
  show KOk k.m k.st k.g (Y3 k.kws x w)
  rw[C02 hn]
  refine { o with nd:=?_,few:=by rw[P0,C2g];lia,way:=λq hq=>?_ }
  ·unfold E8
   rw[P2]
   refine A6l.mpr ⟨o.nd,by simp,λa ha b hb z=>?_⟩
   rw[Y7.mp (show b∈[x] from hb)] at z
   obtain⟨w',hw'⟩:=A55 (kws:=k.kws) (k:=x) (z▸ha)
   rw[hn] at hw';cases hw'
  ·rcases V8.mp hq with h | h
   ·exact o.way q h
   ·rw[Y7.mp h];exact⟨lx,hw⟩
 | .lift x,_=>by
  show KOk k.m k.st k.g (A54 k.kws x)
  unfold A54
  refine { o with nd:=?_,few:=T8 (A8a _ _) o.few,way:=λq hq=>o.way q (B0z.mp hq).1 }
  exact List.Nodup.sublist (List.Sublist.map _ List.filter_sublist) o.nd
 | .turn x c,⟨⟨lx,w0,hw0⟩,c0,c1⟩=>by
  show KOk k.m k.st k.g (Y3 k.kws x (o8 k.kws x c))
  have wo:=(o.way _ (A7y hw0)).2
  have ht:o8 k.kws x c=(w0.1,w0.2.1,c):=by unfold o8;rw[hw0];rfl
  refine { o with nd:=by rw[D25 hw0];exact o.nd,few:=?_,way:=λq hq=>?_ }
  ·rw[B0p hw0,C1];exact o.few
  ·rw[B0p hw0] at hq
   obtain⟨q',hq',rfl⟩:=N0.mp hq
   split
   ·rename_i e
    refine⟨(o.way q' hq').1,?_⟩
    rw[ht]
    exact⟨wo.st,wo.en,c0,c1⟩
   ·exact o.way q' hq'
 | .refill s,⟨⟨s0,s1⟩,ht⟩=>{ o with s0:=s0,s1:=s1,gt:=ht }
 | .aim g,ht=>{ o with gt:=ht }
def A72 (D:L6->Prop) (k:Kst) (ds:List PyData):Prop:=∃dd,D dd/\ds=dd.args/\KOk k.m k.st k.g k.kws/\k.low.length=k.m/\p5 k dd
def A73 (D:L6->Prop) (k:Kst) (ds:List PyData) (r:PyData) (k':Kst):Prop:=∃dd,D dd/\ds=dd.args/\A17 (J3 k dd) k.low r k'
abbrev A74 (dd:L6):Prop:=∃x w,dd=.lay x w
abbrev C03 (dd:L6):Prop:=∃x,dd=.lift x
abbrev C04 (dd:L6):Prop:=∃x c,dd=.turn x c
abbrev C05 (dd:L6):Prop:=∃s,dd=.refill s
abbrev C06 (dd:L6):Prop:=∃g,dd=.aim g
def D26 (k:Kst) (ds:List PyData):Prop:=∃x w,ds=[.int x]/\o9 x/\Q2 k.kws x=some w
def D27 (k:Kst) (ds:List PyData) (r:PyData) (k':Kst):Prop:=(∃x w,ds=[.int x]/\Q2 k.kws x=some w/\r=K6 w)/\k'=k
theorem Y5 {F:Addr->Prop} {H:Hp} {vs:List V} {d:PyData} (t:A9 F H vs [d]):∃v,vs=[v]/\ThV F H v d:=by
 cases t with
 | cons x t=>cases t;exact⟨_,rfl,x⟩
theorem D28 {F:Addr->Prop} {H:Hp} {vs:List V} {d1 d2 d3 d4:PyData} (t:A9 F H vs [d1,d2,d3,d4]):∃v1 v2 v3 v4,vs=[v1,v2,v3,v4]/\ThV F H v1 d1/\ThV F H v2 d2/\ThV F H v3 d3/\ThV F H v4 d4:=by
 cases t with
 | cons x1 t=>
 cases t with
 | cons x2 t=>
 obtain⟨v3,v4,rfl,t3,t4⟩:=Q1 t
 exact⟨_,_,v3,v4,rfl,x1,x2,t3,t4⟩
theorem C07 (T:Txt K mg):C0 P w K mg base CX0 3 T.bB.a T.bB.d ["self", "label"] (g6 T.ac D26 D27):=by
 have dv:=@C0z P w K mg base T
 have dw:=T.aO.b
 refine T.bB.F.ok C9p (λvs H Q E h=>?_) (λcdv A outer s H vs Q E hr h=>?_)
 ·obtain⟨F,p,d,k,us,ds,rfl,_,_,tus,⟨x,w,rfl,_⟩,_⟩:=h
  obtain⟨v,rfl,_⟩:=Y5 tus
  rfl
 ·obtain⟨F,p,d,k,us,ds,rfl,hF,kp,tus,⟨x,w0,rfl,lx,hw⟩,told⟩:=h
  obtain⟨v,rfl,tx⟩:=Y5 tus
  cases tx
  have kp0:=kp
  obtain⟨⟨dx,g,l,ug,ul,e1,g1,e2,t2,g3,e3,t3⟩,kvs,e4,kv⟩:=kp
  rcases kv.val x with ⟨_,z⟩ | ⟨v0,w1,hv,hw1,tv⟩
  ·rw[hw] at z;cases z
  rw[hw] at hw1
  cases hw1
  refine⟨_,(B5 (J0 (G4 (PW.pt (A6q (l3 (W3 (B3 dv (hr.mono DD) rfl T.aO.m T.aO.F.kp dw .nil A8 (A2 (pv 1) A4 A1)))) (A6o (B1a (C8f (u1 (O0 hr)) (pv 1) (N6 (pv 0) rfl))))))
   (C5 A01)
   G7))
   (C5 (F2 (A7m (u1 (O0 hr)) (N6 (pv 0) rfl) (pv 1) (λ_ _=>rfl))))),?_⟩
  refine⟨fun σ' H'=>σ'=[some (.ref p),some (.int x)]/\Same H H',?_,?_⟩
  ·refine⟨_,rfl,j7 (E:=E0) (λd=>d=.bool true) (.cons (.int _) .nil) ⟨x,rfl,lx.1,lx.2,rfl⟩ λd' v1 H1 hd t1 s1=>?_⟩
   subst hd
   cases t1
   refine⟨_,rfl,D0 ⟨_,rfl,_,rfl,p,_,dx,_,_,rfl,s1 _ _ e1,T.ae,T.bf,o7,d,_,rfl,V6.k (k:=Sum.inl x) (s1 _ _ e4),_,rfl,?_⟩⟩
   rw[hv]
   exact D0 ⟨rfl,s1⟩
  rintro σ' H1 ⟨rfl,s1⟩
  refine⟨_,rfl,p,_,dx,_,_,rfl,s1 _ _ e1,T.ae,T.bf,o7,_,rfl,d,v0,rfl,by rw[<-hv];exact V6.k (k:=Sum.inl x) (s1 _ _ e4),?_⟩
  exact told _ _ k _ ⟨⟨x,w0,rfl,hw,rfl⟩,rfl⟩ (kp0.same s1) (A7x tv (λb xs e=>s1 _ _ e) λb xs e=>.inr ⟨xs,e⟩) (λb o e _ _=>s1 _ _ e) (D2y (kp0.same s1) (A7x (G:=TT0) tv (λb xs e=>s1 _ _ e) λ_ _ _=>trivial))
theorem D29 (T:Txt K mg):C0 P w K mg base CX0 11 T.cL.a T.cL.d ["self", "label", "start", "end", "change"] (g6 T.ac (A72 A74) (A73 A74)):=by
 have dv:=@C0z P w K mg base T
 have dw:=T.aO.b
 have gX:=@D2t P w K mg base T
 have gY:=T.bW.b
 have bv:=@A71 P w K mg base T
 have bw:=T.aB.b
 refine T.cL.F.ok C9l (λvs H Q E h=>?_) (λcdv A outer s H vs Q E hr h=>?_)
 ·obtain⟨F,p,d,k,us,ds,rfl,_,_,tus,⟨dd,⟨x,w,rfl⟩,rfl,_⟩,_⟩:=h
  rw[G6,tus.len];rfl
 ·obtain⟨F,p,d,k,us,ds,rfl,hF,kp,tus,⟨dd,⟨x,w0,rfl⟩,rfl,ok,hll,dok⟩,told⟩:=h
  obtain⟨lx,hn,ow,hlen⟩:=id dok
  obtain⟨v1,v2,v3,v4,rfl,t1,t2',t3',t4⟩:=D28 tus
  cases t1
  cases t2'
  cases t3'
  cases t4
  have kp0:=kp
  obtain⟨⟨dx,g,l,ug,ul,e1,g1,e2,t2,g3,e3,t3⟩,kvs,e4,kv⟩:=kp
  have pd:=A4b kp0
  rcases kv.val x with ⟨hv,_⟩ | ⟨v0,w1,hv,hw1,tv⟩
  rotate_left
  ·rw[hn] at hw1;cases hw1
  refine⟨_,(B5 (J0 (G4 (l3 (W3 (B3 dv (hr.mono DD) rfl T.aO.m T.aO.F.kp dw .nil A8 (A2 (pv 1) A4 A1))))
   (C5 A01)
   G7))
   (B5 (J0 (G4 (B1a (B88 (u1 (O0 hr)) (pv 1) (N6 (pv 0) rfl)))
   (C5 A01)
   G7))
   (B5 (J0 (G4 (l3 (W3 (B3 gX (hr.mono DD) rfl T.bW.m T.bW.F.kp gY .nil A8 (A2 (N6 (pv 0) rfl) (A2 (Q0 (A2 (pv 2) (A2 (pv 3) (A2 (pv 4) A4 A1) A1) A1)) A4 X8) K4))))
   (C5 A01)
   G7))
   (B5 (J0 (G4 (J2 B1j (J8 C8q rfl T.bC Z4 (A2 (N6 (pv 0) rfl) A4 K4)) (C9 (v:=V.int 40) rfl T.g_MOST_WAYS.m ⟨_,rfl⟩) (D5 _))
   (C5 A01)
   G7))
   (B5 (A5t (u1 (O0 hr)) (N6 (pv 0) rfl) (pv 1) (Q0 (A2 (pv 2) (A2 (pv 3) (A2 (pv 4) A4 A1) A1) A1)) rfl)
   (C5 (F2 (Z3 (pv 0) T.ae T.aB.m bv (hr.mono DD) bw .nil A8)))))))),?_⟩
  try dsimp only[N1,Cx.nox]
  refine T7 λW hW=>?_
  refine⟨fun σ' H'=>σ'=[some (.ref p),some (.int x),some (.int ((w0.1:Nat):Int)),some (.int ((w0.2.1:Nat):Int)),some (.int w0.2.2)]/\Same H H',?_,?_⟩
  ·refine⟨_,rfl,j7 (E:=E0) (λd=>d=.bool true) (.cons (.int _) .nil) ⟨x,rfl,lx.1,lx.2,rfl⟩ λd' v1 H1 hd t1 s1=>?_⟩
   subst hd
   cases t1
   exact⟨_,rfl,D0 ⟨rfl,s1⟩⟩
  rintro σ' H1 ⟨rfl,s1⟩
  refine C3 W hW λW hW=>?_
  refine⟨fun σ' H'=>σ'=[some (.ref p),some (.int x),some (.int ((w0.1:Nat):Int)),some (.int ((w0.2.1:Nat):Int)),some (.int w0.2.2)]/\Same H H',?_,?_⟩
  ·refine⟨_,rfl,_,rfl,p,_,dx,_,_,rfl,s1 _ _ e1,T.ae,T.bf,o7,d,_,rfl,V6.k (k:=Sum.inl x) (s1 _ _ e4),_,rfl,?_⟩
   rw[hv]
   exact D0 ⟨rfl,s1⟩
  clear s1
  rintro σ' H1 ⟨rfl,s1⟩
  refine C3 W hW λW hW=>?_
  refine⟨fun σ' H'=>σ'=[some (.ref p),some (.int x),some (.int ((w0.1:Nat):Int)),some (.int ((w0.2.1:Nat):Int)),some (.int w0.2.2)]/\Same H H',?_,?_⟩
  ·refine⟨_,rfl,p,_,dx,_,_,rfl,s1 _ _ e1,T.ae,T.cK,B0l,_,rfl,_,rfl,_,rfl,by show 3<=sizeLine;decide,λt ht=>?_⟩
   have s2:=s1.tr (Same.upd (o:=.tup [.int ((w0.1:Nat):Int),.int ((w0.2.1:Nat):Int),.int w0.2.2]) ht)
   refine j7 (E:=E0) (λd=>d=.bool true) (.cons (.int _) (.cons (.tup trivial B2 (.cons (.int _) (.cons (.int _) (.cons (.int _) .nil)))) .nil)) ⟨k.m,w0,rfl,ow,rfl⟩ λd' v1 H3 hd t3 s3=>?_
   subst hd
   cases t3
   exact⟨_,rfl,D0 ⟨rfl,s2.tr s3⟩⟩
  clear s1
  rintro σ' H1 ⟨rfl,s1⟩
  refine C3 W hW λW hW=>?_
  refine⟨fun σ' H'=>σ'=[some (.ref p),some (.int x),some (.int ((w0.1:Nat):Int)),some (.int ((w0.2.1:Nat):Int)),some (.int w0.2.2)]/\Same H H',?_,?_⟩
  ·refine⟨_,rfl,p,_,dx,_,_,rfl,s1 _ _ e1,T.ae,T.bf,o7,d,kvs,rfl,s1 _ _ e4,_,_,rfl,rfl,_,rfl,?_⟩
   rw[kv.len,decide_eq_false (show ¬ (40:Int)<=((k.kws.length:Nat):Int) by lia)]
   exact D0 ⟨rfl,s1⟩
  clear s1
  rintro σ' H1 ⟨rfl,s1⟩
  refine C3 W hW λW hW=>?_
  refine⟨_,rfl,_,rfl,_,rfl,by show 3<=sizeLine;decide,λt ht=>?_⟩
  obtain⟨H2,hH2⟩:∃H2,H2=upd H1 t (.tup [.int ((w0.1:Nat):Int),.int ((w0.2.1:Nat):Int),.int w0.2.2]):=⟨_,rfl⟩
  rw[<-hH2]
  have s12:Same H1 H2:=by rw[hH2];exact Same.upd ht
  have s2:=s1.tr s12
  have tw:ThV TT0 H2 (.ref t) (K6 w0):=.tup trivial (by rw[hH2];exact B2) (.cons (.int _) (.cons (.int _) (.cons (.int _) .nil)))
  clear hH2
  refine⟨_,rfl,p,_,dx,_,_,rfl,s2 _ _ e1,T.ae,T.bf,o7,_,rfl,d,_,rfl,j5.k (k:=Sum.inl x) (s2 _ _ e4) (by rw[kv.len,sizeLine_eq];lia),?_⟩
  obtain⟨H3,hH3⟩:∃H3,H3=upd H2 d (.dK (S1 kvs (Sum.inl x:Key) (.ref t))):=⟨_,rfl⟩
  rw[<-hH3]
  have f3:∀b o,H2 b=some o->b≠d->H3 b=some o:=λb o e n=>by rw[hH3,B4 n];exact e
  have kp2:=kp0.same s2
  have kp3:D1 F T.ac H3 p d (J3 k (.lay x w0)):=by
   have nl:∀{b:Addr} {xs:List V},H2 b=some (.lst xs)->H3 b=some (.lst xs):=λe=>f3 _ _ e (F6 kp2 e).2
   exact⟨⟨dx,g,l,ug,ul,f3 _ _ (s2 _ _ e1) pd.1,g1,nl (s2 _ _ e2),E6 t2,g3,nl (s2 _ _ e3),E6 t3⟩,_,by rw[hH3];exact B2,((kv.mv λb xs e=>s2 _ _ e).put tw).mv λb xs e=>f3 _ _ e (O1 kp2 e).2⟩
  have e1':=f3 _ _ (s2 _ _ e1) pd.1
  have bk:∀b,H3 b=none->H b=none:=λb hb=>by
   cases z:H b with
   | none=>rfl
   | some o=>
    by_cases c:b=d
    ·rw[c,hH3,B2] at hb;cases hb
    ·rw[f3 _ _ (s2 _ _ z) c] at hb;cases hb
  subst hW
  refine⟨_,rfl,p,dx,_,rfl,e1',O7 KK,F,p,d,J3 k (.lay x w0),[],[],rfl,λb hb=>hF _ (bk b hb),kp3,.nil,⟨rfl,A4c ok dok,hll⟩,λr v k' H4 po kp4 tv fr ap=>?_⟩
  refine told r v k' H4 ⟨_,⟨x,w0,rfl⟩,rfl,po⟩ kp4 (tv.mv λb o z e=>⟨?_,e⟩) (λb o e n1 n2=>fr _ _ (f3 _ _ (s2 _ _ e) n2) n1 n2) ap
  rcases z with z | ⟨xs,z⟩
  ·exact .inl (bk b z)
  ·cases y:H b with
   | none=>exact .inl y
   | some o'=>
    by_cases c:b=d
    ·rw[c,hH3,B2] at z;cases z
    ·have:=f3 _ _ (s2 _ _ y) c
     rw[z] at this
     cases this
     exact .inr ⟨xs,y⟩
theorem A75 {H H3:Hp} {p d:Addr} {op od:HO} (hp:H3 p=some op) (hd:H3 d=some od) (f:∀b o,H b=some o->b≠p->b≠d->H3 b=some o) {b:Addr} (z:H3 b=none):H b=none:=by
 cases y:H b with
 | none=>rfl
 | some o=>
  by_cases c1:b=p
  ·rw[c1,hp] at z;cases z
  ·by_cases c2:b=d
   ·rw[c2,hd] at z;cases z
   ·rw[f _ _ y c1 c2] at z;cases z
theorem B0q {H H3:Hp} {C dx p d:Addr} {fs:List (Str×V)} {kvs:List (Key×V)} (hp:H3 p=some (.ins C dx fs)) (hd:H3 d=some (.dK kvs)) (f:∀b o,H b=some o->b≠p->b≠d->H3 b=some o) {b:Addr} (z:F9 H3 b):F9 H b:=by
 rcases z with z | ⟨xs,z⟩
 ·exact .inl (A75 hp hd f z)
 ·cases y:H b with
  | none=>exact .inl y
  | some o=>
   by_cases c1:b=p
   ·rw[c1,hp] at z;cases z
   ·by_cases c2:b=d
    ·rw[c2,hd] at z;cases z
    ·have:=f _ _ y c1 c2
     rw[z] at this
     cases this
     exact .inr ⟨xs,y⟩
theorem D3a (T:Txt K mg):C0 P w K mg base CX0 11 T.cm.a T.cm.d ["self", "label"] (g6 T.ac (A72 C03) (A73 C03)):=by
 have bv:=@A71 P w K mg base T
 have bw:=T.aB.b
 have dO:=@C07 P w K mg base T
 have dP:=T.bB.b
 refine T.cm.F.ok C9m (λvs H Q E h=>?_) (λcdv A outer s H vs Q E hr h=>?_)
 ·obtain⟨F,p,d,k,us,ds,rfl,_,_,tus,⟨dd,⟨x,rfl⟩,rfl,_⟩,_⟩:=h
  rw[G6,tus.len];rfl
 ·obtain⟨F,p,d,k,us,ds,rfl,hF,kp,tus,⟨dd,⟨x,rfl⟩,rfl,ok,hll,dok⟩,told⟩:=h
  obtain⟨lx,w0,hw⟩:=id dok
  obtain⟨v1,rfl,t1⟩:=Y5 tus
  cases t1
  have kp0:=kp
  obtain⟨⟨dx,g,l,ug,ul,e1,g1,e2,t2,g3,e3,t3⟩,kvs,e4,kv⟩:=kp
  have pd:=A4b kp0
  refine⟨_,(B5 (P8 (m5 (pv 0) T.ae T.bB.m dO (hr.mono DD) dP .nil A8 (A2 (pv 1) A4 A1) (hst:=A1)))
   (B5 (P8 (B9a (N6 (pv 0) rfl) (pv 1) ⟨rfl,rfl,rfl,rfl⟩))
   (C5 (F2 (Z3 (pv 0) T.ae T.aB.m bv (hr.mono DD) bw .nil A8))))),?_⟩
  try dsimp only[N1,Cx.nox]
  refine T7 λW hW=>?_
  refine⟨_,rfl,p,dx,_,rfl,e1,O7 KK,_,rfl,F,p,d,k,[.int x],[.int x],rfl,hF,kp0,.cons (.int _) .nil,⟨x,w0,rfl,lx,hw⟩,λr v k' H1 po kp1 tv fr _=>?_⟩
  obtain⟨_,rfl⟩:=po
  have kp1':=kp1
  obtain⟨⟨dx1,g',l',ug',ul',f1,gg1,f2,tt2,gg3,f3,tt3⟩,kvs',f4,kv'⟩:=kp1
  rcases kv'.val x with ⟨_,z⟩ | ⟨v0,w1,hv,hw1,tv'⟩
  ·rw[hw] at z;cases z
  refine C3 W hW λW hW=>?_
  refine⟨_,rfl,p,_,dx1,_,_,rfl,f1,T.ae,T.bf,o7,d,rfl,.inl ⟨kvs',.inl f4⟩,_,rfl,kvs',Sum.inl x,v0,f4,rfl,hv,?_⟩
  obtain⟨H3,hH3⟩:∃H3,H3=upd H1 d (.dK (A08 kvs' (Sum.inl x:Key))):=⟨_,rfl⟩
  rw[<-hH3]
  have h3:∀b o,H1 b=some o->b≠d->H3 b=some o:=λb o e n=>by rw[hH3,B4 n];exact e
  have ed:H3 d=some (.dK (A08 kvs' (Sum.inl x:Key))):=by rw[hH3];exact B2
  have kp3:D1 F T.ac H3 p d (J3 k' (.lift x)):=by
   have nl:∀{b:Addr} {xs:List V},H1 b=some (.lst xs)->H3 b=some (.lst xs):=λe=>h3 _ _ e (F6 kp1' e).2
   exact⟨⟨dx1,g',l',ug',ul',h3 _ _ f1 pd.1,gg1,nl f2,E6 tt2,gg3,nl f3,E6 tt3⟩,_,ed,(kv'.drop x).mv λb xs e=>h3 _ _ e (O1 kp1' e).2⟩
  have fH:∀b o,H b=some o->b≠p->b≠d->H3 b=some o:=λb o e n1 n2=>h3 _ _ (fr _ _ e n1 n2) n2
  have pH3:=h3 _ _ f1 pd.1
  have newF:∀b,F9 H3 b->F9 H b:=λb z=>B0q pH3 ed fH z
  have noF:∀b,H3 b=none->H b=none:=λb z=>A75 pH3 ed fH z
  subst hW
  refine⟨_,rfl,p,dx1,_,rfl,pH3,O7 KK,F,p,d,J3 k' (.lift x),[],[],rfl,λb hb=>hF _ (noF b hb),kp3,.nil,⟨rfl,A4c ok dok,hll⟩,λr v k2 H4 po kp4 tv fr4 ap=>?_⟩
  exact told r v k2 H4 ⟨_,⟨x,rfl⟩,rfl,po⟩ kp4 (tv.mv λb o z e=>⟨newF b z,e⟩) (λb o e n1 n2=>fr4 _ _ (fH _ _ e n1 n2) n1 n2) ap
theorem D3b (T:Txt K mg):C0 P w K mg base CX0 11 T.cp.a T.cp.d ["self", "label", "change"] (g6 T.ac (A72 C04) (A73 C04)):=by
 have de:=@C00 P w K mg base T
 have df:=T.aF.b
 have bv:=@A71 P w K mg base T
 have bw:=T.aB.b
 have dO:=@C07 P w K mg base T
 have dP:=T.bB.b
 refine T.cp.F.ok B9z (λvs H Q E h=>?_) (λcdv A outer s H vs Q E hr h=>?_)
 ·obtain⟨F,p,d,k,us,ds,rfl,_,_,tus,⟨dd,⟨x,c,rfl⟩,rfl,_⟩,_⟩:=h
  rw[G6,tus.len];rfl
 ·obtain⟨F,p,d,k,us,ds,rfl,hF,kp,tus,⟨dd,⟨x,c,rfl⟩,rfl,ok,hll,dok⟩,told⟩:=h
  obtain⟨⟨lx,w0,hw⟩,c0,c1⟩:=id dok
  obtain⟨v1,v2,rfl,t1,t2'⟩:=Q1 tus
  cases t1
  cases t2'
  have kp0:=kp
  obtain⟨⟨dx,g,l,ug,ul,e1,g1,e2,t2,g3,e3,t3⟩,kvs,e4,kv⟩:=kp
  have pd:=A4b kp0
  refine⟨_,(B5 (C2 (i:=3) B9z.nd rfl (B9 rfl) (m5 (pv 0) T.ae T.bB.m dO (hr.mono DD) dP .nil A8 (A2 (pv 1) A4 A1) (hst:=A1)))
   (B5 (J0 (G4 (l3 (W3 (B3 de (hr.mono DD) rfl T.aF.m T.aF.F.kp df .nil A8 (A2 (pv 2) A4 A1))))
   (C5 A01)
   G7))
   (B5 (A5t (u1 (O0 hr)) (N6 (pv 0) rfl) (pv 1) (Q0 (A2 (C6 X6 (pv 3) (C9 (v:=V.int 0) rfl T.g_START.m ⟨_,rfl⟩) (λ_ _=>rfl)) (A2 (C6 X6 (pv 3) (C9 (v:=V.int 1) rfl T.g_END.m ⟨_,rfl⟩) (λ_ _=>rfl)) (A2 (pv 2) A4 A1) A7) A7)) rfl)
   (C5 (F2 (Z3 (pv 0) T.ae T.aB.m bv (hr.mono DD) bw .nil A8)))))),?_⟩
  try dsimp only[N1,Cx.nox]
  refine T7 λW hW=>?_
  refine⟨_,rfl,p,dx,_,rfl,e1,O7 KK,_,rfl,F,p,d,k,[.int x],[.int x],rfl,hF,kp0,.cons (.int _) .nil,⟨x,w0,rfl,lx,hw⟩,λr v k' H1 po kp1 tv fr _=>?_⟩
  obtain⟨⟨x',w0',ex,hw',rfl⟩,rfl⟩:=po
  cases ex
  rw[hw] at hw'
  cases hw'
  obtain⟨tw,utw,rfl,gtw,etw,ttw⟩:=V5 (show ThV (F9 H) H1 v (.tuple ([((w0.1:Nat):Int),((w0.2.1:Nat):Int),w0.2.2].map PyData.int)) from tv)
  cases ttw with
  | @cons y1 _ _ _ ty1 ttw=>
  cases ttw with
  | @cons y2 _ _ _ ty2 ttw=>
  cases ttw with
  | @cons y3 _ _ _ ty3 ttw=>
  cases ttw
  cases ty1
  cases ty2
  cases ty3
  have kp1':=kp1
  obtain⟨⟨dx1,g',l',ug',ul',f1,gg1,f2,tt2,gg3,f3,tt3⟩,kvs',f4,kv'⟩:=kp1
  refine C3 W hW λW hW=>?_
  refine⟨fun σ' H'=>σ'=[some (.ref p),some (.int x),some (.int c),some (.ref tw)]/\Same H1 H',?_,?_⟩
  ·refine⟨_,rfl,j7 (E:=E0) (λd=>d=.bool true) (.cons (.int _) .nil) ⟨c,rfl,c0,c1,rfl⟩ λd' v1 H2 hd t1 s1=>?_⟩
   subst hd
   cases t1
   exact⟨_,rfl,D0 ⟨rfl,s1⟩⟩
  rintro σ' H2 ⟨rfl,s2⟩
  refine C3 W hW λW hW=>?_
  refine⟨_,rfl,.inr (.inl ⟨tw,_,0,_,rfl,rfl,SqT.of (s2 _ _ etw),rfl,_,rfl,.inr (.inl ⟨tw,_,1,_,rfl,rfl,SqT.of (s2 _ _ etw),rfl,_,rfl,by show 3<=sizeLine;decide,λt ht=>?_⟩)⟩)⟩
  obtain⟨H2',hH2⟩:∃H2',H2'=upd H2 t (.tup [.int ((w0.1:Nat):Int),.int ((w0.2.1:Nat):Int),.int c]):=⟨_,rfl⟩
  rw[<-hH2]
  have s12:Same H1 H2':=s2.tr (by rw[hH2];exact Same.upd ht)
  have etr:o8 k'.kws x c=(w0.1,w0.2.1,c):=by unfold o8;rw[hw];rfl
  have twD:ThV TT0 H2' (.ref t) (K6 (o8 k'.kws x c)):=by
   rw[etr]
   exact .tup trivial (by rw[hH2];exact B2) (.cons (.int _) (.cons (.int _) (.cons (.int _) .nil)))
  clear hH2
  refine⟨_,rfl,p,_,dx1,_,_,rfl,s12 _ _ f1,T.ae,T.bf,o7,_,rfl,d,_,rfl,j5.k (k:=Sum.inl x) (s12 _ _ f4) (by rw[kv'.len,sizeLine_eq];have:=ok.few;lia),?_⟩
  obtain⟨H3,hH3⟩:∃H3,H3=upd H2' d (.dK (S1 kvs' (Sum.inl x:Key) (.ref t))):=⟨_,rfl⟩
  rw[<-hH3]
  have h3:∀b o,H2' b=some o->b≠d->H3 b=some o:=λb o e n=>by rw[hH3,B4 n];exact e
  have ed:H3 d=some (.dK (S1 kvs' (Sum.inl x:Key) (.ref t))):=by rw[hH3];exact B2
  have kp2:=kp1'.same s12
  have kp3:D1 F T.ac H3 p d (J3 k' (.turn x c)):=by
   have nl:∀{b:Addr} {xs:List V},H2' b=some (.lst xs)->H3 b=some (.lst xs):=λe=>h3 _ _ e (F6 kp2 e).2
   exact⟨⟨dx1,g',l',ug',ul',h3 _ _ (s12 _ _ f1) pd.1,gg1,nl (s12 _ _ f2),E6 tt2,gg3,nl (s12 _ _ f3),E6 tt3⟩,_,ed,((kv'.mv λb xs e=>s12 _ _ e).put twD).mv λb xs e=>h3 _ _ e (O1 kp2 e).2⟩
  have fH:∀b o,H b=some o->b≠p->b≠d->H3 b=some o:=λb o e n1 n2=>h3 _ _ (s12 _ _ (fr _ _ e n1 n2)) n2
  have pH3:=h3 _ _ (s12 _ _ f1) pd.1
  have newF:∀b,F9 H3 b->F9 H b:=λb z=>B0q pH3 ed fH z
  have noF:∀b,H3 b=none->H b=none:=λb z=>A75 pH3 ed fH z
  subst hW
  refine⟨_,rfl,p,dx1,_,rfl,pH3,O7 KK,F,p,d,J3 k' (.turn x c),[],[],rfl,λb hb=>hF _ (noF b hb),kp3,.nil,⟨rfl,A4c ok dok,hll⟩,λr v k2 H4 po kp4 tv fr4 ap=>?_⟩
  exact told r v k2 H4 ⟨_,⟨x,c,rfl⟩,rfl,po⟩ kp4 (tv.mv λb o z e=>⟨newF b z,e⟩) (λb o e n1 n2=>fr4 _ _ (fH _ _ e n1 n2) n1 n2) ap
theorem D3c (T:Txt K mg):C0 P w K mg base CX0 11 T.bS.a T.bS.d ["self", "store"] (g6 T.ac (A72 C05) (A73 C05)):=by
 have gi:=@D2u P w K mg base T
 have gj:=T.bD.b
 have dy:=@C01 P w K mg base T
 have dz:=T.aM.b
 have bv:=@A71 P w K mg base T
 have bw:=T.aB.b
 refine T.bS.F.ok C9n (λvs H Q E h=>?_) (λcdv A outer s H vs Q E hr h=>?_)
 ·obtain⟨F,p,d,k,us,ds,rfl,_,_,tus,⟨dd,⟨x,rfl⟩,rfl,_⟩,_⟩:=h
  rw[G6,tus.len];rfl
 ·obtain⟨F,p,d,k,us,ds,rfl,hF,kp,tus,⟨dd,⟨x,rfl⟩,rfl,ok,hll,dok⟩,told⟩:=h
  obtain⟨⟨x0,x1⟩,htab⟩:=id dok
  obtain⟨v1,rfl,t1⟩:=Y5 tus
  cases t1
  have m2:=ok.m2
  have kp0:=kp
  obtain⟨⟨dx,g,l,ug,ul,e1,g1,e2,t2,g3,e3,t3⟩,kvs,e4,kv⟩:=kp
  have pd:=A4b kp0
  refine⟨_,(B5 (J0 (G4 (PW.pt (A6q (l3 (W3 (B3 gi (hr.mono DD) rfl T.bD.m T.bD.F.kp gj .nil A8 (A2 (pv 1) A4 A1)))) (A6o (l3 (W3 (B3 dy (hr.mono DD) rfl T.aM.m T.aM.F.kp dz .nil A8 (A2 (N6 (pv 0) rfl) (A2 (pv 1) (A2 (N6 (pv 0) rfl) A4 K4) A1) K4)))))))
   (C5 A01)
   G7))
   (B5 (A1k (pv 0) (pv 1) rfl)
   (C5 (F2 (Z3 (pv 0) T.ae T.aB.m bv (hr.mono DD) bw .nil A8))))),?_⟩
  try dsimp only[N1,Cx.nox]
  refine T7 λW hW=>?_
  refine⟨fun σ' H'=>σ'=[some (.ref p),some (.int x)]/\Same H H',?_,?_⟩
  ·refine⟨_,rfl,j7 (E:=E0) (λd=>d=.bool true) (.cons (.int _) .nil) ⟨x,rfl,x0,x1,rfl⟩ λd' v1 H1 hd t1 s1=>?_⟩
   subst hd
   cases t1
   refine⟨_,rfl,D0 ⟨_,rfl,p,_,dx,_,_,rfl,s1 _ _ e1,T.ae,T.cK,B0l,_,rfl,_,rfl,p,_,dx,_,_,rfl,s1 _ _ e1,T.ae,T.bN,B0m,j7 (E:=E0) (λd=>d=.bool true) (.cons (.int _) (.cons (.int _) (.cons (.lst trivial (s1 _ _ e2) (E6 t2)) .nil))) ⟨k.g,k.m,x,rfl,OO,htab,rfl⟩ λd' v1 H2 hd t1 s2=>?_⟩⟩
   subst hd
   cases t1
   exact⟨_,rfl,D0 ⟨rfl,s1.tr s2⟩⟩
  rintro σ' H1 ⟨rfl,s1⟩
  refine C3 W hW λW hW=>?_
  refine⟨_,rfl,_,rfl,p,_,dx,_,rfl,s1 _ _ e1,T.ae,T.cc,by show 5 < 1000;decide,?_⟩
  rw[D2l]
  obtain⟨H3,hH3⟩:∃H3,H3=upd H1 p (.ins T.ac dx (kfs k.m x g d l)):=⟨_,rfl⟩
  rw[<-hH3]
  have h3:∀b o,H1 b=some o->b≠p->H3 b=some o:=λb o e n=>by rw[hH3,B4 n];exact e
  have pH3:H3 p=some (.ins T.ac dx (kfs k.m x g d l)):=by rw[hH3];exact B2
  have kp1:=kp0.same s1
  have ed:=h3 _ _ (s1 _ _ e4) pd.1.symm
  have kp3:D1 F T.ac H3 p d (J3 k (.refill x)):=by
   have nl:∀{b:Addr} {xs:List V},H1 b=some (.lst xs)->H3 b=some (.lst xs):=λe=>h3 _ _ e (F6 kp1 e).1
   exact⟨⟨dx,g,l,ug,ul,pH3,g1,nl (s1 _ _ e2),E6 t2,g3,nl (s1 _ _ e3),E6 t3⟩,_,ed,kv.mv λb xs e=>h3 _ _ (s1 _ _ e) (O1 kp1 (s1 _ _ e)).1⟩
  have fH:∀b o,H b=some o->b≠p->b≠d->H3 b=some o:=λb o e n1 n2=>h3 _ _ (s1 _ _ e) n1
  have newF:∀b,F9 H3 b->F9 H b:=λb z=>B0q pH3 ed fH z
  have noF:∀b,H3 b=none->H b=none:=λb z=>A75 pH3 ed fH z
  subst hW
  refine⟨_,rfl,p,dx,_,rfl,pH3,O7 KK,F,p,d,J3 k (.refill x),[],[],rfl,λb hb=>hF _ (noF b hb),kp3,.nil,⟨rfl,A4c ok dok,hll⟩,λr v k2 H4 po kp4 tv fr4 ap=>?_⟩
  exact told r v k2 H4 ⟨_,⟨x,rfl⟩,rfl,po⟩ kp4 (tv.mv λb o z e=>⟨newF b z,e⟩) (λb o e n1 n2=>fr4 _ _ (fH _ _ e n1 n2) n1 n2) ap
theorem D3d (T:Txt K mg):C0 P w K mg base CX0 11 T.cM.a T.cM.d ["self", "goal"] (g6 T.ac (A72 C06) (A73 C06)):=by
 have dy:=@C01 P w K mg base T
 have dz:=T.aM.b
 have bv:=@A71 P w K mg base T
 have bw:=T.aB.b
 refine T.cM.F.ok C9o (λvs H Q E h=>?_) (λcdv A outer s H vs Q E hr h=>?_)
 ·obtain⟨F,p,d,k,us,ds,rfl,_,_,tus,⟨dd,⟨x,rfl⟩,rfl,_⟩,_⟩:=h
  rw[G6,tus.len];rfl
 ·obtain⟨F,p,d,k,us,ds,rfl,hF,kp,tus,⟨dd,⟨x,rfl⟩,rfl,ok,hll,dok⟩,told⟩:=h
  have htab:F7 k.m k.st x:=dok
  obtain⟨v1,rfl,t1⟩:=Y5 tus
  obtain⟨ag,uag,rfl,_,eag,tag⟩:=K8 t1
  have m2:=ok.m2
  have kp0:=kp
  obtain⟨⟨dx,g,l,ug,ul,e1,g1,e2,t2,g3,e3,t3⟩,kvs,e4,kv⟩:=kp
  have pd:=A4b kp0
  refine⟨_,(B5 (J0 (G4 (l3 (W3 (B3 dy (hr.mono DD) rfl T.aM.m T.aM.F.kp dz .nil A8 (A2 (N6 (pv 0) rfl) (A2 (N6 (pv 0) rfl) (A2 (pv 1) A4 A1) K4) K4))))
   (C5 A01)
   G7))
   (B5 (A1k (pv 0) (R8 W7 rfl T.au R9 (A2 (pv 1) A4 A1)) rfl)
   (C5 (F2 (Z3 (pv 0) T.ae T.aB.m bv (hr.mono DD) bw .nil A8))))),?_⟩
  try dsimp only[N1,Cx.nox]
  refine T7 λW hW=>?_
  refine⟨fun σ' H'=>σ'=[some (.ref p),some (.ref ag)]/\Same H H',?_,?_⟩
  ·refine⟨_,rfl,p,_,dx,_,_,rfl,e1,T.ae,T.cK,B0l,_,rfl,p,_,dx,_,_,rfl,e1,T.ae,T.cc,A7z,_,rfl,j7 (E:=E0) (λd=>d=.bool true) (.cons (.int _) (.cons (.int _) (.cons (.lst trivial eag tag) .nil))) ⟨x,k.m,k.st,rfl,OO,htab,rfl⟩ λd' v1 H2 hd t1 s2=>?_⟩
   subst hd
   cases t1
   exact⟨_,rfl,D0 ⟨rfl,s2⟩⟩
  rintro σ' H1 ⟨rfl,s1⟩
  refine C3 W hW λW hW=>?_
  refine⟨_,rfl,ag,uag,rfl,.inl (SqL.of (s1 _ _ eag)),λln hln=>?_⟩
  obtain⟨H2,hH2⟩:∃H2,H2=upd H1 ln (.lst uag):=⟨_,rfl⟩
  rw[<-hH2]
  have s2:Same H H2:=s1.tr (by rw[hH2];exact Same.upd hln)
  have eln:H2 ln=some (.lst uag):=by rw[hH2];exact B2
  clear hH2
  refine⟨_,rfl,p,_,dx,_,rfl,s2 _ _ e1,T.ae,T.bN,by show 5 < 1000;decide,?_⟩
  rw[D2m]
  obtain⟨H3,hH3⟩:∃H3,H3=upd H2 p (.ins T.ac dx (kfs k.m k.st ln d l)):=⟨_,rfl⟩
  rw[<-hH3]
  have h3:∀b o,H2 b=some o->b≠p->H3 b=some o:=λb o e n=>by rw[hH3,B4 n];exact e
  have pH3:H3 p=some (.ins T.ac dx (kfs k.m k.st ln d l)):=by rw[hH3];exact B2
  have kp2:=kp0.same s2
  have ed:=h3 _ _ (s2 _ _ e4) pd.1.symm
  have kp3:D1 F T.ac H3 p d (J3 k (.aim x)):=by
   have nl:∀{b:Addr} {xs:List V},H2 b=some (.lst xs)->H3 b=some (.lst xs):=λe=>h3 _ _ e (F6 kp2 e).1
   exact⟨⟨dx,ln,l,uag,ul,pH3,hF _ (s1.early hln),nl eln,E6 tag,g3,nl (s2 _ _ e3),E6 t3⟩,_,ed,kv.mv λb xs e=>h3 _ _ (s2 _ _ e) (O1 kp2 (s2 _ _ e)).1⟩
  have fH:∀b o,H b=some o->b≠p->b≠d->H3 b=some o:=λb o e n1 n2=>h3 _ _ (s2 _ _ e) n1
  have newF:∀b,F9 H3 b->F9 H b:=λb z=>B0q pH3 ed fH z
  have noF:∀b,H3 b=none->H b=none:=λb z=>A75 pH3 ed fH z
  subst hW
  refine⟨_,rfl,p,dx,_,rfl,pH3,O7 KK,F,p,d,J3 k (.aim x),[],[],rfl,λb hb=>hF _ (noF b hb),kp3,.nil,⟨rfl,A4c ok dok,hll⟩,λr v k2 H4 po kp4 tv fr4 ap=>?_⟩
  exact told r v k2 H4 ⟨_,⟨x,rfl⟩,rfl,po⟩ kp4 (tv.mv λb o z e=>⟨newF b z,e⟩) (λb o e n1 n2=>fr4 _ _ (fH _ _ e n1 n2) n1 n2) ap
def D3e (C:Addr):Sp:=λvs H Q _=>∃(p dx:Addr) (m:Nat) (st:Int) (g:Tb) (vg:V),vs=[.ref p,.int ((m:Nat):Int),.int st,vg]/\H p=some (.ins C dx [])/\ThV TT0 H vg (.list (B8 g))/\KOk m st g []/\
 ∀d low H',Y4 m st g [] low->H d=none->D1 (λb=>H b=none) C H' p d ⟨m,st,g,[],low⟩->(∀b o,H b=some o->b≠p->H' b=some o)->Q .non H'
def kf1 (m:Nat):List (Str×V):=[("many",.int ((m:Nat):Int))]
def kf2 (m:Nat) (st:Int):List (Str×V):=[("many",.int ((m:Nat):Int)),("full",.int st)]
def kf3 (m:Nat) (st:Int) (g:Addr):List (Str×V):=[("many",.int ((m:Nat):Int)),("full",.int st),("wanted",.ref g)]
def kf4 (m:Nat) (st:Int) (g d:Addr):List (Str×V):=[("many",.int ((m:Nat):Int)),("full",.int st),("wanted",.ref g),("laid",.ref d)]
theorem D3f {m:Nat}:P4 "many" (.int ((m:Nat):Int)) []=kf1 m:=rfl
theorem D3g {m:Nat} {st:Int}:P4 "full" (.int st) (kf1 m)=kf2 m st:=by with_unfolding_all rfl
theorem D3h {m:Nat} {st:Int} {g:Addr}:P4 "wanted" (.ref g) (kf2 m st)=kf3 m st g:=by with_unfolding_all rfl
theorem D3i {m:Nat} {st:Int} {g d:Addr}:P4 "laid" (.ref d) (kf3 m st g)=kf4 m st g d:=by with_unfolding_all rfl
theorem D3j {m:Nat} {st:Int} {g d l:Addr}:P4 "lowest" (.ref l) (kf4 m st g d)=kfs m st g d l:=by with_unfolding_all rfl
theorem D3k:wsF []=[]:=by unfold wsF srt E8;rw[A6d,List.mergeSort_nil];rfl
theorem D3l (T:Txt K mg):C0 P w K mg base CX0 10 T.ck.a T.ck.d ["self", "many", "store", "goal"] (D3e T.ac):=by
 have eF:=@C0t P w K mg base T
 have eG:=T.bL.b
 refine T.ck.F.ok C9k (λvs H Q E h=>?_) (λcdv A outer s H vs Q E hr h=>?_)
 ·obtain⟨p,dx,m,st,g,vg,rfl,_⟩:=h
  rfl
 ·obtain⟨p,dx,m,st,g,vg,rfl,ep,tg,ok,told⟩:=h
  obtain⟨ag,ug,rfl,_,eg,tug⟩:=K8 tg
  have m2:=ok.m2
  have s1k:=ok.s1
  refine⟨_,(B5 (A1k (pv 0) (pv 1) rfl)
   (B5 (A1k (pv 0) (pv 2) rfl)
   (B5 (A1k (pv 0) (R8 W7 rfl T.au R9 (A2 (pv 3) A4 A1)) rfl)
   (B5 (A1k (pv 0) B89 rfl)
   (C5 (A1k (pv 0) (B3 eF (hr.mono DD) rfl (T.cA.trans T.bL.m) T.bL.F.kp eG .nil A8 (A2 (Q0 (A2 (pv 1) (A2 (V2 A4) A4 A2s) A1)) (A2 (pv 2) (A2 (pv 3) A4 A1) A1) X8)) rfl)))))),?_⟩
  try dsimp only[N1,Cx.nox]
  refine T7 λW hW=>?_
  refine⟨_,rfl,_,rfl,p,_,dx,_,rfl,ep,T.ae,T.cK,by show 0 < 1000;decide,?_⟩
  rw[D3f]
  obtain⟨H1,hH1⟩:∃H1,H1=upd H p (.ins T.ac dx (kf1 m)):=⟨_,rfl⟩
  rw[<-hH1]
  have p1:H1 p=some (.ins T.ac dx (kf1 m)):=by rw[hH1];exact B2
  have f1:∀b o,H b=some o->b≠p->H1 b=some o:=λb o e n=>by rw[hH1,B4 n];exact e
  clear hH1
  refine C3 W hW λW hW=>?_
  refine⟨_,rfl,_,rfl,p,_,dx,_,rfl,p1,T.ae,T.cc,by show 1 < 1000;decide,?_⟩
  rw[D3g]
  obtain⟨H2,hH2⟩:∃H2,H2=upd H1 p (.ins T.ac dx (kf2 m st)):=⟨_,rfl⟩
  rw[<-hH2]
  have p2:H2 p=some (.ins T.ac dx (kf2 m st)):=by rw[hH2];exact B2
  have f2:∀b o,H b=some o->b≠p->H2 b=some o:=λb o e n=>by rw[hH2,B4 n];exact f1 _ _ e n
  clear hH2
  have npg:ag≠p:=λz=>by rw[z,ep] at eg;cases eg
  refine C3 W hW λW hW=>?_
  refine⟨_,rfl,ag,ug,rfl,.inl (SqL.of (f2 _ _ eg npg)),λl2 hl2=>?_⟩
  have n2:l2≠p:=λz=>by rw[z,p2] at hl2;cases hl2
  refine⟨_,rfl,p,_,dx,_,rfl,by rw[B4 n2.symm];exact p2,T.ae,T.bN,by show 2 < 1000;decide,?_⟩
  rw[D3h]
  obtain⟨H3,hH3⟩:∃H3,H3=upd (upd H2 l2 (.lst ug)) p (.ins T.ac dx (kf3 m st l2)):=⟨_,rfl⟩
  rw[<-hH3]
  have p3:H3 p=some (.ins T.ac dx (kf3 m st l2)):=by rw[hH3];exact B2
  have g3:H3 l2=some (.lst ug):=by rw[hH3,B4 n2];exact B2
  have f3:∀b o,H b=some o->b≠p->H3 b=some o:=λb o e n=>by rw[hH3,B4 n];exact Same.upd hl2 _ _ (f2 _ _ e n)
  have l2n:H l2=none:=by
   cases z:H l2 with
   | none=>rfl
   | some o=>rw[f2 _ _ z n2] at hl2;cases hl2
  clear hH3
  refine C3 W hW λW hW=>?_
  intro d hd
  have nd:d≠p:=λz=>by rw[z,p3] at hd;cases hd
  refine⟨_,rfl,p,_,dx,_,rfl,by rw[B4 nd.symm];exact p3,T.ae,T.bf,by show 3 < 1000;decide,?_⟩
  rw[D3i]
  obtain⟨H4,hH4⟩:∃H4,H4=upd (upd H3 d (.dK [])) p (.ins T.ac dx (kf4 m st l2 d)):=⟨_,rfl⟩
  rw[<-hH4]
  have p4:H4 p=some (.ins T.ac dx (kf4 m st l2 d)):=by rw[hH4];exact B2
  have d4:H4 d=some (.dK []):=by rw[hH4,B4 nd];exact B2
  have f34:∀b o,H3 b=some o->b≠p->H4 b=some o:=λb o e n=>by rw[hH4,B4 n];exact Same.upd hd _ _ e
  have f4:∀b o,H b=some o->b≠p->H4 b=some o:=λb o e n=>f34 _ _ (f3 _ _ e n) n
  have dn:H d=none:=by
   cases z:H d with
   | none=>rfl
   | some o=>rw[f3 _ _ z nd] at hd;cases hd
  clear hH4
  subst hW
  refine⟨_,rfl,by show 0<=sizeLine;decide,λl5 hl5=>⟨by show 2<=sizeLine;decide,λt6 ht6=>?_⟩⟩
  have s5:Same H4 (upd H4 l5 (.lst [])):=Same.upd hl5
  have s6:=s5.tr (Same.upd (o:=.tup [.int ((m:Nat):Int),.ref l5]) ht6)
  obtain⟨H6,hH6⟩:∃H6,H6=upd (upd H4 l5 (.lst [])) t6 (.tup [.int ((m:Nat):Int),.ref l5]):=⟨_,rfl⟩
  rw[<-hH6] at s6 ⊢
  have tl:ThV TT0 H6 (.ref t6) (G3 m (wsF [])):=by
   have e5:H6 l5=some (.lst []):=by rw[hH6];exact Same.upd ht6 _ _ B2
   rw[D3k]
   exact .tup trivial (by rw[hH6];exact B2) (.cons (.int _) (.cons (.lst trivial e5 .nil) .nil))
  clear hH6
  refine⟨_,rfl,_,rfl,[G3 m (wsF []),.int st,.list (B8 g)],(λd=>∃t,N4 m ((wsF []).map T6) st (lkF st g) t/\d=.list (B8 (lkF st t))),.cons tl (.cons (.int _) (.cons (.lst trivial (s6 _ _ (f4 _ _ eg npg)) (E6 tug)) .nil)),⟨m,wsF [],st,g,rfl,ok.land,ok.s0,OO,ok.gt,λt ht=>⟨t,ht,rfl⟩⟩,λd' v7 H7 hd' t7 s7=>?_⟩
  obtain⟨t,ht,rfl⟩:=hd'
  obtain⟨ln,un,rfl,gn,en,tn⟩:=K8 t7
  have lnn:H6 ln=none:=A1c s7 gn en
  have s67:=s6.tr s7
  refine⟨_,rfl,p,_,dx,_,rfl,s67 _ _ p4,T.ae,T.bO,by show 4 < 1000;decide,?_⟩
  rw[D3j]
  have nln:ln≠p:=λz=>by rw[z,s6 _ _ p4] at lnn;cases lnn
  have hln:H ln=none:=by
   cases z:H ln with
   | none=>rfl
   | some o=>rw[s6 _ _ (f4 _ _ z nln)] at lnn;cases lnn
  have f8:∀b o,H7 b=some o->b≠p->upd H7 p (.ins T.ac dx (kfs m st l2 d ln)) b=some o:=λb o e n=>by rw[B4 n];exact e
  exact told d (lkF st t) _ ⟨t,ht,rfl⟩ dn ⟨⟨dx,l2,ln,ug,un,B2,l2n,f8 _ _ (s67 _ _ (f34 _ _ g3 n2)) n2,E6 tug,hln,f8 _ _ en nln,E6 tn⟩,[],f8 _ _ (s67 _ _ d4) nd,.nil⟩ λb o e n=>f8 _ _ (s67 _ _ (f4 _ _ e n)) n
def D3m:DSp:=λds Q=>∃d,ds=[d]/\∀r:Int,1<=r->r<=1000000000000000000->Q (.int r)
def C08:DSp:=λds Q=>∃(d:PyData) (sc:Int),ds=[d,.int sc]/\0<=sc/\sc<=1000000000000000000/\∀r:Int,-sc<=r->r<=sc->Q (.int r)
def D3n:DSp:=λds Q=>∃(d:PyData) (sc:Int),ds=[d,.int sc]/\0<=sc/\sc<=1000000000000000000/\∀r:Int,0<=r->r<=100000000000000000000->Q (.int r)
def D3o:DSp:=λds Q=>∃(d:PyData) (m:Nat) (st:Int),ds=[d,.int (m:Nat),.int st]/\m<=12/\0<=st/\st<=1000000000000000000000/\∀t,F7 m st t->Q (.list (B8 t))
def ODs (st:Int) (d:PyData):Prop:=∃o:Option Int,d=oD o/\∀x,o=some x->0<=x/\x<=st
theorem C09 {st:Int}:∀{ds:List PyData},(∀d∈ds,ODs st d)->∃t:Tb,ds=B8 t/\F7 ds.length st t
 | [],_=>⟨[],rfl,rfl,λp x e=>by rw[A5l (J7 _)] at e;cases e⟩
 | d::ds,h=>by
  obtain⟨t,rfl,ht⟩:=C09 (ds:=ds) λe he=>h e (C8 _ he)
  obtain⟨o,rfl,ho⟩:=h d D4
  refine⟨o::t,rfl,⟨by rw[G6,G6,Y2],λp x e=>?_⟩⟩
  cases p with
  | zero=>exact ho x e
  | succ p=>exact ht.bd p x e
theorem lt2 {r:Int} (h0:0<=r) (h1:r < 2):r=0\/r=1:=by lia
theorem D3p (T:Txt K mg):C0 P w K mg base CX0 4 T.cu.a T.cu.d ["_law_hand_here"] (spD [.hd] D3m):=by
 have ak:=@A5z P w K mg base T
 have am:=T.af.b
 refine G5 T.cu.F C9z rfl (λC cdv A outer s H E hr=>⟨_,(@D9 _ _ _ _ (@E9 _ _ _ _ _ (@Q6 _ _ _ _ _ _ _ (L3 (Z5 (D8 E3 (D8 E3 (D8 E3 (D8 E3 (D8 (K7 b7 A0c E3 E3) (D8 (K7 b7 A0c E3 E3) G0 K0) K0) E4) E4) E4) E4))) (F1 (B3 ak (hr.mono DD) rfl T.af.m T.af.F.kp am .nil A8 (Z7 (pv 0) (B7 E3 F0 E4) A1))) (λ_ _=>rfl)))),λds Q hl h=>?_⟩)
 obtain⟨d,rfl,q⟩:=h
 left
 refine⟨⟨DD,DD,DD⟩,⟨DD,DD,DD⟩,DD,rfl,6,rfl,DD,DD,λr r0 r1=>?_⟩
 left
 have hr':r=0\/r=1\/r=2\/r=3\/r=4\/r=5:=by lia
 rcases hr' with rfl | rfl | rfl | rfl | rfl | rfl
 all_goals exact q _ DD (DD)
theorem D3q (T:Txt K mg):C0 P w K mg base CX0 4 T.bI.a T.bI.d ["_law_hand_here", "_law_scale_here"] (spD [.hd,.sh] C08):=by
 have ak:=@A5z P w K mg base T
 have am:=T.af.b
 refine G5 T.bI.F C90 rfl (λC cdv A outer s H E hr=>⟨_,(D9 (E9 (K7 A4t A88 (F1 (B3 ak (hr.mono DD) rfl T.af.m T.af.F.kp am .nil A8 (Z7 (pv 0) (B7 (K7 O2 e7 (K7 y8 A89 E3 (A5 (pv 1))) E3) F0 K0) A1))) (A5 (pv 1))))),λds Q hl h=>?_⟩)
 obtain⟨d,sc,rfl,s0,s1,q⟩:=h
 left
 refine⟨rfl,.inl ⟨DD,DD⟩,2 * sc + 1,rfl,OO,OO,λr r0 r1=>?_⟩
 left
 exact q _ OO (OO)
theorem D3r (T:Txt K mg):C0 P w K mg base CX0 4 T.cw.a T.cw.d ["_law_hand_here", "_law_scale_here"] (spD [.hd,.sh] D3n):=by
 have ak:=@A5z P w K mg base T
 have am:=T.af.b
 refine G5 T.cw.F B91 rfl (λC cdv A outer s H E hr=>⟨_,(@F8 _ _ _ _ _ _ (G1 (C2 (i:=2) B91.nd rfl (B9 rfl) (F1 (B3 ak (hr.mono DD) rfl T.af.m T.af.F.kp am .nil A8 (Z7 (pv 0) (B7 E3 F0 E4) A1))))) (@F8 _ _ _ _ _ _ (T2 (O3 (A60 (O0 hr)) A1p (A5 (pv 2)) E3 (D5 _))
   (D9 (E9 (F1 (B3 ak (hr.mono DD) rfl T.af.m T.af.F.kp am .nil A8 (Z7 (pv 0) (B7 E3 F0 E4) A1)))))
   U5) (@F8 _ _ _ _ _ _ (@T2 _ _ _ _ _ _ _ _ _ (O3 (A60 (O0 hr)) A1p (A5 (pv 2)) E3 (D5 _)) (D9 (E9 (Q6 (L3 (Z5 (D8 (K7 b7 A0c E3 E3) (D8 (K7 b7 A0c E3 E3) G0 K0) K0))) (F1 (B3 ak (hr.mono DD) rfl T.af.m T.af.F.kp am .nil A8 (Z7 (pv 0) (B7 E3 F0 E4) A1))) (λ_ _=>rfl)))) U5) (@D9 _ _ _ _ (@E9 _ _ _ _ _ (@Z6 _ _ _ _ _ _ A9b (@J8 _ _ _ _ _ _ _ _ _ (A8t rfl) rfl T.dZ A81 (D8 (K7 b7 A0c E3 E3) (D8 (F1 (B3 ak (hr.mono DD) rfl T.af.m T.af.F.kp am .nil A8 (Z7 (pv 0) (B7 (K7 O2 e7 (K7 y8 A89 E3 (A5 (pv 1))) E3) F0 K0) A1))) G0 D7) K0) DD DD K0 ((A6 D7 A3))))))))),λds Q hl h=>?_⟩)
 obtain⟨d,sc,rfl,s0,s1,q⟩:=h
 left
 refine⟨rfl,6,rfl,DD,DD,λr r0 r1=>?_⟩
 left
 refine⟨rfl,rfl,A38 _ _,?_⟩
 rw[A39]
 by_cases c0:r=0
 ·rw[c0,show ((0:Int) == 0)=true from rfl]
  left
  refine⟨rfl,4,rfl,DD,DD,λr r0 r1=>?_⟩
  exact q _ r0 (OO)
 ·rw[beq_eq_false_iff_ne.mpr c0]
  left
  refine⟨rfl,rfl,A38 _ _,?_⟩
  rw[A39]
  by_cases c1:r=1
  ·rw[c1,show ((1:Int) == 1)=true from rfl]
   left
   refine⟨⟨DD,DD,DD⟩,⟨DD,DD,DD⟩,DD,rfl,2,rfl,DD,DD,λr r0 r1=>?_⟩
   left
   rcases lt2 r0 r1 with rfl | rfl
   all_goals exact q _ DD (DD)
  ·rw[beq_eq_false_iff_ne.mpr c1]
   left
   refine⟨⟨DD,DD,DD⟩,rfl,.inl ⟨DD,DD⟩,4 * sc + 1,rfl,OO,OO,λr r0 r1=>?_⟩
   left
   refine q _ ?_ ?_
   ·split
    ·exact r0
    ·decide
   ·split
    ·lia
    ·decide
theorem C1a (T:Txt K mg):C0 P w K mg base CX0 4 T.bM.a T.bM.d ["_law_hand_here", "_law_many", "_law_store_here"] (spD [.hd,.sh,.sh] D3o):=by
 have ak:=@A5z P w K mg base T
 have am:=T.af.b
 refine G5 T.bM.F B92 rfl (λC cdv A outer s H E hr=>⟨_,(@F8 _ _ _ _ _ _ (G1 (C2 (i:=3) B92.nd rfl (p9 rfl) (K7 O2 e7 E3 (K7 y8 A89 E3 (F1 (B3 ak (hr.mono DD) rfl T.af.m T.af.F.kp am .nil A8 (Z7 (pv 0) (B7 E3 F0 E4) A1))))))) (@D9 _ _ _ _ (@E9 _ _ _ _ _ (@L3 _ _ _ _ (@A10 _ _ _ _ _ _ _ _ rfl (@V4 _ _ _ _ _ _ _ _ _ _ _ _ _ _ _ (M2.new (N:=["_law_hand_here", "_law_many", "_law_store_here", "_law_rare"]) (osc:=B6 A95) KK) rfl (A9h (y7 rfl T.bp (D8 (A5 (pv 1)) G0 A1))) (λ_=>A05) (λ_=>(@Q6 _ _ _ _ _ _ _ (L3 (Z5 (D8 (F1 (B3 ak (hr.mono DD) rfl T.af.m T.af.F.kp am .nil A8 (Z7 (pv 0) (B7 (K7 O2 e7 (A5 (pv 2)) E3) F0 K0) A1))) (D8 N2 G0 E4) D7))) (Z6 C6c (R8 C3v rfl T.gc B7o (D8 (m8 A4u A63 (F1 (B3 ak (hr.mono DD) rfl T.af.m T.af.F.kp am .nil A8 (Z7 (pv 0) (B7 (A5 (pv 3)) F0 A1) A1))) E3 (D5 _)) G0 B7p))) (λ_ _=>rfl))) (by rfl) (by rfl) (by intro _;rfl))))))),λds Q hl h=>?_⟩)
 obtain⟨d,m,st,rfl,m2,s0,s1,q⟩:=h
 left
 refine⟨rfl,_,rfl,DD,DD,λr r0 r1=>?_⟩
 array_mem_dec
 refine⟨.inl ⟨DD,DD⟩,⟨OO,OO⟩,⟨rfl,by unfold U4;rw[C1,R6];lia⟩,?_⟩
 refine B8n (R:=ODs st) (λx hx Q' q'=>?_) λds hl2 hR=>?_
 ·left
  refine⟨rfl,_,rfl,OO,OO,λu u0 u1=>?_⟩
  left
  refine⟨DD,rfl,_,rfl,OO,OO,λv v0 v1=>?_⟩
  left
  cases decide (0 < v) with
  | true=>
   exact q' _ ⟨none,rfl,λx e=>nomatch e⟩
  | false=>
   exact q' _ ⟨some u,rfl,λx e=>by cases e;exact⟨u0,OO⟩⟩
 ·obtain⟨t,e,ht⟩:=C09 hR
  rw[T9,e]
  have hlen:ds.length=m:=by rw[hl2];unfold U4;rw[C1,R6];simp
  rw[hlen] at ht
  exact q t ht
def L6.word:L6->Str
 | .lay _ _=> "lay"
 | .lift _=> "lift"
 | .turn _ _=> "turn"
 | .refill _=> "refill"
 | .aim _=> "aim"
def A18 (dd:L6):PyData:=.tuple [.str dd.word,.list dd.args]
def D3s (C:Addr):Sp:=λvs H Q _=>∃(F:Addr->Prop) (p d:Addr) (k:Kst) (vd:V) (dd:L6),vs=[.ref p,vd]/\(∀b,H b=none->F b)/\D1 F C H p d k/\ThV TT0 H vd (A18 dd)/\KOk k.m k.st k.g k.kws/\k.low.length=k.m/\p5 k dd/\
 ∀r v k' H',A17 (J3 k dd) k.low r k'->D1 F C H' p d k'->ThV (F9 H) H' v r->(∀b o,H b=some o->b≠p->b≠d->H' b=some o)->Apt C H' p d k' v->Q v H'
theorem C1b {F:Addr->Prop} {H:Hp} {vs:List V} {d1 d2 d3 d4:PyData} (t:A9 F H vs [d1,d2,d3,d4]):∃v1 v2 v3 v4,vs=[v1,v2,v3,v4]/\ThV F H v1 d1/\ThV F H v2 d2/\ThV F H v3 d3/\ThV F H v4 d4:=by
 cases t with
 | cons x1 t=>
 cases t with
 | cons x2 t=>
 obtain⟨v3,v4,rfl,t3,t4⟩:=Q1 t
 exact⟨_,_,v3,v4,rfl,x1,x2,t3,t4⟩
theorem B5e:∀{a b:Tb},B8 a=B8 b->a=b
 | [],[],_=>rfl
 | [],_::_,h=>by cases h
 | _::_,[],h=>by cases h
 | x::a,y::b,h=>by
  injection h with h1 h2
  have e:x=y:=by
   cases x with
   | none=>cases y with
    | none=>rfl
    | some _=>cases h1
   | some u=>cases y with
    | none=>cases h1
    | some v=>cases h1;rfl
  rw[e,B5e h2]
theorem D3t {x x':Int} {w w':Wy} (h:L6.args (.lay x w)=L6.args (.lay x' w')):x=x'/\w=w':=by
 obtain⟨a,b,c⟩:=w
 obtain⟨a',b',c'⟩:=w'
 injection h with h1 h
 injection h with h2 h
 injection h with h3 h
 injection h with h4 h
 have h1:=PyData.int.inj h1
 have h2:((a:Nat):Int)=((a':Nat):Int):=PyData.int.inj h2
 have h3:((b:Nat):Int)=((b':Nat):Int):=PyData.int.inj h3
 have h4:c=c':=PyData.int.inj h4
 have h2:a=a':=by lia
 have h3:b=b':=by lia
 exact⟨h1,by rw[h2,h3,h4]⟩
theorem C1c (T:Txt K mg):C0 P w K mg base CX0 12 T.cZ.a T.cZ.d ["_law_keeper", "_law_deed_here"] (D3s T.ac):=by
 have im:=@D29 P w K mg base T
 have ip:=T.cL.b
 have gZ:=@D3a P w K mg base T
 have hE:=T.cm.b
 have hJ:=@D3b P w K mg base T
 have hU:=T.cp.b
 have gk:=@D3c P w K mg base T
 have gm:=T.bS.b
 have iq:=@D3d P w K mg base T
 have ir:=T.cM.b
 refine T.cZ.F.ok B4v (λvs H Q E h=>?_) (λcdv A outer s H vs Q E hr h=>?_)
 ·obtain⟨F,p,d,k,vd,dd,rfl,_⟩:=h
  rfl
 ·obtain⟨F,p,d,k,vd,dd,rfl,hF,kp,tvd,ok,hll,dok,told⟩:=h
  obtain⟨ad,ud,rfl,_,ed,tud⟩:=V5 tvd
  obtain⟨v1,v2,rfl,t1,t2⟩:=Q1 tud
  obtain⟨al,ul,rfl,_,el,tul⟩:=K8 t2
  have kp0:=kp
  obtain⟨⟨dx,g,l,ug,ul0,e1,g1,e2,t2',g3,e3,t3⟩,kvs,e4,kv⟩:=kp
  refine⟨_,(B5 (T0 (pv 1) (A6u (n:=2) rfl (w6 (P9 (i:=2) B4v.nd rfl (B9 rfl)) (w6 (P9 (i:=3) B4v.nd rfl (B9 rfl)) A6t))))
   (B5 (J0 (G4 (J2 Q4 (pv 2) Y9 (D5 _))
   (C5 (F2 (m5 (pv 0) T.ae T.cL.m im (hr.mono DD) ip .nil A8 (A2 (C6 D6 (pv 3) B1 (λ_ _=>rfl)) (A2 (C6 D6 (pv 3) B1 (λ_ _=>rfl)) (A2 (C6 D6 (pv 3) B1 (λ_ _=>rfl)) (A2 (C6 D6 (pv 3) B1 (λ_ _=>rfl)) A4 A7) A7) A7) A7) (hst:=A7))))
   G7))
   (B5 (J0 (G4 (J2 Q4 (pv 2) Y9 (D5 _))
   (C5 (F2 (m5 (pv 0) T.ae T.cm.m gZ (hr.mono DD) hE .nil A8 (A2 (C6 D6 (pv 3) B1 (λ_ _=>rfl)) A4 A7) (hst:=A7))))
   G7))
   (B5 (J0 (G4 (J2 Q4 (pv 2) Y9 (D5 _))
   (C5 (F2 (m5 (pv 0) T.ae T.cp.m hJ (hr.mono DD) hU .nil A8 (A2 (C6 D6 (pv 3) B1 (λ_ _=>rfl)) (A2 (C6 D6 (pv 3) B1 (λ_ _=>rfl)) A4 A7) A7) (hst:=A7))))
   G7))
   (B5 (J0 (G4 (J2 Q4 (pv 2) Y9 (D5 _))
   (C5 (F2 (m5 (pv 0) T.ae T.bS.m gk (hr.mono DD) gm .nil A8 (A2 (C6 D6 (pv 3) B1 (λ_ _=>rfl)) A4 A7) (hst:=A7))))
   G7))
   (C5 (F2 (m5 (pv 0) T.ae T.cM.m iq (hr.mono DD) ir .nil A8 (A2 (C6 D6 (pv 3) B1 (λ_ _=>rfl)) A4 A7) (hst:=A7))))))))),?_⟩
  try dsimp only[N1,Cx.nox]
  refine T7 λW hW=>?_
  refine⟨_,rfl,ad,_,rfl,SqT.of ed,rfl,_,_,rfl,_,_,rfl,rfl,?_⟩
  cases dd with
  | lay x w0=>
   have t1:ThV TT0 H v1 (.str "lay"):=t1
   cases t1
   have tul0:=tul
   obtain⟨u1,u2,u3,u4,rfl,_,_,_,_⟩:=C1b tul
   refine C3 W hW λW hW=>?_
   refine⟨λ_ _=>False,?_,λ_ _ z=>z.elim⟩
   refine⟨_,rfl,rfl,_,rfl,?_⟩
   rw[show decide (V.str "lay" = V.str "lay")=true from decide_eq_true rfl]
   refine F5 ?_
   refine⟨_,rfl,p,dx,_,rfl,e1,O7 KK,_,rfl,al,_,_,_,rfl,rfl,SqL.of el,rfl,_,rfl,al,_,_,_,rfl,rfl,SqL.of el,rfl,_,rfl,al,_,_,_,rfl,rfl,SqL.of el,rfl,_,rfl,al,_,_,_,rfl,rfl,SqL.of el,rfl,F,p,d,k,_,_,rfl,hF,kp0,tul0,⟨_,⟨x,w0,rfl⟩,rfl,ok,hll,dok⟩,λr v k' H1 po kp1 tv fr ap=>?_⟩
   obtain⟨dd',h1,h2,po⟩:=po
   obtain⟨x',w',rfl⟩:=h1
   obtain⟨rfl,rfl⟩:=D3t h2
   exact told r v k' H1 po kp1 tv fr ap
  | lift x=>
   have t1:ThV TT0 H v1 (.str "lift"):=t1
   cases t1
   have tul0:=tul
   obtain⟨u1,rfl,_⟩:=Y5 tul
   refine C3 W hW λW hW=>?_
   refine⟨fun σ' H'=>σ'=[some (.ref p),some (.ref ad),some (.str "lift"),some (.ref al)]/\H=H',?_,?_⟩
   ·refine⟨_,rfl,rfl,_,rfl,?_⟩
    rw[show decide (V.str "lift" = V.str "lay")=false from decide_eq_false (DD)]
    exact D0 ⟨rfl,rfl⟩
   rintro σ' _ ⟨rfl,rfl⟩
   refine C3 W hW λW hW=>?_
   refine⟨λ_ _=>False,?_,λ_ _ z=>z.elim⟩
   refine⟨_,rfl,rfl,_,rfl,?_⟩
   rw[show decide (V.str "lift" = V.str "lift")=true from decide_eq_true rfl]
   refine F5 ?_
   refine⟨_,rfl,p,dx,_,rfl,e1,O7 KK,_,rfl,al,_,_,_,rfl,rfl,SqL.of el,rfl,F,p,d,k,_,_,rfl,hF,kp0,tul0,⟨_,⟨x,rfl⟩,rfl,ok,hll,dok⟩,λr v k' H1 po kp1 tv fr ap=>?_⟩
   obtain⟨dd',h1,h2,po⟩:=po
   obtain⟨x',rfl⟩:=h1
   cases h2
   exact told r v k' H1 po kp1 tv fr ap
  | turn x c=>
   have t1:ThV TT0 H v1 (.str "turn"):=t1
   cases t1
   have tul0:=tul
   obtain⟨u1,u2,rfl,_,_⟩:=Q1 tul
   refine C3 W hW λW hW=>?_
   refine⟨fun σ' H'=>σ'=[some (.ref p),some (.ref ad),some (.str "turn"),some (.ref al)]/\H=H',?_,?_⟩
   ·refine⟨_,rfl,rfl,_,rfl,?_⟩
    rw[show decide (V.str "turn" = V.str "lay")=false from decide_eq_false (DD)]
    exact D0 ⟨rfl,rfl⟩
   rintro σ' _ ⟨rfl,rfl⟩
   refine C3 W hW λW hW=>?_
   refine⟨fun σ' H'=>σ'=[some (.ref p),some (.ref ad),some (.str "turn"),some (.ref al)]/\H=H',?_,?_⟩
   ·refine⟨_,rfl,rfl,_,rfl,?_⟩
    rw[show decide (V.str "turn" = V.str "lift")=false from decide_eq_false (DD)]
    exact D0 ⟨rfl,rfl⟩
   rintro σ' _ ⟨rfl,rfl⟩
   refine C3 W hW λW hW=>?_
   refine⟨λ_ _=>False,?_,λ_ _ z=>z.elim⟩
   refine⟨_,rfl,rfl,_,rfl,?_⟩
   rw[show decide (V.str "turn" = V.str "turn")=true from decide_eq_true rfl]
   refine F5 ?_
   refine⟨_,rfl,p,dx,_,rfl,e1,O7 KK,_,rfl,al,_,_,_,rfl,rfl,SqL.of el,rfl,_,rfl,al,_,_,_,rfl,rfl,SqL.of el,rfl,F,p,d,k,_,_,rfl,hF,kp0,tul0,⟨_,⟨x,c,rfl⟩,rfl,ok,hll,dok⟩,λr v k' H1 po kp1 tv fr ap=>?_⟩
   obtain⟨dd',h1,h2,po⟩:=po
   obtain⟨x',c',rfl⟩:=h1
   cases h2
   exact told r v k' H1 po kp1 tv fr ap
  | refill x=>
   have t1:ThV TT0 H v1 (.str "refill"):=t1
   cases t1
   have tul0:=tul
   obtain⟨u1,rfl,_⟩:=Y5 tul
   refine C3 W hW λW hW=>?_
   refine⟨fun σ' H'=>σ'=[some (.ref p),some (.ref ad),some (.str "refill"),some (.ref al)]/\H=H',?_,?_⟩
   ·refine⟨_,rfl,rfl,_,rfl,?_⟩
    rw[show decide (V.str "refill" = V.str "lay")=false from decide_eq_false (DD)]
    exact D0 ⟨rfl,rfl⟩
   rintro σ' _ ⟨rfl,rfl⟩
   refine C3 W hW λW hW=>?_
   refine⟨fun σ' H'=>σ'=[some (.ref p),some (.ref ad),some (.str "refill"),some (.ref al)]/\H=H',?_,?_⟩
   ·refine⟨_,rfl,rfl,_,rfl,?_⟩
    rw[show decide (V.str "refill" = V.str "lift")=false from decide_eq_false (DD)]
    exact D0 ⟨rfl,rfl⟩
   rintro σ' _ ⟨rfl,rfl⟩
   refine C3 W hW λW hW=>?_
   refine⟨fun σ' H'=>σ'=[some (.ref p),some (.ref ad),some (.str "refill"),some (.ref al)]/\H=H',?_,?_⟩
   ·refine⟨_,rfl,rfl,_,rfl,?_⟩
    rw[show decide (V.str "refill" = V.str "turn")=false from decide_eq_false (DD)]
    exact D0 ⟨rfl,rfl⟩
   rintro σ' _ ⟨rfl,rfl⟩
   refine C3 W hW λW hW=>?_
   refine⟨λ_ _=>False,?_,λ_ _ z=>z.elim⟩
   refine⟨_,rfl,rfl,_,rfl,?_⟩
   rw[show decide (V.str "refill" = V.str "refill")=true from decide_eq_true rfl]
   refine F5 ?_
   refine⟨_,rfl,p,dx,_,rfl,e1,O7 KK,_,rfl,al,_,_,_,rfl,rfl,SqL.of el,rfl,F,p,d,k,_,_,rfl,hF,kp0,tul0,⟨_,⟨x,rfl⟩,rfl,ok,hll,dok⟩,λr v k' H1 po kp1 tv fr ap=>?_⟩
   obtain⟨dd',h1,h2,po⟩:=po
   obtain⟨x',rfl⟩:=h1
   cases h2
   exact told r v k' H1 po kp1 tv fr ap
  | aim x=>
   have t1:ThV TT0 H v1 (.str "aim"):=t1
   cases t1
   have tul0:=tul
   obtain⟨u1,rfl,_⟩:=Y5 tul
   refine C3 W hW λW hW=>?_
   refine⟨fun σ' H'=>σ'=[some (.ref p),some (.ref ad),some (.str "aim"),some (.ref al)]/\H=H',?_,?_⟩
   ·refine⟨_,rfl,rfl,_,rfl,?_⟩
    rw[show decide (V.str "aim" = V.str "lay")=false from decide_eq_false (DD)]
    exact D0 ⟨rfl,rfl⟩
   rintro σ' _ ⟨rfl,rfl⟩
   refine C3 W hW λW hW=>?_
   refine⟨fun σ' H'=>σ'=[some (.ref p),some (.ref ad),some (.str "aim"),some (.ref al)]/\H=H',?_,?_⟩
   ·refine⟨_,rfl,rfl,_,rfl,?_⟩
    rw[show decide (V.str "aim" = V.str "lift")=false from decide_eq_false (DD)]
    exact D0 ⟨rfl,rfl⟩
   rintro σ' _ ⟨rfl,rfl⟩
   refine C3 W hW λW hW=>?_
   refine⟨fun σ' H'=>σ'=[some (.ref p),some (.ref ad),some (.str "aim"),some (.ref al)]/\H=H',?_,?_⟩
   ·refine⟨_,rfl,rfl,_,rfl,?_⟩
    rw[show decide (V.str "aim" = V.str "turn")=false from decide_eq_false (DD)]
    exact D0 ⟨rfl,rfl⟩
   rintro σ' _ ⟨rfl,rfl⟩
   refine C3 W hW λW hW=>?_
   refine⟨fun σ' H'=>σ'=[some (.ref p),some (.ref ad),some (.str "aim"),some (.ref al)]/\H=H',?_,?_⟩
   ·refine⟨_,rfl,rfl,_,rfl,?_⟩
    rw[show decide (V.str "aim" = V.str "refill")=false from decide_eq_false (DD)]
    exact D0 ⟨rfl,rfl⟩
   rintro σ' _ ⟨rfl,rfl⟩
   subst hW
   refine⟨_,rfl,p,dx,_,rfl,e1,O7 KK,_,rfl,al,_,_,_,rfl,rfl,SqL.of el,rfl,F,p,d,k,_,_,rfl,hF,kp0,tul0,⟨_,⟨x,rfl⟩,rfl,ok,hll,dok⟩,λr v k' H1 po kp1 tv fr ap=>?_⟩
   obtain⟨dd',h1,h2,po⟩:=po
   obtain⟨x',rfl⟩:=h1
   cases B5e (PyData.list.inj (v8.inj h2).1)
   exact told r v k' H1 po kp1 tv fr ap
structure O8 (F:Addr->Prop) (H:Hp) (a dc:Addr) (m:Nat) (st:Int) (g:Tb) (kws:Kw):Prop where
 ob:∃gl ug,H a=some (.lst [.int ((m:Nat):Int),.int st,.ref gl,.ref dc])/\F a/\F gl/\H gl=some (.lst ug)/\A9 TT0 H ug (B8 g)
 dc:∃kvs,H dc=some (.dK kvs)/\N5 H kvs kws
theorem O8.mv {F G:Addr->Prop} {H H':Hp} {a dc:Addr} {m:Nat} {st:Int} {g:Tb} {kws:Kw} (h:O8 F H a dc m st g kws) (s:∀b o,H b=some o->(∀xs,o=.lst xs->F b)->(∀kvs,o=.dK kvs->b=dc)->H' b=some o) (hF:∀b,F b->G b):O8 G H' a dc m st g kws:=by
 obtain⟨⟨gl,ug,e1,f1,f2,e2,t2⟩,kvs,e3,kv⟩:=h
 exact⟨⟨gl,ug,s _ _ e1 (λ_ _=>f1) (λ_ z=>by cases z),hF _ f1,hF _ f2,s _ _ e2 (λ_ _=>f2) (λ_ z=>by cases z),E6 t2⟩,kvs,s _ _ e3 (λ_ z=>by cases z) (λ_ _=>rfl),kv.mv λb xs e=>s _ _ e (λ_ z=>by cases z) (λ_ z=>by cases z)⟩
def D3u:Sp:=λvs H Q _=>∃(m:Nat) (st:Int) (g:Tb) (vg:V),vs=[.int ((m:Nat):Int),.int st,vg]/\ThV TT0 H vg (.list (B8 g))/\∀a dc H',O8 (λb=>H b=none) H' a dc m st g []->H dc=none->Same H H'->Q (.ref a) H'
def D3v:Sp:=λvs H Q _=>∃(F:Addr->Prop) (a dc:Addr) (k:Kst) (vd:V) (dd:L6),vs=[.ref a,vd]/\O8 F H a dc k.m k.st k.g k.kws/\k.kws.length < 50/\ThV TT0 H vd (A18 dd)/\p5 k dd/\
 ∀a' dc' H',O8 (λb=>H b=none) H' a' dc' (J3 k dd).m (J3 k dd).st (J3 k dd).g (J3 k dd).kws->H dc'=none->Same H H'->Q (.ref a') H'
theorem D3w {F:Addr->Prop} {H:Hp} {vs:List V} {d1 d2 d3:PyData} (t:A9 F H vs [d1,d2,d3]):∃v1 v2 v3,vs=[v1,v2,v3]/\ThV F H v1 d1/\ThV F H v2 d2/\ThV F H v3 d3:=by
 cases t with
 | cons x1 t=>
 obtain⟨v2,v3,rfl,t2,t3⟩:=Q1 t
 exact⟨_,v2,v3,rfl,x1,t2,t3⟩
theorem D3x (T:Txt K mg):C0 P w K mg base CX0 1 T.cx.a T.cx.d ["_law_many", "_law_store_here", "_law_goal"] D3u:=by
 refine T.cx.F.ok C91 (λvs H Q E h=>?_) (λcdv A outer s H vs Q E hr h=>?_)
 ·obtain⟨m,st,g,vg,rfl,_⟩:=h
  rfl
 ·obtain⟨m,st,g,vg,rfl,tg,told⟩:=h
  obtain⟨ag,ug,rfl,_,eg,tug⟩:=K8 tg
  refine⟨_,(C5 (F2 (V2 (A2 (pv 0) (A2 (pv 1) (A2 (R8 W7 rfl T.au R9 (A2 (pv 2) A4 A1)) (A2 B89 A4 C5e) D7) A1) A1)))),?_⟩
  try dsimp only[N1,Cx.nox]
  refine⟨_,rfl,_,rfl,_,rfl,ag,ug,rfl,.inl (SqL.of eg),λl hl=>?_⟩
  intro d hd
  refine⟨by show 4<=sizeLine;decide,λa ha=>?_⟩
  have s1:Same H _:=Same.upd (o:=.lst ug) hl
  have s2:=Same.upd (o:=.dK []) hd
  have s3:=Same.upd (o:=.lst [.int ((m:Nat):Int),.int st,.ref l,.ref d]) ha
  have s12:=s1.tr s2
  exact told a d _ ⟨⟨l,ug,B2,s12.early ha,hl,s3 _ _ (s2 _ _ B2),E6 tug⟩,[],s3 _ _ B2,.nil⟩ (s1.early hd) (s12.tr s3)
theorem D3y (T:Txt K mg):C0 P w K mg base CX0 1 T.cy.a T.cy.d ["_law_state_here", "_law_deed_here"] D3v:=by
 refine T.cy.F.ok A7q (λvs H Q E h=>?_) (λcdv A outer s H vs Q E hr h=>?_)
 ·obtain⟨F,a,dc,k,vd,dd,rfl,_⟩:=h
  rfl
 ·obtain⟨F,a,dc,k,vd,dd,rfl,sa,few,tvd,dok,told⟩:=h
  obtain⟨ad,ud,rfl,_,ed,tud⟩:=V5 tvd
  obtain⟨v1,v2,rfl,t1,t2⟩:=Q1 tud
  obtain⟨al,ul,rfl,_,el,tul⟩:=K8 t2
  obtain⟨⟨gl,ug,e1,f1,f2,e2,t2'⟩,kvs,e3,kv⟩:=sa
  refine⟨_,(B5 (T0 (pv 1) (A6u (n:=2) rfl (w6 (P9 (i:=2) A7q.nd rfl (B9 rfl)) (w6 (P9 (i:=3) A7q.nd rfl (B9 rfl)) A6t))))
   (B5 (C2 (i:=4) A7q.nd rfl (B9 rfl) (R8 C8p rfl T.gD C5c (A2 (C6 D6 (pv 0) B1 (λ_ _=>rfl)) A4 A7)))
   (B5 (C2 (i:=5) A7q.nd rfl (B9 rfl) (V2 (A2 (C6 D6 (pv 0) B1 (λ_ _=>rfl)) (A2 (C6 D6 (pv 0) B1 (λ_ _=>rfl)) (A2 (R8 W7 rfl T.au R9 (A2 (C6 D6 (pv 0) B1 (λ_ _=>rfl)) A4 A7)) (A2 (pv 4) A4 A1) D7) A7) A7)))
   (B5 (J0 (G4 (J2 Q4 (pv 2) Y9 (D5 _))
   (C5 (A5t (u1 (O0 hr)) (pv 4) (C6 D6 (pv 3) B1 (λ_ _=>rfl)) (Q0 (A2 (C6 D6 (pv 3) B1 (λ_ _=>rfl)) (A2 (C6 D6 (pv 3) B1 (λ_ _=>rfl)) (A2 (C6 D6 (pv 3) B1 (λ_ _=>rfl)) A4 A7) A7) A7)) rfl))
   G7))
   (B5 (J0 (G4 (J2 Q4 (pv 2) Y9 (D5 _))
   (C5 (P8 (B9a (pv 4) (C6 D6 (pv 3) B1 (λ_ _=>rfl)) ⟨rfl,rfl,rfl,rfl⟩)))
   G7))
   (B5 (J0 (G4 (J2 Q4 (pv 2) Y9 (D5 _))
   (C5 (A5t (u1 (O0 hr)) (pv 4) (C6 D6 (pv 3) B1 (λ_ _=>rfl)) (Q0 (A2 (C6 X6 (A7m (u1 (O0 hr)) (pv 4) (C6 D6 (pv 3) B1 (λ_ _=>rfl)) (λ_ _=>rfl)) B1 (λ_ _=>rfl)) (A2 (C6 X6 (A7m (u1 (O0 hr)) (pv 4) (C6 D6 (pv 3) B1 (λ_ _=>rfl)) (λ_ _=>rfl)) B1 (λ_ _=>rfl)) (A2 (C6 D6 (pv 3) B1 (λ_ _=>rfl)) A4 A7) A7) A7)) rfl))
   G7))
   (B5 (J0 (G4 (J2 Q4 (pv 2) Y9 (D5 _))
   (C5 (T0 (C6 D6 (pv 3) B1 (λ_ _=>rfl)) (W4 (pv 5) B1 U2)))
   G7))
   (B5 (J0 (G4 (J2 Q4 (pv 2) Y9 (D5 _))
   (C5 (T0 (R8 W7 rfl T.au R9 (A2 (C6 D6 (pv 3) B1 (λ_ _=>rfl)) A4 A7)) (W4 (pv 5) B1 U2)))
   G7))
   (C5 (F2 (pv 5))))))))))),?_⟩
  try dsimp only[N1,Cx.nox]
  refine⟨_,rfl,ad,_,rfl,SqT.of ed,rfl,_,_,rfl,_,_,rfl,rfl,?_⟩
  have dn0:True:=trivial
  refine⟨_,rfl,a,_,_,_,rfl,rfl,SqL.of e1,rfl,dc,kvs,rfl,e3,λdn hdn=>?_⟩
  have s1:=Same.upd (o:=.dK kvs) hdn
  refine⟨_,rfl,a,_,_,_,rfl,rfl,SqL.of (s1 _ _ e1),rfl,_,rfl,a,_,_,_,rfl,rfl,SqL.of (s1 _ _ e1),rfl,_,rfl,a,_,_,_,rfl,rfl,SqL.of (s1 _ _ e1),rfl,gl,ug,rfl,.inl (SqL.of (s1 _ _ e2)),λl hl=>?_⟩
  have s2:=Same.upd (o:=.lst ug) hl
  refine⟨_,rfl,by show 4<=sizeLine;decide,λaa haa=>?_⟩
  have s3:=Same.upd (o:=.lst [.int ((k.m:Nat):Int),.int k.st,.ref l,.ref dn]) haa
  have s12:=s1.tr s2
  have sH:=s12.tr s3
  obtain⟨H3,hH3⟩:∃H3,H3=upd (upd (upd H dn (.dK kvs)) l (.lst ug)) aa (.lst [.int ((k.m:Nat):Int),.int k.st,.ref l,.ref dn]):=⟨_,rfl⟩
  rw[<-hH3] at sH ⊢
  have eaa:H3 aa=some (.lst [.int ((k.m:Nat):Int),.int k.st,.ref l,.ref dn]):=by rw[hH3];exact B2
  have el1:H3 l=some (.lst ug):=by rw[hH3];exact s3 _ _ B2
  have edn:H3 dn=some (.dK kvs):=by rw[hH3];exact s3 _ _ (s2 _ _ B2)
  have aan:=s12.early haa
  have ln:=s1.early hl
  have el3:=sH _ _ el
  have kv3:=kv.mv (H':=H3) λb xs e=>sH _ _ e
  have nal:aa≠dn:=λz=>by rw[z,edn] at eaa;cases eaa
  have nld:l≠dn:=λz=>by rw[z,edn] at el1;cases el1
  have nlaa:l≠aa:=λz=>by rw[<-z,B2] at haa;cases haa
  clear hH3 s1 s2 s3 s12 haa hl
  have wfin:∀(H5:Hp) (kvs':List (Key×V)) (kws':Kw),Same H3 H5->N5 H5 kvs' kws'->Same H (upd H5 dn (.dK kvs'))/\O8 (λb=>H b=none) (upd H5 dn (.dK kvs')) aa dn k.m k.st k.g kws':=λH5 kvs' kws' s5 h4=>by
   have f:∀b o,H5 b=some o->b≠dn->upd H5 dn (.dK kvs') b=some o:=λb o e n=>by rw[B4 n];exact e
   refine⟨λb o e=>f _ _ (s5 _ _ (sH _ _ e)) (λz=>by rw[z,hdn] at e;cases e),⟨l,ug,f _ _ (s5 _ _ eaa) nal,aan,ln,f _ _ (s5 _ _ el1) nld,E6 t2'⟩,kvs',B2,h4.mv λb xs e=>f _ _ e λz=>?_⟩
   rw[z,s5 _ _ edn] at e;cases e
  refine T7 λW hW=>?_
  cases dd with
  | lay x w0=>
   have t1:ThV TT0 H v1 (.str "lay"):=t1
   cases t1
   obtain⟨u1,u2,u3,u4,rfl,c1,c2,c3,c4⟩:=C1b tul
   cases c1
   cases c2
   cases c3
   cases c4
   refine C3 W hW λW hW=>?_
   refine⟨fun σ' H'=>σ'=[some (.ref a),some (.ref ad),some (.str "lay"),some (.ref al),some (.ref dn),some (.ref aa)]/\Same H H'/\O8 (λb=>H b=none) H' aa dn k.m k.st k.g (Y3 k.kws x w0),?_,?_⟩
   ·refine⟨_,rfl,rfl,_,rfl,?_⟩
    rw[show decide (V.str "lay" = V.str "lay")=true from decide_eq_true rfl]
    refine F5 ?_
    refine⟨_,rfl,al,_,_,_,rfl,rfl,SqL.of el3,rfl,_,rfl,al,_,_,_,rfl,rfl,SqL.of el3,rfl,_,rfl,al,_,_,_,rfl,rfl,SqL.of el3,rfl,by show 3<=sizeLine;decide,λt ht=>?_⟩
    have s4:=Same.upd (o:=.tup [.int ((w0.1:Nat):Int),.int ((w0.2.1:Nat):Int),.int w0.2.2]) ht
    refine⟨_,rfl,_,rfl,al,_,_,_,rfl,rfl,SqL.of (s4 _ _ el3),rfl,dn,_,rfl,j5.k (k:=Sum.inl x) (s4 _ _ edn) (by rw[kv.len,sizeLine_eq];lia),rfl,?_⟩
    exact wfin _ _ _ s4 ((kv3.mv λb xs e=>s4 _ _ e).put (.tup trivial B2 (.cons (.int _) (.cons (.int _) (.cons (.int _) .nil)))))
   rintro σ' H4 ⟨rfl,sH4,fin⟩
   refine C3 W hW λW hW=>?_
   refine⟨fun σ' H'=>σ'=[some (.ref a),some (.ref ad),some (.str "lay"),some (.ref al),some (.ref dn),some (.ref aa)]/\H4=H',?_,?_⟩
   ·refine⟨_,rfl,rfl,_,rfl,?_⟩
    rw[show decide (V.str "lay" = V.str "lift")=false from decide_eq_false (DD)]
    exact D0 ⟨rfl,rfl⟩
   rintro σ' _ ⟨rfl,rfl⟩
   refine C3 W hW λW hW=>?_
   refine⟨fun σ' H'=>σ'=[some (.ref a),some (.ref ad),some (.str "lay"),some (.ref al),some (.ref dn),some (.ref aa)]/\H4=H',?_,?_⟩
   ·refine⟨_,rfl,rfl,_,rfl,?_⟩
    rw[show decide (V.str "lay" = V.str "turn")=false from decide_eq_false (DD)]
    exact D0 ⟨rfl,rfl⟩
   rintro σ' _ ⟨rfl,rfl⟩
   refine C3 W hW λW hW=>?_
   refine⟨fun σ' H'=>σ'=[some (.ref a),some (.ref ad),some (.str "lay"),some (.ref al),some (.ref dn),some (.ref aa)]/\H4=H',?_,?_⟩
   ·refine⟨_,rfl,rfl,_,rfl,?_⟩
    rw[show decide (V.str "lay" = V.str "refill")=false from decide_eq_false (DD)]
    exact D0 ⟨rfl,rfl⟩
   rintro σ' _ ⟨rfl,rfl⟩
   refine C3 W hW λW hW=>?_
   refine⟨fun σ' H'=>σ'=[some (.ref a),some (.ref ad),some (.str "lay"),some (.ref al),some (.ref dn),some (.ref aa)]/\H4=H',?_,?_⟩
   ·refine⟨_,rfl,rfl,_,rfl,?_⟩
    rw[show decide (V.str "lay" = V.str "aim")=false from decide_eq_false (DD)]
    exact D0 ⟨rfl,rfl⟩
   rintro σ' _ ⟨rfl,rfl⟩
   subst hW
   exact⟨_,rfl,told aa dn H4 fin hdn sH4⟩
  | lift x=>
   have t1:ThV TT0 H v1 (.str "lift"):=t1
   cases t1
   obtain⟨u1,rfl,c1⟩:=Y5 tul
   cases c1
   obtain⟨lx,w0,hw⟩:=id dok
   obtain⟨v0,w1,hv,hw1,tv⟩:∃v w,T3 kvs (Sum.inl x:Key)=some v/\Q2 k.kws x=some w/\ThV TT0 H3 v (K6 w):=by
    rcases kv3.val x with ⟨_,z⟩ | h
    ·rw[hw] at z;cases z
    ·exact h
   refine C3 W hW λW hW=>?_
   refine⟨fun σ' H'=>σ'=[some (.ref a),some (.ref ad),some (.str "lift"),some (.ref al),some (.ref dn),some (.ref aa)]/\H3=H',?_,?_⟩
   ·refine⟨_,rfl,rfl,_,rfl,?_⟩
    rw[show decide (V.str "lift" = V.str "lay")=false from decide_eq_false (DD)]
    exact D0 ⟨rfl,rfl⟩
   rintro σ' _ ⟨rfl,rfl⟩
   refine C3 W hW λW hW=>?_
   refine⟨fun σ' H'=>σ'=[some (.ref a),some (.ref ad),some (.str "lift"),some (.ref al),some (.ref dn),some (.ref aa)]/\Same H H'/\O8 (λb=>H b=none) H' aa dn k.m k.st k.g (A54 k.kws x),?_,?_⟩
   ·refine⟨_,rfl,rfl,_,rfl,?_⟩
    rw[show decide (V.str "lift" = V.str "lift")=true from decide_eq_true rfl]
    refine F5 ?_
    refine⟨_,rfl,dn,rfl,.inl ⟨kvs,.inl edn⟩,_,rfl,al,_,_,_,rfl,rfl,SqL.of el3,rfl,kvs,Sum.inl x,v0,edn,rfl,hv,rfl,?_⟩
    exact wfin _ _ _ (Same.refl _) (kv3.drop x)
   rintro σ' H4 ⟨rfl,sH4,fin⟩
   refine C3 W hW λW hW=>?_
   refine⟨fun σ' H'=>σ'=[some (.ref a),some (.ref ad),some (.str "lift"),some (.ref al),some (.ref dn),some (.ref aa)]/\H4=H',?_,?_⟩
   ·refine⟨_,rfl,rfl,_,rfl,?_⟩
    rw[show decide (V.str "lift" = V.str "turn")=false from decide_eq_false (DD)]
    exact D0 ⟨rfl,rfl⟩
   rintro σ' _ ⟨rfl,rfl⟩
   refine C3 W hW λW hW=>?_
   refine⟨fun σ' H'=>σ'=[some (.ref a),some (.ref ad),some (.str "lift"),some (.ref al),some (.ref dn),some (.ref aa)]/\H4=H',?_,?_⟩
   ·refine⟨_,rfl,rfl,_,rfl,?_⟩
    rw[show decide (V.str "lift" = V.str "refill")=false from decide_eq_false (DD)]
    exact D0 ⟨rfl,rfl⟩
   rintro σ' _ ⟨rfl,rfl⟩
   refine C3 W hW λW hW=>?_
   refine⟨fun σ' H'=>σ'=[some (.ref a),some (.ref ad),some (.str "lift"),some (.ref al),some (.ref dn),some (.ref aa)]/\H4=H',?_,?_⟩
   ·refine⟨_,rfl,rfl,_,rfl,?_⟩
    rw[show decide (V.str "lift" = V.str "aim")=false from decide_eq_false (DD)]
    exact D0 ⟨rfl,rfl⟩
   rintro σ' _ ⟨rfl,rfl⟩
   subst hW
   exact⟨_,rfl,told aa dn H4 fin hdn sH4⟩
  | turn x c=>
   have t1:ThV TT0 H v1 (.str "turn"):=t1
   cases t1
   obtain⟨u1,u2,rfl,c1,c2⟩:=Q1 tul
   cases c1
   cases c2
   obtain⟨⟨lx,w0,hw⟩,_⟩:=id dok
   obtain⟨v0,w1,hv,hw1,tv⟩:∃v w,T3 kvs (Sum.inl x:Key)=some v/\Q2 k.kws x=some w/\ThV TT0 H3 v (K6 w):=by
    rcases kv3.val x with ⟨_,z⟩ | h
    ·rw[hw] at z;cases z
    ·exact h
   obtain⟨tw,utw,rfl,gtw,etw,ttw⟩:=V5 (show ThV TT0 H3 v0 (.tuple ([((w1.1:Nat):Int),((w1.2.1:Nat):Int),w1.2.2].map PyData.int)) from tv)
   obtain⟨y1,y2,y3,rfl,ty1,ty2,ty3⟩:=D3w ttw
   cases ty1
   cases ty2
   cases ty3
   refine C3 W hW λW hW=>?_
   refine⟨fun σ' H'=>σ'=[some (.ref a),some (.ref ad),some (.str "turn"),some (.ref al),some (.ref dn),some (.ref aa)]/\H3=H',?_,?_⟩
   ·refine⟨_,rfl,rfl,_,rfl,?_⟩
    rw[show decide (V.str "turn" = V.str "lay")=false from decide_eq_false (DD)]
    exact D0 ⟨rfl,rfl⟩
   rintro σ' _ ⟨rfl,rfl⟩
   refine C3 W hW λW hW=>?_
   refine⟨fun σ' H'=>σ'=[some (.ref a),some (.ref ad),some (.str "turn"),some (.ref al),some (.ref dn),some (.ref aa)]/\H3=H',?_,?_⟩
   ·refine⟨_,rfl,rfl,_,rfl,?_⟩
    rw[show decide (V.str "turn" = V.str "lift")=false from decide_eq_false (DD)]
    exact D0 ⟨rfl,rfl⟩
   rintro σ' _ ⟨rfl,rfl⟩
   refine C3 W hW λW hW=>?_
   refine⟨fun σ' H'=>σ'=[some (.ref a),some (.ref ad),some (.str "turn"),some (.ref al),some (.ref dn),some (.ref aa)]/\Same H H'/\O8 (λb=>H b=none) H' aa dn k.m k.st k.g (Y3 k.kws x (o8 k.kws x c)),?_,?_⟩
   ·refine⟨_,rfl,rfl,_,rfl,?_⟩
    rw[show decide (V.str "turn" = V.str "turn")=true from decide_eq_true rfl]
    refine F5 ?_
    refine⟨_,rfl,_,rfl,al,_,_,_,rfl,rfl,SqL.of el3,rfl,dn,_,rfl,by rw[<-hv];exact V6.k (k:=Sum.inl x) edn,.inr (.inl ⟨tw,_,0,_,rfl,rfl,SqT.of etw,rfl,?_⟩)⟩
    refine⟨_,rfl,_,rfl,al,_,_,_,rfl,rfl,SqL.of el3,rfl,dn,_,rfl,by rw[<-hv];exact V6.k (k:=Sum.inl x) edn,.inr (.inl ⟨tw,_,1,_,rfl,rfl,SqT.of etw,rfl,?_⟩)⟩
    refine⟨_,rfl,al,_,_,_,rfl,rfl,SqL.of el3,rfl,by show 3<=sizeLine;decide,λt ht=>?_⟩
    have s4:=Same.upd (o:=.tup [.int ((w1.1:Nat):Int),.int ((w1.2.1:Nat):Int),.int c]) ht
    refine⟨_,rfl,_,rfl,al,_,_,_,rfl,rfl,SqL.of (s4 _ _ el3),rfl,dn,_,rfl,j5.k (k:=Sum.inl x) (s4 _ _ edn) (by rw[kv.len,sizeLine_eq];lia),rfl,?_⟩
    have ht':o8 k.kws x c=(w1.1,w1.2.1,c):=by unfold o8;rw[hw1];rfl
    rw[ht']
    exact wfin _ _ _ s4 ((kv3.mv λb xs e=>s4 _ _ e).put (.tup trivial B2 (.cons (.int _) (.cons (.int _) (.cons (.int _) .nil)))))
   rintro σ' H4 ⟨rfl,sH4,fin⟩
   refine C3 W hW λW hW=>?_
   refine⟨fun σ' H'=>σ'=[some (.ref a),some (.ref ad),some (.str "turn"),some (.ref al),some (.ref dn),some (.ref aa)]/\H4=H',?_,?_⟩
   ·refine⟨_,rfl,rfl,_,rfl,?_⟩
    rw[show decide (V.str "turn" = V.str "refill")=false from decide_eq_false (DD)]
    exact D0 ⟨rfl,rfl⟩
   rintro σ' _ ⟨rfl,rfl⟩
   refine C3 W hW λW hW=>?_
   refine⟨fun σ' H'=>σ'=[some (.ref a),some (.ref ad),some (.str "turn"),some (.ref al),some (.ref dn),some (.ref aa)]/\H4=H',?_,?_⟩
   ·refine⟨_,rfl,rfl,_,rfl,?_⟩
    rw[show decide (V.str "turn" = V.str "aim")=false from decide_eq_false (DD)]
    exact D0 ⟨rfl,rfl⟩
   rintro σ' _ ⟨rfl,rfl⟩
   subst hW
   exact⟨_,rfl,told aa dn H4 fin hdn sH4⟩
  | refill x=>
   have t1:ThV TT0 H v1 (.str "refill"):=t1
   cases t1
   obtain⟨u1,rfl,c1⟩:=Y5 tul
   cases c1
   refine C3 W hW λW hW=>?_
   refine⟨fun σ' H'=>σ'=[some (.ref a),some (.ref ad),some (.str "refill"),some (.ref al),some (.ref dn),some (.ref aa)]/\H3=H',?_,?_⟩
   ·refine⟨_,rfl,rfl,_,rfl,?_⟩
    rw[show decide (V.str "refill" = V.str "lay")=false from decide_eq_false (DD)]
    exact D0 ⟨rfl,rfl⟩
   rintro σ' _ ⟨rfl,rfl⟩
   refine C3 W hW λW hW=>?_
   refine⟨fun σ' H'=>σ'=[some (.ref a),some (.ref ad),some (.str "refill"),some (.ref al),some (.ref dn),some (.ref aa)]/\H3=H',?_,?_⟩
   ·refine⟨_,rfl,rfl,_,rfl,?_⟩
    rw[show decide (V.str "refill" = V.str "lift")=false from decide_eq_false (DD)]
    exact D0 ⟨rfl,rfl⟩
   rintro σ' _ ⟨rfl,rfl⟩
   refine C3 W hW λW hW=>?_
   refine⟨fun σ' H'=>σ'=[some (.ref a),some (.ref ad),some (.str "refill"),some (.ref al),some (.ref dn),some (.ref aa)]/\H3=H',?_,?_⟩
   ·refine⟨_,rfl,rfl,_,rfl,?_⟩
    rw[show decide (V.str "refill" = V.str "turn")=false from decide_eq_false (DD)]
    exact D0 ⟨rfl,rfl⟩
   rintro σ' _ ⟨rfl,rfl⟩
   refine C3 W hW λW hW=>?_
   refine⟨fun σ' H'=>σ'=[some (.ref a),some (.ref ad),some (.str "refill"),some (.ref al),some (.ref dn),some (.ref aa)]/\Same H H'/\O8 (λb=>H b=none) H' aa dn k.m x k.g k.kws,?_,?_⟩
   ·refine⟨_,rfl,rfl,_,rfl,?_⟩
    rw[show decide (V.str "refill" = V.str "refill")=true from decide_eq_true rfl]
    refine F5 ?_
    refine⟨_,rfl,al,_,_,_,rfl,rfl,SqL.of el3,rfl,_,rfl,aa,_,_,1,rfl,rfl,eaa,rfl,rfl,?_⟩
    have f:∀b o,H3 b=some o->b≠aa->upd H3 aa (.lst [.int ((k.m:Nat):Int),.int x,.ref l,.ref dn]) b=some o:=λb o e n=>by rw[B4 n];exact e
    have nla:l≠aa:=λz=>nlaa z
    refine⟨λb o e=>f _ _ (sH _ _ e) (λz=>by rw[z,aan] at e;cases e),⟨l,ug,B2,aan,ln,f _ _ el1 nla,E6 t2'⟩,kvs,f _ _ edn nal.symm,kv3.mv λb xs e=>f _ _ e λz=>?_⟩
    rw[z,eaa] at e;cases e
   rintro σ' H4 ⟨rfl,sH4,fin⟩
   refine C3 W hW λW hW=>?_
   refine⟨fun σ' H'=>σ'=[some (.ref a),some (.ref ad),some (.str "refill"),some (.ref al),some (.ref dn),some (.ref aa)]/\H4=H',?_,?_⟩
   ·refine⟨_,rfl,rfl,_,rfl,?_⟩
    rw[show decide (V.str "refill" = V.str "aim")=false from decide_eq_false (DD)]
    exact D0 ⟨rfl,rfl⟩
   rintro σ' _ ⟨rfl,rfl⟩
   subst hW
   exact⟨_,rfl,told aa dn H4 fin hdn sH4⟩
  | aim x=>
   have t1:ThV TT0 H v1 (.str "aim"):=t1
   cases t1
   obtain⟨u1,rfl,c1⟩:=Y5 tul
   obtain⟨ag,uag,rfl,_,eag,tag⟩:=K8 c1
   refine C3 W hW λW hW=>?_
   refine⟨fun σ' H'=>σ'=[some (.ref a),some (.ref ad),some (.str "aim"),some (.ref al),some (.ref dn),some (.ref aa)]/\H3=H',?_,?_⟩
   ·refine⟨_,rfl,rfl,_,rfl,?_⟩
    rw[show decide (V.str "aim" = V.str "lay")=false from decide_eq_false (DD)]
    exact D0 ⟨rfl,rfl⟩
   rintro σ' _ ⟨rfl,rfl⟩
   refine C3 W hW λW hW=>?_
   refine⟨fun σ' H'=>σ'=[some (.ref a),some (.ref ad),some (.str "aim"),some (.ref al),some (.ref dn),some (.ref aa)]/\H3=H',?_,?_⟩
   ·refine⟨_,rfl,rfl,_,rfl,?_⟩
    rw[show decide (V.str "aim" = V.str "lift")=false from decide_eq_false (DD)]
    exact D0 ⟨rfl,rfl⟩
   rintro σ' _ ⟨rfl,rfl⟩
   refine C3 W hW λW hW=>?_
   refine⟨fun σ' H'=>σ'=[some (.ref a),some (.ref ad),some (.str "aim"),some (.ref al),some (.ref dn),some (.ref aa)]/\H3=H',?_,?_⟩
   ·refine⟨_,rfl,rfl,_,rfl,?_⟩
    rw[show decide (V.str "aim" = V.str "turn")=false from decide_eq_false (DD)]
    exact D0 ⟨rfl,rfl⟩
   rintro σ' _ ⟨rfl,rfl⟩
   refine C3 W hW λW hW=>?_
   refine⟨fun σ' H'=>σ'=[some (.ref a),some (.ref ad),some (.str "aim"),some (.ref al),some (.ref dn),some (.ref aa)]/\H3=H',?_,?_⟩
   ·refine⟨_,rfl,rfl,_,rfl,?_⟩
    rw[show decide (V.str "aim" = V.str "refill")=false from decide_eq_false (DD)]
    exact D0 ⟨rfl,rfl⟩
   rintro σ' _ ⟨rfl,rfl⟩
   refine C3 W hW λW hW=>?_
   refine⟨fun σ' H'=>σ'=[some (.ref a),some (.ref ad),some (.str "aim"),some (.ref al),some (.ref dn),some (.ref aa)]/\Same H H'/\O8 (λb=>H b=none) H' aa dn k.m k.st x k.kws,?_,?_⟩
   ·refine⟨_,rfl,rfl,_,rfl,?_⟩
    rw[show decide (V.str "aim" = V.str "aim")=true from decide_eq_true rfl]
    refine F5 ?_
    refine⟨_,rfl,al,_,_,_,rfl,rfl,SqL.of el3,rfl,ag,uag,rfl,.inl (SqL.of (sH _ _ eag)),λl5 hl5=>?_⟩
    have s5:=Same.upd (o:=.lst uag) hl5
    refine⟨_,rfl,aa,_,_,2,rfl,rfl,s5 _ _ eaa,rfl,rfl,?_⟩
    have f:∀b o,upd H3 l5 (.lst uag) b=some o->b≠aa->upd (upd H3 l5 (.lst uag)) aa (.lst [.int ((k.m:Nat):Int),.int k.st,.ref l5,.ref dn]) b=some o:=λb o e n=>by rw[B4 n];exact e
    have nla:l5≠aa:=λz=>by rw[z,eaa] at hl5;cases hl5
    refine⟨λb o e=>f _ _ (s5 _ _ (sH _ _ e)) (λz=>by rw[z,aan] at e;cases e),⟨l5,uag,B2,aan,sH.early hl5,f _ _ B2 nla,E6 tag⟩,kvs,f _ _ (s5 _ _ edn) nal.symm,(kv3.mv λb xs e=>s5 _ _ e).mv λb xs e=>f _ _ e λz=>?_⟩
    rw[z,s5 _ _ eaa] at e;cases e
   rintro σ' H4 ⟨rfl,sH4,fin⟩
   subst hW
   exact⟨_,rfl,told aa dn H4 fin hdn sH4⟩
def S6 (x0:Int) (j:Nat):Int:=(x0 - 1 + ((j:Nat):Int)) % 1000000000000000000 + 1
theorem D3z (x0:Int) (j:Nat):S6 x0 (j + 1)=S6 x0 j % 1000000000000000000 + 1:=by unfold S6;lia
theorem D30 (x0:Int) (j:Nat):o9 (S6 x0 j):=by unfold S6 o9;lia
theorem D31 {x0:Int} (h:o9 x0):S6 x0 0=x0:=by unfold o9 at h;unfold S6;lia
theorem D32 {x0:Int} {i j:Nat} (hi:i<=1000) (hj:j<=1000) (h:S6 x0 i=S6 x0 j):i=j:=by unfold S6 at h;lia
theorem C1d {α:Type} [BEq α] [LawfulBEq α]:∀{l k:List α},l.Nodup->(∀x∈l,x∈k)->l.length<=k.length
 | [],_,_,_=>J7 _
 | x::t,k,nd,h=>by
  have hx:=h x D4
  obtain⟨nx,nt⟩:=g8.mp nd
  have:=C1d (k:=k.erase x) nt λy hy=>(List.mem_erase_of_ne (λz=>nx (by rw[<-z];exact hy))).mpr (h y (C8 _ hy))
  rw[List.length_erase_of_mem hx] at this
  have:0 < k.length:=List.length_pos_of_mem hx
  rw[G6];lia
theorem D33 {x0:Int} {ks:List Int} {j:Nat} (hj:j<=1000) (h:∀i,i < j->S6 x0 i∈ks):j<=ks.length:=by
 have:=C1d (l:=(G9 j).map (S6 x0)) (k:=ks) ?_ λx hx=>?_
 ·rw[C1,R6] at this;exact this
 ·refine List.pairwise_map.mpr ?_
  refine List.Pairwise.imp_of_mem (λ{a b} ha hb n z=>?_) (List.nodup_range (n:=j))
  exact n (D32 (by have:=U7.mp ha;lia) (by have:=U7.mp hb;lia) z)
 ·obtain⟨i,hi,rfl⟩:=N0.mp hx
  exact h i (U7.mp hi)
def F4 (n:Nat) (d:PyData):Prop:=d.canLay0=true/\d.depth<=n
theorem F4.all {n:Nat}:∀{ds:List PyData},(∀d∈ds,F4 n d)->PyData.canLayAll0 ds=true/\PyData.depthAll ds<=n
 | [],_=>⟨rfl,J7 _⟩
 | d::ds,h=>by
  obtain⟨a,b⟩:=F4.all λx hx=>h x (C8 _ hx)
  obtain⟨a1,b1⟩:=h d D4
  constructor
  ·show (PyData.canLay0 d&&PyData.canLayAll0 ds)=true
   rw[a,a1];rfl
  ·show max (PyData.depth d) (PyData.depthAll ds)<=n
   lia
theorem F4.lst {n:Nat} {ds:List PyData} (h:∀d∈ds,F4 n d):F4 (n + 1) (.list ds):=by
 obtain⟨a,b⟩:=F4.all h
 refine⟨by rw[PyData.canLay0];exact a,?_⟩
 show PyData.depthAll ds + 1<=n + 1
 lia
theorem F4.tup {n:Nat} {ds:List PyData} (h:∀d∈ds,F4 n d):F4 (n + 1) (.tuple ds):=by
 obtain⟨a,b⟩:=F4.all h
 refine⟨by rw[PyData.canLay0];exact a,?_⟩
 show PyData.depthAll ds + 1<=n + 1
 lia
theorem F4.int {n:Nat} (i:Int):F4 n (.int i):=⟨rfl,J7 _⟩
theorem F4.non {n:Nat}:F4 n .none:=⟨rfl,J7 _⟩
theorem F4.bl {n:Nat} (b:Bool):F4 n (.bool b):=⟨rfl,J7 _⟩
theorem F4.o {n:Nat} (o:Option Int):F4 n (oD o):=by cases o <;> exact⟨rfl,J7 _⟩
theorem F4.tab (t:Tb):F4 1 (.list (B8 t)):=F4.lst λd hd=>by
 unfold B8 at hd
 obtain⟨o,_,rfl⟩:=N0.mp hd
 exact .o o
theorem F4.two {n:Nat} {a b:PyData} (ha:F4 n a) (hb:F4 n b):∀d∈[a,b],F4 n d:=λd hd=>by
 rcases J1.mp hd with rfl | hd
 ·exact ha
 rw[Y7.mp hd];exact hb
theorem F4.dep {n:Nat} {a:PyData} (h:F4 n a) (l:n<=64) (b:PyData):min a.depth b.depth<=64:=by have:=h.2;lia
theorem F4.same {n:Nat} {a:PyData} (h:F4 n a):PyData.eqv a a=true:=PySem.SeqAt.eqv_refl _ h.1
def D34:Sp:=λvs H Q _=>∃(F:Addr->Prop) (hd hl a dc:Addr) (k:Kst) (sc mo:Int),vs=[.ref hd,.ref a,.int sc,.int mo]/\Hd H hd hl/\(∀b,F b->b≠hd)/\O8 F H a dc k.m k.st k.g k.kws/\KOk k.m k.st k.g k.kws/\(0<=sc/\sc<=1000000000000000000)/\(0<=mo/\mo<=10000000000000000000)/\
 ∀dd v H',p5 k dd->(A74 dd->k.kws.length < 8)->ThV (F9 H) H' v (A18 dd)->(∀b o,H b=some o->b≠hd->H' b=some o)->Hd H' hd hl->Q v H'
theorem C1e {F:Addr->Prop} {H:Hp}:∀xs:List Int,A9 F H (xs.map V.int) (xs.map PyData.int)
 | []=>.nil
 | x::xs=>.cons (.int _) (C1e xs)
theorem F4.ints (ns:List Int):F4 1 (.list (ns.map PyData.int)):=F4.lst λd hd=>by
 obtain⟨n,_,rfl⟩:=N0.mp hd
 exact⟨rfl,J7 _⟩
theorem D35 {c:TT} {t u:TS} {D:Y8} {σ:St} {H:Hp} (good:Bool->Hp->Prop) (h:∀Qx:Bool->Hp->Prop,(∀b H2,good b H2->Qx b H2)->c σ H Qx) (h2:∀b H2,good b H2->if b=true then t D σ H2 else u D σ H2):B6b c t u D σ H:=h _ h2
theorem C1f {H:Hp} {hd hl b:Addr} {xs:List V} (h:Hd H hd hl) (e:H b=some (.tup xs)):b≠hd:=λz=>by
 obtain⟨_,_,_,_,_,_,_,_,y⟩:=h
 rw[z,y] at e;cases e
theorem D36 {F:Addr->Prop} {ms:List Md} {sp:DSp} {vs:List V} {ds:List PyData} {H:Hp} {Q:VK} {E:XK} {hd hl:Addr} (hF:(∀b,H b=none->F b)/\∀b xs,H b=some (.tup xs)->F b) (nh:¬ F hd) (Qd:PyData->Prop) (d:Hd H hd hl) (ar:X9 F (some (hd,hl)) H ms vs ds) (h:sp (.none::ds) Qd) (k:∀d v H',Qd d->ThV F H' v d->Kq (some (hd,hl)) H H'->Hd H' hd hl->Q v H'):spD (.hd::ms) sp (.ref hd::vs) H Q E:=
 ⟨F,some (hd,hl),.none::ds,Qd,hF,λq hq=>by cases hq;exact nh,λq hq=>by cases hq;exact d,.cons ⟨_,rfl,rfl⟩ ar,h,λd v H' a b c z=>k d v H' a b c (z _ rfl)⟩
theorem D37 (T:Txt K mg):C0 P w K mg base CX0 6 T.cP.a T.cP.d ["_law_hand_here", "_law_state_here", "_law_scale_here", "_law_most"] D34:=by
 have ak:=@A5z P w K mg base T
 have am:=T.af.b
 have fB:=@D3q P w K mg base T
 have fC:=T.bI.b
 have eI:=@C1a P w K mg base T
 have eJ:=T.bM.b
 refine T.cP.F.ok A14 (λvs H Q E h=>?_) (λcdv A outer s H vs Q E hr h=>?_)
 ·obtain⟨F,hd,hl,a,dc,k,sc,mo,rfl,_⟩:=h
  rfl
 ·obtain⟨F,hd,hl,a,dc,k,sc,mo,rfl,hh,hF,sa,ok,hsc,hmo,told⟩:=h
  obtain⟨⟨gl,ug,e1,f1,f2,e2,t2⟩,kvs,e3,kv⟩:=sa
  refine⟨_,(B5 (C2 (i:=4) A14.nd rfl (B9 rfl) (B3 ak (hr.mono DD) rfl T.af.m T.af.F.kp am .nil A8 (A2 (pv 0) (A2 B1 A4 E4) A1)))
   (B5 (C2 (i:=5) A14.nd rfl (B9 rfl) (J8 (B22 rfl) rfl T.du B10 (A2 (C6 D6 (pv 1) B1 (λ_ _=>rfl)) A4 A7)))
   (B5 (J0 (G4 (PW.pt (A6q (PW.pt (A6p (J2 Z1 (pv 4) B1 (D5 _)) (A6n (J2 Z1 (J8 b8 rfl T.bC Z4 (A2 (pv 5) A4 A1)) B1 (D5 _))))) (A6o (PW.pt (A6p (J2 (A60 (O0 hr)) (pv 5) (V2 A4) (D5 _)) (A6n (J2 Z1 (pv 4) B1 (D5 _))))))))
   (B5 (C2 (i:=6) A14.nd rfl (B9 rfl) (C6 D6 (V2 (A2 (J5 O2 B1 (B3 ak (hr.mono DD) rfl T.af.m T.af.F.kp am .nil A8 (A2 (pv 0) (A2 B1 A4 E4) A1))) (A2 (J5 O2 B1 (B3 ak (hr.mono DD) rfl T.af.m T.af.F.kp am .nil A8 (A2 (pv 0) (A2 (J5 b7 B1 B1) A4 K0) A1))) A4 K0) K0)) (B3 ak (hr.mono DD) rfl T.af.m T.af.F.kp am .nil A8 (A2 (pv 0) (A2 B1 A4 E4) A1)) (λ_ _=>rfl)))
   (B5 (A4s S9 (B1a (B88 (u1 (O0 hr)) (pv 6) (C6 D6 (pv 1) B1 (λ_ _=>rfl))))
   (C5 (C2 (i:=6) A14.nd rfl (B9 rfl) (J5 O2 (J5 y9 (pv 6) (J5 b7 B1 B1)) B1))))
   (B5 (C2 (i:=7) A14.nd rfl (B9 rfl) (B3 ak (hr.mono DD) rfl T.af.m T.af.F.kp am .nil A8 (A2 (pv 0) (A2 (C6 D6 (pv 1) B1 (λ_ _=>rfl)) A4 A7) A1)))
   (B5 (C2 (i:=8) A14.nd rfl (B9 rfl) (C6 D6 (V2 (A2 (B3 ak (hr.mono DD) rfl T.af.m T.af.F.kp am .nil A8 (A2 (pv 0) (A2 (C6 D6 (pv 1) B1 (λ_ _=>rfl)) A4 A7) A1)) (A2 (J5 y9 (J5 O2 (pv 7) B1) (C6 D6 (pv 1) B1 (λ_ _=>rfl))) A4 K0) D7)) (B3 ak (hr.mono DD) rfl T.af.m T.af.F.kp am .nil A8 (A2 (pv 0) (A2 B1 A4 E4) A1)) (λ_ _=>rfl)))
   (C5 (F2 (Q0 (A2 Y9 (A2 (V2 (A2 (pv 6) (A2 (pv 7) (A2 (pv 8) (A2 (B3 fB (hr.mono DD) rfl T.bI.m T.bI.F.kp fC .nil A8 (A2 (pv 0) (A2 (pv 2) A4 A1) A1)) A4 D7) A1) A1) A1)) A4 A2s) E4))))))))
   G7))
   (B5 (J0 (G4 (J2 Z1 (pv 4) B1 (D5 _))
   (C5 (F2 (Q0 (A2 Y9 (A2 (V2 (A2 (C6 D6 (pv 5) (B3 ak (hr.mono DD) rfl T.af.m T.af.F.kp am .nil A8 (A2 (pv 0) (A2 (J8 b8 rfl T.bC Z4 (A2 (pv 5) A4 A1)) A4 D7) A1)) (λ_ _=>rfl)) A4 A7)) A4 A2s) E4))))
   G7))
   (B5 (J0 (G4 (J2 Z1 (pv 4) B1 (D5 _))
   (C5 (F2 (Q0 (A2 Y9 (A2 (V2 (A2 (C6 D6 (pv 5) (B3 ak (hr.mono DD) rfl T.af.m T.af.F.kp am .nil A8 (A2 (pv 0) (A2 (J8 b8 rfl T.bC Z4 (A2 (pv 5) A4 A1)) A4 D7) A1)) (λ_ _=>rfl)) (A2 (B3 fB (hr.mono DD) rfl T.bI.m T.bI.F.kp fC .nil A8 (A2 (pv 0) (A2 (pv 2) A4 A1) A1)) A4 D7) A7)) A4 A2s) E4))))
   G7))
   (B5 (J0 (G4 (J2 Q4 (pv 4) B1 (D5 _))
   (B5 (C2 (i:=9) A14.nd rfl (B9 rfl) (J8 (C5u rfl) rfl T.cS A2r (A2 (J5 B7d (V2 (A2 B1 A4 E4)) (V4 (M2.new (N:=["_law_hand_here", "_law_state_here", "_law_scale_here", "_law_most", "_law_way", "_law_labels", "_law_label", "_law_start", "_law_end", "_law_low"]) (osc:=B6 A96) KK) rfl (Z0 (C6 D6 (pv 1) B1 (λ_ _=>rfl))) (λ_=>(B1x (J2 A4v (pv 10) w5 (D5 _)))) (λ_=>(pv 10)))) A4 K0)))
   (C5 (F2 (Q0 (A2 Y9 (A2 (V2 (A2 (J5 O2 (pv 9) (B3 ak (hr.mono DD) rfl T.af.m T.af.F.kp am .nil A8 (A2 (pv 0) (A2 (J8 (A6y rfl) rfl T.cS A2r (A2 B1 (A2 (J5 A4t (J5 O2 (pv 3) B1) (pv 9)) A4 K0) E4)) A4 D7) A1))) A4 K0)) A4 A2s) E4)))))
   G7))
   (C5 (F2 (Q0 (A2 Y9 (A2 (V2 (A2 (B3 eI (hr.mono DD) rfl T.bM.m T.bM.F.kp eJ .nil A8 (A2 (pv 0) (A2 (C6 D6 (pv 1) B1 (λ_ _=>rfl)) (A2 (C6 D6 (pv 1) B1 (λ_ _=>rfl)) A4 A7) A7) A1)) A4 D7)) A4 A2s) E4)))))))))),?_⟩
  try dsimp only[N1,Cx.nox]
  have drw:∀(n:Int) (Hx:Hp) (Qv:VK),0 < n->n < 100000000000000000000000000000000000000->Hd Hx hd hl->(∀r Hy,0<=r->r < n->(∀b o,Hx b=some o->b≠hd->Hy b=some o)->Hd Hy hd hl->Qv (.int r) Hy)->spD [.hd,.sh] B4y [.ref hd,.int n] Hx Qv E0:=λn Hx Qv n0 n1 hx q=>
   A52 (E:=E0) (λd=>∃r:Int,(0<=r/\r < n)/\d=.int r) hx (.cons (.int _) .nil) ⟨n,rfl,n0,OO,λr r0 r1=>⟨r,⟨r0,r1⟩,rfl⟩⟩ λd v Hy hd' tv ky hy=>by
    obtain⟨r,⟨r0,r1⟩,rfl⟩:=hd'
    cases tv
    exact q r Hy r0 r1 (λb o e n=>ky b o e λq hq=>by cases hq;exact n) hy
  have chg:∀(Hx:Hp) (Qv:VK),Hd Hx hd hl->(∀r Hy,-1000000000000000000<=r->r<=1000000000000000000->(∀b o,Hx b=some o->b≠hd->Hy b=some o)->Hd Hy hd hl->Qv (.int r) Hy)->spD [.hd,.sh] C08 [.ref hd,.int sc] Hx Qv E0:=λHx Qv hx q=>
   A52 (E:=E0) (λd=>∃r:Int,(-1000000000000000000<=r/\r<=1000000000000000000)/\d=.int r) hx (.cons (.int _) .nil) ⟨_,sc,rfl,hsc.1,hsc.2,λr r0 r1=>⟨r,⟨OO,OO⟩,rfl⟩⟩ λd v Hy hd' tv ky hy=>by
    obtain⟨r,⟨r0,r1⟩,rfl⟩:=hd'
    cases tv
    exact q r Hy r0 r1 (λb o e n=>ky b o e λq hq=>by cases hq;exact n) hy
  have fin:∀(dd:L6) (us:List V) (Hx:Hp) (q1 q2:Addr),p5 k dd->(A74 dd->k.kws.length < 8)->A9 (F9 H) Hx us dd.args->Hx q1=none->upd Hx q1 (.lst us) q2=none->Hd Hx hd hl->(∀b o,H b=some o->b≠hd->Hx b=some o)->Q (.ref q2) (upd (upd Hx q1 (.lst us)) q2 (.tup [.str dd.word,.ref q1])):=λdd us Hx q1 q2 dok il tus n1 n2 hx kx=>by
   have s1:Same Hx (upd Hx q1 (.lst us)):=Same.upd n1
   have s2:=Same.upd (o:=.tup [.str dd.word,.ref q1]) n2
   have s12:=s1.tr s2
   have back:∀b,Hx b=none->H b=none:=λb hb=>by
    cases z:H b with
    | none=>rfl
    | some o=>
     by_cases c:b=hd
     ·obtain⟨_,_,_,_,_,_,_,_,e⟩:=hx
      rw[c,e] at hb;cases hb
     ·rw[kx _ _ z c] at hb;cases hb
   exact told dd (.ref q2) _ dok il (.tup (.inl (back _ (s1.early n2))) B2 (.cons (.str _) (.cons (.lst (.inl (back _ n1)) (s2 _ _ B2) ((tus.keep s1).keep s2)) .nil))) (λb o e n=>s12 _ _ (kx b o e n)) (hx.same s12)
  have few:=ok.few
  have m1:=ok.m1
  have m2:=ok.m2
  have lk:(E8 k.kws).length < 64:=by unfold E8;rw[C1];lia
  have nea:=hF _ f1
  refine T7 λW hW=>?_
  refine⟨_,rfl,A52 (E:=E0) (λd=>∃u:Int,(0<=u/\u < 8)/\d=.int u) hh (.cons (.int _) .nil) ⟨8,rfl,DD,DD,λu u0 u1=>⟨u,⟨u0,u1⟩,rfl⟩⟩ λd v Ha hd' tv ka ha=>?_⟩
  obtain⟨u,⟨u0,u8⟩,rfl⟩:=hd'
  cases tv
  have kH:∀b o,H b=some o->b≠hd->Ha b=some o:=λb o e n=>ka b o e λq hq=>by cases hq;exact n
  have ndc:dc≠hd:=λz=>by
   obtain⟨_,_,_,_,_,_,_,_,e⟩:=hh
   rw[z,e] at e3;cases e3
  refine C3 W hW λW hW=>?_
  refine⟨_,rfl,a,_,_,_,rfl,rfl,SqL.of (kH _ _ e1 nea),rfl,dc,kvs,_,rfl,kH _ _ e3 ndc,kv.keys,lk,λl1 ms hl1 hp hs=>?_⟩
  have ems:=B5b hp hs
  subst ems
  obtain⟨H1,hH1⟩:∃H1,H1=upd Ha l1 (.lst ((srt (E8 k.kws)).map V.int)):=⟨_,rfl⟩
  rw[<-hH1]
  have s1:Same Ha H1:=by rw[hH1];exact Same.upd hl1
  have el1:H1 l1=some (.lst ((srt (E8 k.kws)).map V.int)):=by rw[hH1];exact B2
  have h1:=ha.same s1
  have nl1:l1≠hd:=λz=>by
   obtain⟨_,_,_,_,_,_,_,_,e⟩:=ha
   rw[z,e] at hl1;cases hl1
  clear hH1 hp hs
  have lsr:(srt (E8 k.kws)).length=k.kws.length:=by rw[(A0m _).length_eq];unfold E8;rw[C1]
  have k1:∀b o,H b=some o->b≠hd->H1 b=some o:=λb o e n=>s1 _ _ (kH b o e n)
  clear kH ka ha s1
  refine C3 W hW λW hW=>?_
  refine⟨fun σ' H'=>σ'=[some (.ref hd),some (.ref a),some (.int sc),some (.int mo),some (.int u),some (.ref l1),none,none,none,none]/\Same H1 H'/\(u < 6->srt (E8 k.kws)≠[]),?_,?_⟩
  ·refine D35 (λb H2=>Same H1 H2/\(b=true->k.kws.length < 8)/\(b=false->u < 6->srt (E8 k.kws)≠[])) (λQx hQ=>?_) (λb H2 hb=>?_)
   ·-- the test
    have tl:∀H2,Same H1 H2->ThV TT0 H2 (.ref l1) (.list ((srt (E8 k.kws)).map PyData.int)):=λH2 s2=>.lst trivial (s2 _ _ el1) (C1e _)
    have snd:(¬ (u < 4/\k.kws.length < 8))->B6a (A8r (tOp (A80 K false) (W1 5) (B6s V1))) (A8r (tOp (rI0 λi j=>V.bl (decide (i < j))) (W1 4) (tC (V.int 6)))) [some (.ref hd),some (.ref a),some (.int sc),some (.int mo),some (.int u),some (.ref l1),none,none,none,none] H1 Qx:=λhn=>by
     refine⟨_,rfl,by show 0<=sizeLine;decide,λt ht=>?_⟩
     have s2:Same H1 (upd H1 t (.lst [])):=Same.upd ht
     have L1:=F4.ints (srt (E8 k.kws))
     have L0:F4 1 (.list []):=F4.lst λd hd=>by cases hd
     refine⟨_,_,ThV.dat (tl _ s2) L1.1,ThV.dat (F:=TT0) (.lst trivial B2 .nil) L0.1,L1.1,L0.1,L1.dep DD _,_,rfl,?_⟩
     cases e:srt (E8 k.kws) with
     | nil=>
      rw[A6d,L0.same]
      refine F5 ⟨_,rfl,_,_,rfl,rfl,_,rfl,?_⟩
      have z0:k.kws.length=0:=by rw[<-lsr,e];rfl
      by_cases c6:u < 6
      ·rw[decide_eq_true c6]
       exact hQ true _ ⟨s2,λ_=>OO,λz=>by cases z⟩
      ·rw[decide_eq_false c6]
       exact hQ false _ ⟨s2,(λz=>by cases z),λ_ z=>absurd z c6⟩
     | cons x xs=>
      rw[show PyData.eqv (.list ((x::xs).map PyData.int)) (.list [])=false from rfl]
      exact D0 (hQ false _ ⟨s2,(λz=>by cases z),λ_ _ z=>by rw[e] at z;cases z⟩)
    refine⟨_,rfl,_,_,rfl,rfl,_,rfl,?_⟩
    by_cases c4:u < 4
    ·rw[decide_eq_true c4]
     refine F5 ⟨_,rfl,l1,_,rfl,.inl (SqL.of el1),_,_,rfl,rfl,_,rfl,?_⟩
     rw[C1,lsr]
     by_cases c8:k.kws.length < 8
     ·rw[decide_eq_true (show ((k.kws.length:Nat):Int) < 8 by lia)]
      exact F5 (hQ true H1 ⟨λ_ _ e=>e,λ_=>c8,λz=>by cases z⟩)
     ·rw[decide_eq_false (show ¬ ((k.kws.length:Nat):Int) < 8 by lia)]
      exact D0 (snd λz=>c8 z.2)
    ·rw[decide_eq_false c4]
     exact D0 (D0 (snd λz=>c4 z.1))
   ·obtain⟨s2,g1,g2⟩:=hb
    cases b with
    | false=>exact D0 ⟨rfl,s2,g2 rfl⟩
    | true=>
    refine F5 ?_
    have c8:=g1 rfl
    have h2:=h1.same s2
    have k2:∀b o,H b=some o->b≠hd->H2 b=some o:=λb o e n=>s2 _ _ (k1 b o e n)
    clear g1 g2
    refine⟨_,rfl,drw 12 H2 _ DD DD h2 λr1 H3 r10 r11 k3 h3=>?_⟩
    refine⟨_,_,rfl,rfl,_,rfl,_,_,rfl,rfl,⟨DD,DD,DD⟩,?_⟩
    refine drw 1000000000000000000 H3 _ DD DD h3 λr2 H4 r20 r21 k4 h4=>?_
    refine⟨_,_,rfl,rfl,by show 2<=sizeLine;decide,λlx hlx=>?_⟩
    have s5:Same H4 _:=Same.upd (o:=.lst [.int (1 + r1),.int (1 + r2)]) hlx
    refine⟨_,rfl,drw 2 _ _ DD DD (h4.same s5) λr3 H5 r30 r31 k5 h5=>?_⟩
    have elx:=k5 _ _ (B2 (H:=H4) (a:=lx)) (λz=>by
     obtain⟨_,_,_,_,_,_,_,_,e⟩:=h4
     rw[z,e] at hlx;cases hlx)
    obtain⟨x0,hx0,lx0⟩:∃x0,atI [V.int (1 + r1),V.int (1 + r2)] r3=some (V.int x0)/\o9 x0:=by
     unfold o9
     rcases lt2 r30 r31 with rfl | rfl
     ·exact⟨_,rfl,OO,OO⟩
     ·exact⟨_,rfl,OO,OO⟩
    refine⟨lx,_,_,_,rfl,rfl,SqL.of elx,hx0,?_⟩
    have kh5:∀b o,H b=some o->b≠hd->H5 b=some o:=λb o e n=>k5 _ _ (s5 _ _ (k4 _ _ (k3 _ _ (k2 b o e n) n) n)) n
    clear k5 k4 k3 k2 s5 elx hlx h4 h3 h2 s2
    refine⟨λn σ Hn=>∃j:Nat,j + n=k.kws.length/\σ=[some (.ref hd),some (.ref a),some (.int sc),some (.int mo),some (.int u),some (.ref l1),some (.int (S6 x0 j)),none,none,none]/\Hn=H5/\∀i,i < j->S6 x0 i∈E8 k.kws,?_,?_⟩
    ·exact⟨k.kws.length,0,OO,by rw[D31 lx0];rfl,rfl,λi hi=>absurd hi (B56 _)⟩
    rintro n σ Hn ⟨j,hj,rfl,rfl,hall⟩
    refine⟨_,rfl,_,rfl,a,_,_,_,rfl,rfl,SqL.of (kh5 _ _ e1 nea),rfl,dc,_,rfl,V6.k (k:=Sum.inl (S6 x0 j)) (kh5 _ _ e3 ndc),_,rfl,?_⟩
    rcases kv.val (S6 x0 j) with ⟨hv,hn⟩ | ⟨v0,w0,hv,hw,_⟩
    ·rw[hv]
     refine D0 ?_
     have lok:=D30 x0 j
     refine⟨_,rfl,_,rfl,a,_,_,_,rfl,rfl,SqL.of (kh5 _ _ e1 nea),rfl,drw _ _ _ OO OO h5 λr4 H6 r40 r41 k6 h6=>?_⟩
     have e16:=k6 _ _ (kh5 _ _ e1 nea) nea
     refine⟨_,rfl,_,rfl,a,_,_,_,rfl,rfl,SqL.of e16,rfl,drw _ _ _ OO OO h6 λr5 H7 r50 r51 k7 h7=>?_⟩
     have e17:=k7 _ _ e16 nea
     refine⟨_,rfl,_,_,rfl,rfl,_,rfl,a,_,_,_,rfl,rfl,SqL.of e17,rfl,_,_,rfl,rfl,OO,by show 2<=sizeLine;decide,λly hly=>?_⟩
     have s8:Same H7 _:=Same.upd (o:=.lst [.int r5,.int ((r4 + 1) % ((k.m:Nat):Int))]) hly
     refine⟨_,rfl,drw 2 _ _ DD DD (h7.same s8) λr6 H8 r60 r61 k8 h8=>?_⟩
     have ely:=k8 _ _ (B2 (H:=H7) (a:=ly)) (λz=>by
      obtain⟨_,_,_,_,_,_,_,_,e⟩:=h7
      rw[z,e] at hly;cases hly)
     obtain⟨en,hen,en0,en1⟩:∃en,atI [V.int r5,V.int ((r4 + 1) % ((k.m:Nat):Int))] r6=some (V.int en)/\0<=en/\en < ((k.m:Nat):Int):=by
      rcases lt2 r60 r61 with rfl | rfl
      ·exact⟨_,rfl,OO,OO⟩
      ·exact⟨_,rfl,B05 _ OO,B55 _ OO⟩
     refine⟨ly,_,_,_,rfl,rfl,SqL.of ely,hen,?_⟩
     have kh8:∀b o,H b=some o->b≠hd->H8 b=some o:=λb o e n=>k8 _ _ (s8 _ _ (k7 _ _ (k6 _ _ (kh5 b o e n) n) n)) n
     clear k6 k7 k8 s8 ely hly
     refine⟨_,rfl,_,rfl,_,rfl,_,rfl,_,rfl,chg H8 _ h8 λc H9 c0 c1 k9 h9=>⟨by show 4<=sizeLine;decide,λq1 hq1=>⟨by show 2<=sizeLine;decide,λq2 hq2=>?_⟩⟩⟩
     refine fin (.lay (S6 x0 j) (r4.toNat,en.toNat,c)) [.int (S6 x0 j),.int r4,.int en,.int c] H9 q1 q2 ⟨lok,hn,⟨by show r4.toNat < k.m;lia,by show en.toNat < k.m;lia,c0,c1⟩,OO⟩ (λ_=>c8) ?_ hq1 hq2 h9 λb o e n=>k9 _ _ (kh8 b o e n) n
     show A9 _ H9 _ [.int (S6 x0 j),.int ((r4.toNat:Nat):Int),.int ((en.toNat:Nat):Int),.int c]
     rw[C2n r40,C2n en0]
     exact .cons (.int _) (.cons (.int _) (.cons (.int _) (.cons (.int _) .nil)))
    ·rw[hv]
     refine F5 ?_
     refine⟨_,fun σ' H2 h=>h,?_⟩
     have hin:S6 x0 j∈E8 k.kws:=N0.mpr ⟨_,A7y hw,rfl⟩
     have hall':∀i,i < j + 1->S6 x0 i∈E8 k.kws:=λi hi=>by
      rcases Nat.lt_or_ge i j with z | z
      ·exact hall i z
      ·rw[show i=j by lia];exact hin
     have hle:=D33 (j:=j + 1) OO hall'
     rw[show (E8 k.kws).length=k.kws.length by unfold E8;rw[C1]] at hle
     refine⟨_,rfl,_,_,rfl,rfl,⟨DD,DD,DD⟩,_,_,rfl,rfl,(show (0:Int) < 10 ^ Int.toNat 18 by decide),_,_,rfl,rfl,?_⟩
     exact⟨n - 1,OO,j + 1,OO,by rw[D3z];rfl,rfl,hall'⟩
  rintro σ' H2 ⟨rfl,s2,g2⟩
  have h2:=h1.same s2
  have k2:∀b o,H b=some o->b≠hd->H2 b=some o:=λb o e n=>s2 _ _ (k1 b o e n)
  have el2:=s2 _ _ el1
  have lpos:u < 6->0 < (srt (E8 k.kws)).length:=λz=>C2k.mpr (g2 z)
  have pick:∀r:Int,0<=r->r < (((srt (E8 k.kws)).map V.int).length:Nat)->∃x,atI ((srt (E8 k.kws)).map V.int) r=some (.int x)/\o9 x/\∃w,Q2 k.kws x=some w:=λr r0 r1=>by
   rw[C1] at r1
   have hr1:r.toNat < (srt (E8 k.kws)).length:=by lia
   have hm:=(A0m (E8 k.kws)).mem_iff.mp (B54 hr1)
   obtain⟨w,hw⟩:=A55 hm
   refine⟨(srt (E8 k.kws))[r.toNat],?_,(ok.way _ (A7y hw)).1,w,hw⟩
   have:=z4 (xs:=(srt (E8 k.kws)).map V.int) (j:=r.toNat) (v:=.int ((srt (E8 k.kws))[r.toNat])) (by rw[L8,M9 hr1];rfl)
   rw[C2n r0] at this
   exact this
  clear s2 g2 h1 k1 el1
  refine C3 W hW λW hW=>?_
  refine⟨fun σ' H'=>σ'=[some (.ref hd),some (.ref a),some (.int sc),some (.int mo),some (.int u),some (.ref l1),none,none,none,none]/\H2=H'/\5<=u,?_,?_⟩
  ·refine⟨_,rfl,_,_,rfl,rfl,_,rfl,?_⟩
   by_cases c5:u < 5
   ·rw[decide_eq_true c5]
    have lp:=lpos (OO)
    refine F5 ⟨_,rfl,_,rfl,_,rfl,l1,_,rfl,.inl (SqL.of el2),drw _ _ _ (by rw[C1];lia) (by rw[C1];lia) h2 λr H3 r0 r1 k3 h3=>?_⟩
    obtain⟨x,hx,lx,w0,hw⟩:=pick r r0 r1
    refine⟨l1,_,_,_,rfl,rfl,SqL.of (k3 _ _ el2 nl1),hx,by show 1<=sizeLine;decide,λq1 hq1=>⟨by show 2<=sizeLine;decide,λq2 hq2=>?_⟩⟩
    exact fin (.lift x) [.int x] H3 q1 q2 ⟨lx,w0,hw⟩ (λz=>by obtain⟨_,_,z⟩:=z;cases z) (.cons (.int _) .nil) hq1 hq2 h3 λb o e n=>k3 _ _ (k2 b o e n) n
   ·rw[decide_eq_false c5]
    exact D0 ⟨rfl,rfl,OO⟩
  rintro σ' _ ⟨rfl,rfl,c5⟩
  refine C3 W hW λW hW=>?_
  refine⟨fun σ' H'=>σ'=[some (.ref hd),some (.ref a),some (.int sc),some (.int mo),some (.int u),some (.ref l1),none,none,none,none]/\H2=H'/\6<=u,?_,?_⟩
  ·refine⟨_,rfl,_,_,rfl,rfl,_,rfl,?_⟩
   by_cases c6:u < 6
   ·rw[decide_eq_true c6]
    have lp:=lpos c6
    refine F5 ⟨_,rfl,_,rfl,_,rfl,l1,_,rfl,.inl (SqL.of el2),drw _ _ _ (by rw[C1];lia) (by rw[C1];lia) h2 λr H3 r0 r1 k3 h3=>?_⟩
    obtain⟨x,hx,lx,w0,hw⟩:=pick r r0 r1
    refine⟨l1,_,_,_,rfl,rfl,SqL.of (k3 _ _ el2 nl1),hx,_,rfl,_,rfl,chg H3 _ h3 λc H9 c0 c1 k9 h9=>⟨by show 2<=sizeLine;decide,λq1 hq1=>⟨by show 2<=sizeLine;decide,λq2 hq2=>?_⟩⟩⟩
    exact fin (.turn x c) [.int x,.int c] H9 q1 q2 ⟨⟨lx,w0,hw⟩,c0,c1⟩ (λz=>by obtain⟨_,_,z⟩:=z;cases z) (.cons (.int _) (.cons (.int _) .nil)) hq1 hq2 h9 λb o e n=>k9 _ _ (k3 _ _ (k2 b o e n) n) n
   ·rw[decide_eq_false c6]
    exact D0 ⟨rfl,rfl,OO⟩
  rintro σ' _ ⟨rfl,rfl,c6⟩
  refine C3 W hW λW hW=>?_
  refine⟨fun σ' H'=>(∃z9,σ'=[some (.ref hd),some (.ref a),some (.int sc),some (.int mo),some (.int u),some (.ref l1),none,none,none,z9])/\H2=H',?_,?_⟩
  ·refine⟨_,rfl,rfl,_,rfl,?_⟩
   by_cases c7:u=6
   ·subst c7
    rw[show decide (V.int 6=V.int 6)=true from decide_eq_true rfl]
    refine F5 ?_
    have lug:ug.length=k.m:=by rw[t2.len,Y2];exact ok.gt.len
    refine⟨by show 1<=sizeLine;decide,λb0 hb0=>?_⟩
    obtain⟨H3,hH3⟩:∃H3,H3=upd H2 b0 (.lst [.int 0]):=⟨_,rfl⟩
    rw[<-hH3]
    have s3:Same H2 H3:=by rw[hH3];exact Same.upd hb0
    have eb0:H3 b0=some (.lst [.int 0]):=by rw[hH3];exact B2
    clear hH3
    have neg:=hF _ f2
    refine⟨_,rfl,a,_,_,_,rfl,rfl,SqL.of (s3 _ _ (k2 _ _ e1 nea)),rfl,gl,rfl,⟨ug,SqL.of (s3 _ _ (k2 _ _ e2 neg))⟩,?_⟩
    refine A0a (xs:=ug) (λi ys Hn=>Hn=H3/\ys=((k.g.take i).filterMap id).map V.int) ?_ ⟨rfl,rfl⟩ ?_ ?_ ?_
    ·rw[lug,sizeLine_eq];lia
    ·rintro i ys Hn hi ⟨rfl,rfl⟩
     refine⟨?_,SqL.of (s3 _ _ (k2 _ _ e2 neg))⟩
     rw[C1]
     exact T8 (List.length_filterMap_le _ _) (by rw[b4];lia)
    ·rintro i x ys Hn hx ⟨rfl,rfl⟩ ca
     obtain⟨d,hd',tx⟩:=B49 t2 hx
     unfold B8 at hd'
     rw[L8] at hd'
     obtain⟨o,ho,rfl⟩:=A0v.mp hd'
     rw[A2g,ho,List.filterMap_append,P2]
     cases o with
     | none=>
      cases (show ThV TT0 H x .none from tx)
      refine⟨_,rfl,rfl,_,rfl,?_⟩
      rw[show (!decide (V.non=V.non))=false by rw[decide_eq_true rfl];rfl]
      exact D0 ⟨rfl,by rw[show (Option.toList (some (none:Option Int))).filterMap id=[] from rfl,A6d,Y6]⟩
     | some y=>
      cases (show ThV TT0 H x (.int y) from tx)
      refine⟨_,rfl,rfl,_,rfl,?_⟩
      rw[show (!decide (V.int y=V.non))=true by rw[decide_eq_false (λz=>by cases z)];rfl]
      exact F5 ⟨_,rfl,rfl,rfl⟩
    rintro ys Hn ⟨rfl,rfl⟩ b1 hb1
    rw[lug,B02 (by rw[ok.gt.len];exact E1 _)]
    obtain⟨lv,hlv⟩:∃lv,lv=k.g.filterMap id:=⟨_,rfl⟩
    rw[<-hlv]
    have llv:lv.length<=12:=by rw[hlv];exact T8 (List.length_filterMap_le _ _) (by rw[ok.gt.len];exact m2)
    have s4:Same Hn _:=Same.upd (o:=.lst (lv.map V.int)) hb1
    refine⟨b0,b1,_,_,rfl,rfl,s4 _ _ eb0,B2,by rw[C1,sizeLine_eq];show 1 + _<=_;lia,λb2 hb2=>?_⟩
    have s5:=Same.upd (o:=.lst ([.int 0]++lv.map V.int)) hb2
    refine⟨b2,0::lv,rfl,SqL.of B2,by simp,λM hM=>?_⟩
    have M0:0<=M:=hM.2 0 D4
    have M1:M<=k.st:=by
     rcases J1.mp hM.1 with z | z
     ·rw[z];exact ok.s0
     ·rw[hlv] at z
      obtain⟨o,ho,e⟩:=B5q.mp z
      have e:o=some M:=e
      subst e
      obtain⟨p,hp⟩:=C0y ho
      exact (ok.gt.bd p M hp).2
    have Mall:∀p x,gt k.g p=some x->x<=M:=λp x h=>by
     refine hM.2 x (C8 _ ?_)
     rw[hlv]
     refine B5q.mpr ⟨some x,?_,rfl⟩
     rcases Nat.lt_or_ge p k.g.length with z | z
     ·have:=A7f z
      rw[h] at this
      exact Q9 this
     ·rw[A5l z] at h;cases h
    have s1k:=ok.s1
    have h6:=((h2.same s3).same s4).same s5
    refine⟨_,rfl,_,rfl,_,rfl,_,_,rfl,rfl,_,rfl,_,_,rfl,rfl,_,_,rfl,drw _ _ _ (by split <;> lia) (by split <;> lia) h6 λr H7 r0 r1 k7 h7=>?_⟩
    refine⟨_,_,rfl,rfl,by show 1<=sizeLine;decide,λq1 hq1=>⟨by show 2<=sizeLine;decide,λq2 hq2=>?_⟩⟩
    have rB:M + r<=100000000000000000000:=by
     split at r1 <;> lia
    exact fin (.refill (M + r)) [.int (M + r)] H7 q1 q2 ⟨⟨OO,rB⟩,ok.gt.len,λp y h=>⟨(ok.gt.bd p y h).1,by have:=Mall p y h;lia⟩⟩ (λz=>by obtain⟨_,_,z⟩:=z;cases z) (.cons (.int _) .nil) hq1 hq2 h7 λb o e n=>k7 _ _ (s5 _ _ (s4 _ _ (s3 _ _ (k2 b o e n)))) n
   ·rw[show decide (V.int u=V.int 6)=false from decide_eq_false λz=>c7 (by cases z;rfl)]
    exact D0 ⟨⟨_,rfl⟩,rfl⟩
  rintro σ' _ ⟨⟨z9,rfl⟩,rfl⟩
  subst hW
  have s1k:=ok.s1
  have bk2:∀b,H2 b=none->H b=none:=λb hb=>by
   cases z:H b with
   | none=>rfl
   | some o=>rw[k2 _ _ z (h2.ne hb).1] at hb;cases hb
  have bt2:∀b xs,H2 b=some (.tup xs)->F9 H b:=λb xs hb=>by
   cases z:H b with
   | none=>exact .inl z
   | some o=>
    rw[k2 _ _ z (C1f h2 hb)] at hb
    cases hb
    exact .inr ⟨_,z⟩
  refine⟨_,rfl,_,rfl,a,_,_,_,rfl,rfl,SqL.of (k2 _ _ e1 nea),rfl,_,rfl,a,_,_,_,rfl,rfl,SqL.of (k2 _ _ e1 nea),rfl,D36 (F:=λb=>b≠hd/\F9 H b) (E:=E0) ⟨λb hb=>⟨(h2.ne hb).1,.inl (bk2 b hb)⟩,λb xs hb=>⟨C1f h2 hb,bt2 b xs hb⟩⟩ (λz=>z.1 rfl) (λd=>∃t,F7 k.m k.st t/\d=.list (B8 t)) h2 (.cons (.int _) (.cons (.int _) .nil)) ⟨_,k.m,k.st,rfl,OO,ok.s0,OO,λt ht=>⟨t,ht,rfl⟩⟩ λd v H3 hd' tv k3 h3=>⟨by show 1<=sizeLine;decide,λq1 hq1=>⟨by show 2<=sizeLine;decide,λq2 hq2=>?_⟩⟩⟩
  obtain⟨t,ht,rfl⟩:=hd'
  refine fin (.aim t) [v] H3 q1 q2 ht (λz=>by obtain⟨_,_,z⟩:=z;cases z) (.cons ?_ .nil) hq1 hq2 h3 λb o e n=>k3 b o (k2 b o e n) λq hq=>by cases hq;exact n
  exact tv.mv λb o z e=>⟨z.2,e⟩
def C1g (a b:Option Int):Bool:=match a,b with
 | none,_=>false
 | some _,none=>true
 | some x,some y=>decide (x < y)
theorem D38 (a b:Option Int):C1g a b=!A53 b a:=by
 cases a with
 | none=>cases b <;> rfl
 | some x=>
  cases b with
  | none=>rfl
  | some y=>
   show decide (x < y)=!decide (y<=x)
   by_cases h:x < y
   ·rw[decide_eq_true h,decide_eq_false (OO)];rfl
   ·rw[decide_eq_false h,decide_eq_true (show y<=x by lia)];rfl
theorem C1h (t o:Tb):A1e t o=(G9 t.length).filter λp=>C1g (gt t p) (gt o p):=by
 unfold A1e
 congr 1
 funext p
 exact (D38 _ _).symm
theorem F4.numL (ns:List Nat):F4 1 (.list (numL ns)):=F4.lst λd hd=>by
 obtain⟨n,_,rfl⟩:=N0.mp hd
 exact⟨rfl,J7 _⟩
theorem F4.mov (a b:Tb):F4 2 (B0o a b):=F4.tup (F4.two (F4.numL _) (F4.numL _))
abbrev Frp (p d:Addr) (H H':Hp):Prop:=∀b o,H b=some o->b≠p->b≠d->H' b=some o
theorem B5f {F:Addr->Prop} {C:Addr} {H H':Hp} {p d:Addr} {k:Kst} (kp:D1 F C H' p d k) (fr:Frp p d H H') {b:Addr} (hb:H' b=none):H b=none:=by
 cases z:H b with
 | none=>rfl
 | some o=>
  have pd:=A4b kp
  by_cases c1:b=p
  ·rw[c1] at hb;exact absurd hb pd.2.1
  ·by_cases c2:b=d
   ·rw[c2] at hb;exact absurd hb pd.2.2
   ·rw[fr _ _ z c1 c2] at hb;cases hb
theorem D39 {k:Kst}:∀{dd:L6},p5 k dd->(A74 dd->k.kws.length < 8)->k.kws.length<=8->(J3 k dd).kws.length<=8
 | .lay x w,⟨_,hn,_⟩,il,_=>by
  show (Y3 k.kws x w).length<=8
  rw[C02 hn,P0,C2g]
  exact il ⟨x,w,rfl⟩
 | .lift x,_,_,h=>T8 (A8a _ _) h
 | .turn x c,⟨⟨_,w,hw⟩,_⟩,_,h=>by
  show (Y3 k.kws x (o8 k.kws x c)).length<=8
  rw[B0p hw,C1]
  exact h
 | .refill s,_,_,h=>h
 | .aim g,_,_,h=>h
theorem D4a {H:Hp} {hd hl b:Addr} {o:HO} (h:Hd H hd hl) (e:H b=some o) (n:∀xs,o≠.lst xs):b≠hd:=λz=>by
 obtain⟨_,_,_,_,_,_,_,_,e'⟩:=h
 rw[z,e'] at e
 cases e
 exact n _ rfl
theorem D4b {H H':Hp} {hd hl a dc:Addr} {m:Nat} {st:Int} {g:Tb} {kws:Kw} (s:O8 (λb=>b≠hd) H a dc m st g kws) (h:Hd H hd hl) (k:∀b o,H b=some o->b≠hd->H' b=some o):O8 (λb=>b≠hd) H' a dc m st g kws:=
 s.mv (λb o e n _=>k _ _ e (by
  by_cases c:∃xs,o=.lst xs
  ·obtain⟨xs,c⟩:=c
   exact n xs c
  ·exact D4a h e λxs z=>c ⟨xs,z⟩)) λ_ z=>z
theorem D4c {F G:Addr->Prop} {C:Addr} {H H':Hp} {a dc p d:Addr} {m:Nat} {st:Int} {g:Tb} {kws:Kw} {k:Kst} (s:O8 F H a dc m st g kws) (kp:D1 G C H p d k) (ne:dc≠d) (fr:Frp p d H H'):O8 F H' a dc m st g kws:=by
 have mv:∀b xs,H b=some (.lst xs)->H' b=some (.lst xs):=λb xs e=>fr _ _ e (F6 kp e).1 (F6 kp e).2
 obtain⟨⟨gl,ug,e1,f1,f2,e2,t2⟩,kvs,e3,kv⟩:=s
 have n3:dc≠p:=λz=>by
  obtain⟨⟨dx,g,l,_,_,e,_⟩,_⟩:=kp
  rw[z,e] at e3;cases e3
 exact⟨⟨gl,ug,mv _ _ e1,f1,f2,mv _ _ e2,E6 t2⟩,kvs,fr _ _ e3 n3 ne,kv.mv λb xs e=>fr _ _ e (O1 kp e).1 (O1 kp e).2⟩
theorem C1i {G:Addr->Prop} {C:Addr} {H H':Hp} {hd hl p d:Addr} {k:Kst} (h:Hd H hd hl) (kp:D1 G C H p d k) (fr:Frp p d H H'):Hd H' hd hl:=by
 have mv:∀b xs,H b=some (.lst xs)->H' b=some (.lst xs):=λb xs e=>fr _ _ e (F6 kp e).1 (F6 kp e).2
 obtain⟨ns,q,b,c,u,v,h1,h2,h3⟩:=h
 exact⟨ns,q,b,c,u,v,mv _ _ h1,h2,mv _ _ h3⟩
def kwD (x:Int) (w:Wy):PyData:=.tuple [.int x,.int ((w.1:Nat):Int),.int ((w.2.1:Nat):Int),.int w.2.2]
def A19 (kws:Kw):List PyData:=(srt (E8 kws)).map λk=>kwD k ((Q2 kws k).getD (0,0,0))
def D4d (k:Kst) (ds:List PyData):Prop:=ds=[]/\(E8 k.kws).length < 64
def D4e (k:Kst) (_:List PyData) (r:PyData) (k':Kst):Prop:=r=.list (A19 k.kws)/\k'=k
def D4f (k:Kst) (_:List PyData) (r:PyData) (k':Kst):Prop:=r=.int k.st/\k'=k
def D4g (k:Kst) (_:List PyData) (r:PyData) (k':Kst):Prop:=r=.list (B8 k.g)/\k'=k
theorem D4h {F:Addr->Prop} {H:Hp} {vs:List V} {d1 d2 d3:PyData} (t:A9 F H vs [d1,d2,d3]):∃v1 v2 v3,vs=[v1,v2,v3]/\ThV F H v1 d1/\ThV F H v2 d2/\ThV F H v3 d3:=by
 cases t with
 | cons x1 t=>
 obtain⟨v2,v3,rfl,t2,t3⟩:=Q1 t
 exact⟨_,v2,v3,rfl,x1,t2,t3⟩
theorem D4i (T:Txt K mg):C0 P w K mg base CX0 1 T.cf.a T.cf.d ["self"] (g6 T.ac B5d D4f):=by
 refine T.cf.F.ok C9q (λvs H Q E h=>?_) (λcdv A outer s H vs Q E hr h=>?_)
 ·obtain⟨F,p,d,k,us,ds,rfl,_,_,tus,rfl,_⟩:=h
  cases tus;rfl
 ·obtain⟨F,p,d,k,us,ds,rfl,hF,kp,tus,rfl,told⟩:=h
  cases tus
  have kp0:=kp
  obtain⟨⟨dx,g,l,ug,ul,e1,g1,e2,t2,g3,e3,t3⟩,kvs,e4,kv⟩:=kp
  refine⟨_,(C5 (F2 (N6 (pv 0) rfl))),?_⟩
  refine⟨_,rfl,p,_,dx,_,_,rfl,e1,T.ae,T.cc,A7z,?_⟩
  exact told _ _ k _ ⟨rfl,rfl⟩ kp0 (.int _) (λb o e _ _=>e) (D2w kp0)
theorem D4j (T:Txt K mg):C0 P w K mg base CX0 1 T.cr.a T.cr.d ["self"] (g6 T.ac B5d D4g):=by
 refine T.cr.F.ok C9r (λvs H Q E h=>?_) (λcdv A outer s H vs Q E hr h=>?_)
 ·obtain⟨F,p,d,k,us,ds,rfl,_,_,tus,rfl,_⟩:=h
  cases tus;rfl
 ·obtain⟨F,p,d,k,us,ds,rfl,hF,kp,tus,rfl,told⟩:=h
  cases tus
  have kp0:=kp
  obtain⟨⟨dx,g,l,ug,ul,e1,g1,e2,t2,g3,e3,t3⟩,kvs,e4,kv⟩:=kp
  refine⟨_,(C5 (F2 (R8 W7 rfl T.au R9 (A2 (N6 (pv 0) rfl) A4 K4)))),?_⟩
  refine⟨_,rfl,p,_,dx,_,_,rfl,e1,T.ae,T.bN,B0m,g,ug,rfl,.inl (SqL.of e2),λl2 hl2=>?_⟩
  exact told _ _ k _ ⟨rfl,rfl⟩ (kp0.same (Same.upd hl2)) (.lst (.inl hl2) B2 (E6 t2)) (λb o e _ _=>Same.upd hl2 _ _ e) (B5c (kp0.ex.same (Same.upd hl2)) hl2 B2)
theorem D4k (T:Txt K mg):C0 P w K mg base CX0 1 T.cq.a T.cq.d ["self"] (g6 T.ac D4d D4e):=by
 refine T.cq.F.ok B0f (λvs H Q E h=>?_) (λcdv A outer s H vs Q E hr h=>?_)
 ·obtain⟨F,p,d,k,us,ds,rfl,_,_,tus,⟨rfl,_⟩,_⟩:=h
  cases tus;rfl
 ·obtain⟨F,p,d,k,us,ds,rfl,hF,kp,tus,⟨rfl,hk⟩,told⟩:=h
  cases tus
  have kp0:=kp
  obtain⟨⟨dx,g,l,ug,ul,e1,g1,e2,t2,g3,e3,t3⟩,kvs,e4,kv⟩:=kp
  refine⟨_,(B5 (C2 (i:=1) B0f.nd rfl (B9 rfl) (V2 A4))
   (B5 (X5 S9 rfl (Z0 (J8 (B22 rfl) rfl T.du B10 (A2 (N6 (pv 0) rfl) A4 K4))) (P9 (i:=2) B0f.nd rfl (B9 rfl))
   (B5 (C2 (i:=3) B0f.nd rfl (B9 rfl) (A7m (u1 (O0 hr)) (N6 (pv 0) rfl) (pv 2) (λ_ _=>rfl)))
   (C5 (P8 (z5 t9 A4q A4r A1l (pv 1) (A2 (Q0 (A2 (pv 2) (A2 (C6 X6 (pv 3) (C9 (v:=V.int 0) rfl T.g_START.m ⟨_,rfl⟩) (λ_ _=>rfl)) (A2 (C6 X6 (pv 3) (C9 (v:=V.int 1) rfl T.g_END.m ⟨_,rfl⟩) (λ_ _=>rfl)) (A2 (C6 X6 (pv 3) (C9 (v:=V.int 2) rfl T.g_CHANGE.m ⟨_,rfl⟩) (λ_ _=>rfl)) A4 A7) A7) A7) A1)) A4 X8))))))
   (C5 (F2 (pv 1))))),?_⟩
  try dsimp only[N1,Cx.nox]
  refine T7 λW hW=>?_
  refine⟨by show 0<=sizeLine;decide,λtl htl=>?_⟩
  have s1:Same H (upd H tl (.lst [])):=Same.upd htl
  refine C3 W hW λW hW=>?_
  refine⟨_,rfl,p,_,dx,_,_,rfl,s1 _ _ e1,T.ae,T.bf,o7,d,kvs,_,rfl,s1 _ _ e4,kv.keys,hk,λl1 ms hl1 hp hs=>?_⟩
  have ems:=B5b hp hs
  subst ems
  obtain⟨H2,hH2⟩:∃H2,H2=upd (upd H tl (.lst [])) l1 (.lst ((srt (E8 k.kws)).map V.int)):=⟨_,rfl⟩
  rw[<-hH2]
  have s2:Same H H2:=by rw[hH2];exact s1.tr (Same.upd hl1)
  have el1:H2 l1=some (.lst ((srt (E8 k.kws)).map V.int)):=by rw[hH2];exact B2
  have etl:H2 tl=some (.lst []):=by rw[hH2];exact Same.upd hl1 _ _ B2
  have nlt:l1≠tl:=λz=>by rw[z,B2] at hl1;cases hl1
  have lsr:(srt (E8 k.kws)).length < 64:=by rw[(A0m _).length_eq];exact hk
  have lkw:(A19 k.kws).length=(srt (E8 k.kws)).length:=by unfold A19;rw[C1]
  clear hH2
  refine⟨l1,rfl,⟨_,SqL.of el1⟩,?_⟩
  refine A8n (xs:=(srt (E8 k.kws)).map V.int) (λi σ' H'=>∃ys x2 x3,σ'=[some (.ref p),some (.ref tl),x2,x3]/\Same H H'/\H' tl=some (.lst ys)/\H' l1=some (.lst ((srt (E8 k.kws)).map V.int))/\A9 (λb=>F9 H b/\b≠tl) H' ys ((A19 k.kws).take i)) ⟨[],none,none,rfl,s2,etl,el1,.nil⟩ ?_ ?_ ?_
  ·rintro i σ' H' hi ⟨ys,x2,x3,rfl,sH,et,el,ty⟩
   exact SqL.of el
  ·rintro i x σ' H' hx ⟨ys,x2,x3,rfl,sH,et,el,ty⟩
   rw[L8] at hx
   obtain⟨n,hn,rfl⟩:=A0v.mp hx
   obtain⟨w0,hw0⟩:=A55 ((A0m _).mem_iff.mp (Q9 hn))
   have hwi:(A19 k.kws)[i]?=some (kwD n w0):=by
    unfold A19
    rw[L8,hn,A2i,hw0];rfl
   rcases kv.val n with ⟨_,z⟩ | ⟨v0,w1,hv,hw1,tv⟩
   ·rw[hw0] at z;cases z
   rw[hw0] at hw1
   cases hw1
   obtain⟨tw,uw,rfl,_,ew,tuw⟩:=V5 (show ThV TT0 H v0 (.tuple [.int ((w0.1:Nat):Int),.int ((w0.2.1:Nat):Int),.int w0.2.2]) from tv)
   obtain⟨v1,v2,v3,rfl,tv1,tv2,tv3⟩:=D4h tuw
   cases tv1
   cases tv2
   cases tv3
   have ew':=sH _ _ ew
   refine⟨_,rfl,p,_,dx,_,_,rfl,sH _ _ e1,T.ae,T.bf,o7,_,rfl,d,_,rfl,by rw[<-hv];exact V6.k (k:=Sum.inl n) (sH _ _ e4),?_⟩
   refine⟨_,rfl,.inl ⟨rfl,_,SqL.of et⟩,_,rfl,_,rfl,.inr (.inl ⟨tw,_,0,_,rfl,rfl,SqT.of ew',rfl,_,rfl,.inr (.inl ⟨tw,_,1,_,rfl,rfl,SqT.of ew',rfl,_,rfl,.inr (.inl ⟨tw,_,2,_,rfl,rfl,SqT.of ew',rfl,by show 4<=sizeLine;decide,λq hq=>?_⟩)⟩)⟩)⟩
   have s3:Same H' (upd H' q (.tup [.int n,.int ((w0.1:Nat):Int),.int ((w0.2.1:Nat):Int),.int w0.2.2])):=Same.upd hq
   have nq:q≠tl:=λz=>by rw[z,et] at hq;cases hq
   have lys:ys.length<=63:=by rw[ty.len,b4,lkw];lia
   refine⟨tl,ys,_,rfl,rfl,s3 _ _ et,by rw[sizeLine_eq];lia,?_⟩
   have k4:∀b o,upd H' q (.tup [.int n,.int ((w0.1:Nat):Int),.int ((w0.2.1:Nat):Int),.int w0.2.2]) b=some o->b≠tl->upd (upd H' q (.tup [.int n,.int ((w0.1:Nat):Int),.int ((w0.2.1:Nat):Int),.int w0.2.2])) tl (.lst (ys++[.ref q])) b=some o:=λb o e n=>by rw[B4 n];exact e
   refine⟨_,_,_,rfl,λb o e=>k4 _ _ (s3 _ _ (sH _ _ e)) (λz=>by rw[z,htl] at e;cases e),B2,k4 _ _ (s3 _ _ el) nlt,?_⟩
   rw[A2g,hwi]
   refine (ty.mv λb o z e=>⟨z,k4 _ _ (s3 _ _ e) z.2⟩).append (.cons (.tup ⟨.inl (sH.early hq),nq⟩ (k4 _ _ B2 nq) (.cons (.int _) (.cons (.int _) (.cons (.int _) (.cons (.int _) .nil))))) .nil)
  ·rintro σ' H' ⟨ys,x2,x3,rfl,sH,et,el,ty⟩
   rw[C1,<-lkw,A2j] at ty
   subst hW
   refine⟨_,rfl,?_⟩
   exact told _ _ k _ ⟨rfl,rfl⟩ (kp0.same sH) (.lst (.inl htl) et (ty.mv λb o z e=>⟨z.1,e⟩)) (λb o e _ _=>sH _ _ e) (B5c (kp0.ex.same sH) htl et)
def bkP (ps:List Pt):List Pt:=ps.reverse.map λp=>(p.1.reverse,p.2)
theorem C1j (ps:List Pt):(bkP ps).length=ps.length:=by unfold bkP;rw[C1,b5]
theorem D4l {ps:List Pt} {k:Nat} (h:∀pt∈ps,pt.1.length<=k):∀pt∈bkP ps,pt.1.length<=k:=λpt hp=>by
 unfold bkP at hp
 obtain⟨q,hq,rfl⟩:=N0.mp hp
 show q.1.reverse.length<=k
 rw[b5]
 exact h q (List.mem_reverse.mp hq)
theorem D4m {K:B0} {a0:Addr} {xs:List V} {nn j:Nat} {σ:L2.St} {tt:CA->TT} {te:CA->TE} {H1:Hp} {Q:List V->Hp->Prop} (Pv:Nat->List V->Hp->Prop) (hz:xs.length < sizeLine) (h0:Pv 0 [] H1)
  (hl:∀i ys H,i<=xs.length->Pv i ys H->ys.length<=i/\SqL K H a0 xs)
  (hs:∀i x ys H,xs.reverse[i]?=some x->Pv i ys H->∀a:CA,tt a ((Q5 nn j σ).set j (some x)) H λb H2=>if b=true then te a ((Q5 nn j σ).set j (some x)) H2 λy H3=>Pv (i + 1) (ys++[y]) H3 else Pv (i + 1) ys H2)
  (hd:∀ys H,Pv xs.length ys H->Q ys H):A4y σ nn j tt te (Itv K a0 xs.length) H1 Q:=by
 refine⟨λi m ys H=>m=xs.length - i/\i<=xs.length/\Pv i ys H,⟨xs.length,by simp,J7 _,h0⟩,?_⟩
 rintro i m ys H ⟨rfl,hi,p⟩
 obtain⟨hy,q⟩:=hl i ys H hi p
 refine⟨OO,?_⟩
 by_cases hlt:i < xs.length
 ·refine .inr ⟨⟨xs,xs.reverse[i]'(by rw[b5];exact hlt),q,rfl,M9 _⟩,Pv (i + 1),λys' H' p'=>⟨xs.length - (i + 1),OO,rfl,hlt,p'⟩,λx H' y=>?_⟩
  obtain⟨e,y⟩:=y
  subst e
  exact hs i x ys _ (y xs q) p
 ·have e:i=xs.length:=by lia
  subst e
  exact .inl ⟨E1 _,hd ys H p⟩
theorem D4n {G:Addr->Prop} {H H1 H':Hp} {ys:List V} {ds:List PyData} {fp:List Addr} {l2 t2:Addr} {lns:List V} {pt:Pt} (sm:Same H1 H') (Tf:E7 G H' ys ds fp) (nd:fp.Nodup) (nw:∀b∈fp,H1 b=none) (hG:∀b,H' b=none->G b) (hl2:H' l2=none) (ht2:upd H' l2 (.lst lns) t2=none) (hln:lns=pt.1.map λn=>V.int ((n:Nat):Int)) :
  Same H1 (upd (upd H' l2 (.lst lns)) t2 (.tup [.ref l2,.int pt.2]))/\E7 G (upd (upd H' l2 (.lst lns)) t2 (.tup [.ref l2,.int pt.2])) (ys++[.ref t2]) (ds++[P6 pt]) (fp++[l2])/\(fp++[l2]).Nodup/\∀b∈fp++[l2],H1 b=none:=by
 have k2:∀b o,H' b=some o->upd H' l2 (.lst lns) b=some o:=λb o e=>by rw[B4 (Q3 e hl2)];exact e
 have k3:∀b o,H' b=some o->upd (upd H' l2 (.lst lns)) t2 (.tup [.ref l2,.int pt.2]) b=some o:=λb o e=>by rw[B4 (Q3 (k2 b o e) ht2)];exact k2 b o e
 have ht2':H' t2=none:=by
  cases z:H' t2 with
  | none=>rfl
  | some o=>rw[k2 _ _ z] at ht2;cases ht2
 have kn1:∀b,H' b=none->H1 b=none:=λb hb=>by
  cases z:H1 b with
  | none=>rfl
  | some o=>rw[sm _ _ z] at hb;cases hb
 have el2:upd (upd H' l2 (.lst lns)) t2 (.tup [.ref l2,.int pt.2]) l2=some (.lst lns):=by rw[B4 (Q3 B2 ht2)];exact B2
 have hu:E7 G (upd (upd H' l2 (.lst lns)) t2 (.tup [.ref l2,.int pt.2])) lns (numL pt.1) []:=by
  rw[hln]
  have:∀ns:List Nat,E7 G (upd (upd H' l2 (.lst lns)) t2 (.tup [.ref l2,.int pt.2])) (ns.map λn=>V.int ((n:Nat):Int)) (numL ns) []:=λns=>by
   induction ns with
   | nil=>exact .nil
   | cons n ns ih=>exact E7.cons (fp:=[]) (fps:=[]) (.int _) ih
  rw[hln] at this
  exact this pt.1
 have item:FpV G (upd (upd H' l2 (.lst lns)) t2 (.tup [.ref l2,.int pt.2])) (.ref t2) (P6 pt) ([l2]++([]++[])):=.tup (hG _ ht2') B2 (.cons (.lst (hG _ hl2) el2 hu) (.cons (.int _) .nil))
 refine⟨λb o e=>k3 b o (sm b o e),?_,?_,λb hb=>?_⟩
 ·have:=(Tf.mvm (G:=G) λb o g e _=>⟨g,k3 b o e⟩).append (.cons item .nil)
  simpa using this
 ·refine A6l.mpr ⟨nd,by simp,λb hb c hc e=>?_⟩
  have:c=l2:=by simpa using hc
  subst this
  subst e
  obtain⟨_,xs,ex⟩:=Tf.mem b hb
  rw[ex] at hl2;cases hl2
 ·rcases V8.mp hb with h | h
  ·exact nw b h
  ·have:b=l2:=by simpa using h
   subst this
   exact kn1 b hl2
theorem C1k {F:Addr->Prop} {H:Hp}:∀{ns:List Nat} {vs:List V},A9 F H vs (numL ns)->vs=ns.map λn=>V.int ((n:Nat):Int)
 | [],_,h=>by cases h;rfl
 | n::ns,_,h=>by
  cases h with
  | cons x t=>
   cases x
   rw[C1k t];rfl
def D4o:Sp:=λvs H Q _=>∃(F:Addr->Prop) (v:V) (ps:List Pt),vs=[v]/\ThV F H v (.list (ps.map P6))/\ps.length<=900/\∀v' H' fp,Same H H'->FpV (λb=>H b=none\/∃xs,H b=some (.tup xs)) H' v' (.list ((bkP ps).map P6)) fp->fp.Nodup->Q v' H'
theorem D4p (T:Txt K mg):C0 P w K mg base CX0 1 T.bF.a T.bF.d ["trip"] D4o:=by
 refine T.bF.F.ok C9a (λvs H Q E h=>?_) (λcdv A outer s H vs Q E hr h=>?_)
 ·obtain⟨F,v,ps,rfl,_⟩:=h
  rfl
 ·obtain⟨F,v,ps,rfl,tv,hn,q⟩:=h
  refine⟨_,(C5 (F2 (V4 (M2.new (N:=["trip"]) (osc:=B6 A9u) KK) rfl (B7x rfl T.cj (A2 (pv 0) A4 A1)) (λ_=>d8) (λ_=>(Q0 (A2 (B7v rfl T.au rfl T.cj rfl (A2 (C6 X6 (pv 1) (C9 (v:=V.int 0) rfl T.g_NUMBERS.m ⟨_,rfl⟩) (λ_ _=>rfl)) A4 A7)) (A2 (C6 X6 (pv 1) (C9 (v:=V.int 1) rfl T.g_TIMES.m ⟨_,rfl⟩) (λ_ _=>rfl)) A4 A7) D7)))))),?_⟩
  let G:Addr->Prop:=λb=>H b=none\/∃xs,H b=some (.tup xs)
  obtain⟨lb,us,rfl,_,elb,tus⟩:=K8 tv
  refine⟨_,rfl,lb,us,rfl,SqL.of elb,?_⟩
  refine D4m (xs:=us) (λi ys H'=>Same H H'/\ys.length=i/\∃fp,E7 G H' ys (((bkP ps).take i).map P6) fp/\fp.Nodup/\∀b∈fp,H b=none) ?_ ?_ ?_ ?_ ?_
  ·rw[tus.len,C1,sizeLine_eq];lia
  ·exact⟨Same.refl _,rfl,[],.nil,j8,λb hb=>nomatch hb⟩
  ·exact λi ys H' _ h=>⟨by rw[h.2.1];exact E1 _,SqL.of (h.1 _ _ elb)⟩
  ·rintro i x ys H' hx ⟨sm,hl,fp,Tf,nd,nw⟩ ca
   obtain⟨dp,hdp,tx⟩:=tus.rev.get hx
   rw[<-B06,L8] at hdp
   obtain⟨pt,hpt,rfl⟩:=A0v.mp hdp
   obtain⟨tb,xb,rfl,_,etb,tb2⟩:=V5 tx
   obtain⟨b1,b2,rfl,tb3,tb4⟩:=Q1 tb2
   cases tb4
   obtain⟨ln,lns,rfl,_,eln,tln⟩:=K8 tb3
   have etb':=sm _ _ etb
   have eln':=sm _ _ eln
   unfold b9
   refine F5 ?_
   refine⟨_,rfl,.inr (.inl ⟨tb,_,0,_,rfl,rfl,SqT.of etb',rfl,ln,lns,rfl,SqL.of eln',λl2 hl2=>?_⟩)⟩
   have k2:∀b o,H' b=some o->upd H' l2 (.lst lns.reverse) b=some o:=λb o e=>by rw[B4 (Q3 e hl2)];exact e
   refine⟨_,rfl,.inr (.inl ⟨tb,_,1,_,rfl,rfl,SqT.of (k2 _ _ etb'),rfl,by show 2<=sizeLine;decide,λt2 ht2=>?_⟩)⟩
   have kn:∀b,H' b=none->G b:=λb hb=>by
    cases z:H b with
    | none=>exact .inl z
    | some o=>rw[sm _ _ z] at hb;cases hb
   obtain⟨r1,r2,r3,r4⟩:=D4n (pt:=(pt.1.reverse,pt.2)) (lns:=lns.reverse) (H:=H) sm Tf nd nw kn hl2 ht2 (by rw[C1k tln,B06])
   refine⟨r1,by rw[P0,hl];rfl,_,?_,r3,r4⟩
   have hb:(bkP ps)[i]?=some (pt.1.reverse,pt.2):=by unfold bkP;rw[L8,hpt];rfl
   rw[A2g,hb,P2]
   exact r2
  rintro ys H2 ⟨sm,hl,fp,Tf,nd,nw⟩ p hp
  have hk:us.length=(bkP ps).length:=by rw[tus.len,C1,C1j]
  rw[hk,A2j] at Tf
  have k2:∀b o,H2 b=some o->upd H2 p (.lst ys) b=some o:=λb o e=>by rw[B4 (Q3 e hp)];exact e
  have pn:H p=none:=by
   cases z:H p with
   | none=>rfl
   | some o=>rw[sm _ _ z] at hp;cases hp
  refine q (.ref p) _ (p::fp) (λb o e=>k2 _ _ (sm _ _ e)) (.lst (.inl pn) B2 (Tf.mvm λb o g e _=>⟨g,k2 _ _ e⟩)) (g8.mpr ⟨λhb=>?_,nd⟩)
  obtain⟨_,xs,ex⟩:=Tf.mem p hb
  rw[hp] at ex;cases ex
def bkO:Option Rd->PyData
 | none=>.none
 | some r=>.tuple [.int ((r.1:Nat):Int),.list ((bkP r.2).map P6)]
theorem D4q {m:Nat} {ws:List Wy} {st:Int} {b t:Tb} {trs:List (Option Rd)} {r:Rd} (h:A7v m ws st b t trs) (hr:some r∈trs):r.2.length<=40:=by
 obtain⟨p,hp,e⟩:=A6g.mp hr
 have e2:trs[p]?=some (some r):=by rw[M9 hp,e]
 cases eg:gt t p with
 | none=>rw[h.no p (by rw[<-h.len];exact hp) eg] at e2;cases e2
 | some x=>
  obtain⟨r',h1,h2⟩:=h.yes p x eg
  rw[h1] at e2
  cases e2
  exact h2.few
def D4r:Sp:=λvs H Q _=>∃(m:Nat) (ws:List Wy) (st:Int) (g:Tb) (vl vb:V),vs=[vl,.int st,vb]/\ThV TT0 H vl (G3 m ws)/\ThV TT0 H vb (.list (B8 g))/\J6 m ws/\0<=st/\st<=1000000000000000000000/\F7 m st g/\∀t trs v H' fp,N4 m (ws.map T6) st (lkF st g) t->A7v m (ws.map T6) st (lkF st g) t trs->A4a m (ws.map T6) st (lkF st g) trs->FpV (F9 H) H' v (.list (trs.map bkO)) fp->fp.Nodup->Same H H'->Q v H'
theorem C1l {F:Addr->Prop} {H:Hp}:∀{us:List V} {ds:List PyData} {fp:List Addr} {i:Nat} {x:V},E7 F H us ds fp->us[i]?=some x->∃d fq,ds[i]?=some d/\FpV F H x d fq/\fq.Sublist fp
 | _,_,_,_,_,.nil,e=>nomatch e
 | _,_,_,0,_,.cons (fp:=fp) (fps:=fps) x _,e=>by cases e;exact⟨_,fp,rfl,x,List.sublist_append_left _ _⟩
 | _,_,_,i + 1,_,.cons (fp:=fp) (fps:=fps) _ t,e=>by
  obtain⟨d,fq,h1,h2,h3⟩:=C1l (i:=i) t e
  exact⟨d,fq,h1,h2,h3.trans (List.sublist_append_right _ _)⟩
theorem D4s (T:Txt K mg):C0 P w K mg base CX0 9 T.bH.a T.bH.d ["land", "store", "goal"] D4r:=by
 have cE:=@B99 P w K mg base T
 have cF:=T.ax.b
 have cT:=@C0s P w K mg base T
 have cU:=T.aK.b
 have gp:=@D14 P w K mg base T
 have gq:=T.bG.b
 have gr:=@D4p P w K mg base T
 have gu:=T.bF.b
 refine T.bH.F.ok B9w (λvs H Q E h=>?_) (λcdv A outer s H vs Q E hr h=>?_)
 ·obtain⟨m,ws,st,g,vl,vb,rfl,_⟩:=h
  rfl
 ·obtain⟨m,ws,st,g,vl,vb,rfl,tl',tb',ok,h0,hst,hg,toldQ⟩:=h
  have m2:=ok.m2
  have few:=ok.few
  have gl:=hg.len
  refine⟨_,(B5 (C2 (i:=3) B9w.nd rfl (B9 rfl) (B3 gp (hr.mono DD) rfl T.bG.m T.bG.F.kp gq .nil A8 (A2 (B3 cE (hr.mono DD) rfl T.ax.m T.ax.F.kp cF .nil A8 (A2 (pv 0) A4 A1)) (A2 (pv 1) (A2 (B3 cT (hr.mono DD) rfl T.aK.m T.aK.F.kp cU .nil A8 (A2 (pv 1) (A2 (pv 2) A4 A1) A1)) A4 D7) A1) D7)))
   (C5 (F2 (V4 (M2.new (N:=["land", "store", "goal", "told"]) (osc:=B6 A91) KK) rfl (Z0 (pv 3)) (λ_=>d8) (λ_=>(B1c (J2 Z2 (pv 4) w5 (D5 _)) w5 (Q0 (A2 (C6 X6 (pv 4) B1 (λ_ _=>rfl)) (A2 (B3 gr (hr.mono DD) rfl T.bF.m T.bF.F.kp gu .nil A8 (A2 (C6 X6 (pv 4) B1 (λ_ _=>rfl)) A4 A7)) A4 D7) A7)))))))),?_⟩
  let G:Addr->Prop:=λb=>H b=none\/∃xs,H b=some (.tup xs)
  refine⟨vl,rfl,?_⟩
  refine⟨λ_=>True,none,[G3 m ws],λd=>d=G3 m (ws.map T6),⟨λ_ _=>trivial,λ_ _ _=>trivial⟩,λq hq=>(nomatch hq),λq hq=>(nomatch hq),.cons tl' .nil,⟨m,ws,rfl,OO,rfl⟩,λd1 v1 H1 hd1 t1 k1 _=>?_⟩
  subst hd1
  have s1:=B48 k1
  refine⟨_,rfl,_,rfl,_,rfl,?_⟩
  refine⟨[.int st,.list (B8 g)],λd=>d=.list (B8 (lkF st g)),.cons (.int _) (.cons (ThV.mv (λb o _ e=>⟨trivial,s1 _ _ e⟩) tb') .nil),⟨st,g,rfl,OO,rfl⟩,λd2 v2 H2 hd2 t2 s2=>?_⟩
  subst hd2
  have s02:Same H H2:=λb o e=>s2 _ _ (s1 _ _ e)
  refine j7 (E:=E0) (λd=>∃t trs,d=.list (trs.map trO)/\N4 m (ws.map T6) st (lkF st g) t/\A7v m (ws.map T6) st (lkF st g) t trs/\A4a m (ws.map T6) st (lkF st g) trs) (.cons (t1.any.keep s2) (.cons (.int _) (.cons t2.any .nil))) ⟨m,_,st,_,rfl,C0q ok,h0,hst,B47 hg,λt trs hL _ hT hS=>⟨t,trs,rfl,hL,hT,hS⟩⟩ λd3 v3 H3 hd3 t3 s3=>?_
  obtain⟨t,trs,rfl,hL,hT,hS⟩:=hd3
  have S3:Same H H3:=λb o e=>s3 _ _ (s02 _ _ e)
  obtain⟨lt,us,rfl,_,elt,tus⟩:=K8 t3
  refine⟨_,rfl,lt,rfl,⟨us,SqL.of elt⟩,?_⟩
  refine A0a (xs:=us) (λi ys H'=>Same H3 H'/\ys.length=i/\∃fp,E7 G H' ys ((trs.take i).map bkO) fp/\fp.Nodup/\∀b∈fp,H3 b=none) ?_ ?_ ?_ ?_ ?_
  ·rw[tus.len,C1,hT.len,sizeLine_eq];lia
  ·exact⟨Same.refl _,rfl,[],.nil,j8,λb hb=>nomatch hb⟩
  ·exact λi ys H' _ h=>⟨by rw[h.2.1];exact E1 _,SqL.of (h.1 _ _ elt)⟩
  ·rintro i x ys H' hx ⟨sm,hl',fp,Tf,nd,nw⟩ ca
   obtain⟨dp,hdp,tx⟩:=tus.get hx
   rw[L8] at hdp
   obtain⟨r0,hr0,rfl⟩:=A0v.mp hdp
   have st1:(trs.take (i + 1)).map bkO=(trs.take i).map bkO++[bkO r0]:=by rw[A2g,hr0,P2];rfl
   rw[st1]
   unfold b9
   refine F5 ?_
   refine⟨_,rfl,rfl,_,rfl,?_⟩
   rw[A64 tx]
   cases r0 with
   | none=>
    refine F5 ?_
    exact⟨sm,by rw[P0,hl'];rfl,fp++([]++[]),Tf.append (.cons .non .nil),by simpa using nd,λb hb=>nw b (by simpa using hb)⟩
   | some r=>
    refine D0 ?_
    obtain⟨ta,xa,rfl,_,eta,ta2⟩:=V5 tx
    obtain⟨u1,u2,rfl,ta3,ta4⟩:=Q1 ta2
    cases ta3
    obtain⟨y,ey⟩:∃y,gt t i=some y:=by
     have hi:i < m:=by rw[<-hT.len];exact (V9.mp hr0).1
     cases e:gt t i with
     | none=>have:=hT.no i hi e;rw[hr0] at this;cases this
     | some y=>exact⟨y,rfl⟩
    obtain⟨r',h,hR⟩:=hT.yes i y ey
    rw[hr0] at h
    cases h
    have fw:=hR.few
    have eta':=sm _ _ eta
    refine⟨_,rfl,.inr (.inl ⟨ta,_,0,_,rfl,rfl,SqT.of eta',rfl,_,rfl,.inr (.inl ⟨ta,_,1,_,rfl,rfl,SqT.of eta',rfl,?_⟩)⟩)⟩
    refine⟨λ_=>True,_,r.2,rfl,ThV.mv (λb o _ e=>⟨trivial,sm _ _ e⟩) ta4,OO,λv H'' fp' s4 tv nd'=>⟨by show 2<=sizeLine;decide,λp hp=>?_⟩⟩
    obtain⟨tv2,nw2⟩:=tv.early (λb o e=>sm _ _ (S3 _ _ e)) s4
    have k5:∀b o,H'' b=some o->upd H'' p (.tup [.int ((r.1:Nat):Int),v]) b=some o:=λb o e=>by rw[B4 (Q3 e hp)];exact e
    have pn:H p=none:=by
     cases z:H p with
     | none=>rfl
     | some o=>rw[s4 _ _ (sm _ _ (S3 _ _ z))] at hp;cases hp
    refine⟨λb o e=>k5 _ _ (s4 _ _ (sm _ _ e)),by rw[P0,hl'];rfl,fp++(([]++(fp'++[]))++[]),(Tf.mvm λb o g e _=>⟨g,k5 _ _ (s4 _ _ e)⟩).append (.cons (.tup (.inl pn) B2 (.cons (.int _) (.cons (tv2.mvm λb o g e _=>⟨g,k5 _ _ e⟩) .nil))) .nil),?_,λb hb=>?_⟩
    ·rw[T9,Y6,Y6]
     refine A6l.mpr ⟨nd,nd',λb hb c hc z=>?_⟩
     subst z
     obtain⟨_,xs,ex⟩:=Tf.mem b hb
     rw[nw2 b hc] at ex;cases ex
    ·rcases V8.mp hb with h | h
     ·exact nw b h
     ·have:=nw2 b (by simpa using h)
      cases z:H3 b with
      | none=>rfl
      | some o=>rw[sm _ _ z] at this;cases this
  rintro ys H4 ⟨sm,hl',fp,Tf,nd,nw⟩ p hp
  have hk:us.length=trs.length:=by rw[tus.len,C1]
  rw[hk,A2j] at Tf
  have k2:∀b o,H4 b=some o->upd H4 p (.lst ys) b=some o:=λb o e=>by rw[B4 (Q3 e hp)];exact e
  have S:Same H (upd H4 p (.lst ys)):=λb o e=>k2 _ _ (sm _ _ (S3 _ _ e))
  have pn:H p=none:=by
   cases z:H p with
   | none=>rfl
   | some o=>rw[sm _ _ (S3 _ _ z)] at hp;cases hp
  refine toldQ t trs (.ref p) _ (p::fp) hL hT hS (.lst (.inl pn) B2 (Tf.mvm λb o g e _=>⟨g,k2 _ _ e⟩)) (g8.mpr ⟨λhb=>?_,nd⟩) S
  obtain⟨_,xs,ex⟩:=Tf.mem p hb
  rw[hp] at ex;cases ex
def A2a (c:Int):Int:=if c < 0 then -c else c
structure p6 (ws:List Wy) (M:Int):Prop where
 m0:0<=M
 le:∀w∈ws,A2a w.2.2<=M
 is:M=0\/∃w∈ws,A2a w.2.2=M
theorem p6.uniq {ws:List Wy} {M N:Int} (h:p6 ws M) (k:p6 ws N):M=N:=by
 have a:M<=N:=by
  rcases h.is with z | ⟨w,hw,z⟩
  ·rw[z];exact k.m0
  ·rw[<-z];exact k.le w hw
 have b:N<=M:=by
  rcases k.is with z | ⟨w,hw,z⟩
  ·rw[z];exact h.m0
  ·rw[<-z];exact h.le w hw
 lia
theorem p6.hi {m:Nat} {ws:List Wy} {M:Int} (ok:J6 m ws) (h:p6 ws M):M<=1000000000000000000:=by
 rcases h.is with z | ⟨w,hw,z⟩
 ·lia
 ·have:=ok.lo w hw
  have:=ok.hi w hw
  unfold A2a at z
  split at z <;> lia
def mtI (m:Nat) (M:Int):Int:=(((m:Nat):Int) - 1) * M
theorem D4t {m:Nat} {ws:List Wy} {M:Int} (ok:J6 m ws) (h:p6 ws M):0<=mtI m M/\mtI m M<=11000000000000000000:=by
 have h1:=ok.m1
 have h2:=ok.m2
 have h3:=h.hi ok
 have h0:=h.m0
 unfold mtI
 refine⟨Int.mul_nonneg OO h0,?_⟩
 have:(((m:Nat):Int) - 1) * M<=11 * M:=Int.mul_le_mul_of_nonneg_right OO h0
 lia
def A56 (m:Nat) (ws:List Wy) (S:Int) (b g:Sp2):Prop:=∃t,N4 m ws S (j4 m b) t/\A51 m ws S (j4 m b) t/\enF t g=true
def A2b (m:Nat) (ws:List Wy) (S:Int) (b g:Sp2):Prop:=∃t,N4 m ws S (j4 m b) t/\A51 m ws S (j4 m b) t/\enF t g=false
def D4u:DSp:=λds Q=>∃(m:Nat) (b:Sp2),ds=[.int (m:Nat),O6 b]/\b.1 < m/\m<=900/\Q (.list (B8 (j4 m b)))
def D4v:DSp:=λds Q=>∃(t:Tb) (g:Sp2),ds=[.list (B8 t),O6 g]/\g.1 < t.length/\Q (.bool (enF t g))
def D4w:DSp:=λds Q=>∃(m:Nat) (ws:List Wy),ds=[G3 m ws]/\J6 m ws/\∀M,p6 ws M->Q (.int (mtI m M))
def D4x:DSp:=λds Q=>∃(m:Nat) (ws:List Wy) (st:Int) (b g:Sp2),ds=[G3 m ws,.int st,O6 b,O6 g]/\J6 m ws/\b.1 < m/\g.1 < m/\0<=b.2/\b.2<=st/\st<=1000000000000000000000/\∀t,N4 m ws st (j4 m b) t->A51 m ws st (j4 m b) t->Q (.bool (enF t g))
def D4y:DSp:=λds Q=>∃(m:Nat) (ws:List Wy) (b g:Sp2),ds=[G3 m ws,O6 b,O6 g]/\J6 m ws/\∀M,p6 ws M->Q (.int (mxI b.2 (g.2 + mtI m M)))
def D4z:DSp:=λds Q=>∃(m:Nat) (ws:List Wy) (b g:Sp2),ds=[G3 m ws,O6 b,O6 g]/\J6 m ws/\b.1 < m/\g.1 < m/\0<=b.2/\b.2<=1000000000000000000/\0<=g.2/\g.2<=1000000000000000000/\
 ∀M,p6 ws M->(A2b m ws (mxI b.2 (g.2 + mtI m M)) b g->Q .none)/\∀S,mxI b.2 g.2<=S->S<=mxI b.2 (g.2 + mtI m M)->A56 m ws S b g->(S=mxI b.2 g.2\/A2b m ws (S - 1) b g)->Q (.int S)
theorem C1m {m:Nat} {b:Sp2} {st:Int} (hb:b.1 < m) (h0:0<=b.2) (h1:b.2<=st):F7 m st (j4 m b):=⟨C7x,λp x e=>by
 unfold j4 at e
 rw[A30 (by rw[A1g];exact hb),A5m] at e
 split at e
 ·cases e;exact⟨h0,h1⟩
 ·cases e⟩
theorem D40 {ws:List Wy} {M:Int} (h:A84 (ws.map λw=>A2a w.2.2) M):p6 ws M:=by
 obtain⟨h1,h2⟩:=h
 obtain⟨w,hw,e⟩:=N0.mp h1
 exact⟨by rw[<-e];unfold A2a;split <;> lia,λv hv=>h2 _ (N0.mpr ⟨v,hv,rfl⟩),.inr ⟨w,hw,e⟩⟩
theorem D41 (T:Txt K mg):C0 P w K mg base CX0 1 T.bR.a T.bR.d ["many", "spot"] (spD [.sh,.sh] D4u):=by
 refine G5 T.bR.F B9x rfl (λC cdv A outer s H E hr=>⟨_,(@F8 _ _ _ _ _ _ (A3v (C2 (i:=2) B9x.nd rfl (B9 rfl) (B2a (L3 (Z5 (D8 N2 G0 E4))) (A5 (pv 0))))) (F8 (A7c (T0 (C7 (pv 1) (D3 (C9 (v:=V.int 1) rfl T.g_LEVEL.m ⟨_,rfl⟩)) (λ_ _=>rfl)) (W4 (pv 2) (C7 (pv 1) (D3 (C9 (v:=V.int 0) rfl T.g_PLACE.m ⟨_,rfl⟩)) (λ_ _=>rfl)) U2)))
   (D9 (E9 (A5 (pv 2)))))),λds Q hl h=>?_⟩)
 obtain⟨m,b,rfl,hb,hm,q⟩:=h
 right
 refine⟨DD,⟨OO,OO,DD⟩,?_⟩
 rw[show ((m:Nat):Int).toNat=m by simp,D0s]
 right
 rw[A36 (by rw[Y2,A1g];exact hb)]
 right
 rw[show PyData.int b.2=oD (some b.2) from rfl,B4z]
 exact q
theorem D42 (T:Txt K mg):C0 P w K mg base CX0 1 T.bj.a T.bj.d ["table", "goal"] (spD [.sh,.sh] D4v):=by
 refine G5 T.bj.F B9y rfl (λC cdv A outer s H E hr=>⟨_,(@F8 _ _ _ _ _ _ (G1 (C2 (i:=2) B9y.nd rfl (B9 rfl) (C7 (pv 0) (C7 (pv 1) (D3 (C9 (v:=V.int 0) rfl T.g_PLACE.m ⟨_,rfl⟩)) (λ_ _=>rfl)) (λ_ _=>rfl)))) (D9 (E9 (m9 (m8 A4v A65 (A5 (pv 2)) N2 (D5 _)) (d9 (m8 B1j C59 (A5 (pv 2)) (C7 (pv 1) (D3 (C9 (v:=V.int 1) rfl T.g_LEVEL.m ⟨_,rfl⟩)) (λ_ _=>rfl)) (D5 _))))))),λds Q hl h=>?_⟩)
 obtain⟨t,g,rfl,hg,q⟩:=h
 unfold enF at q
 right
 rw[A35 hg]
 cases e:gt t g.1 with
 | none=>
  rw[e] at q
  right
  exact q
 | some l=>
  rw[e] at q
  right
  exact q
theorem D43 (T:Txt K mg):C0 P w K mg base CX0 1 T.bg.a T.bg.d ["land"] (spD [.sh] D4w):=by
 refine G5 T.bg.F C82 rfl (λC cdv A outer s H E hr=>⟨_,(@D9 _ _ _ _ (@E9 _ _ _ _ _ (@K7 _ _ _ _ _ _ _ _ _ _ y8 A89 (K7 A4t A88 (C7 (pv 0) (D3 (C9 (v:=V.int 0) rfl T.g_MANY.m ⟨_,rfl⟩)) (λ_ _=>rfl)) E3) (@Z6 _ _ _ _ _ _ C71 (@C5y _ _ _ _ _ _ _ _ _ rfl rfl T.cS A2r (@D8 _ _ _ _ _ _ (@L3 _ _ _ _ (@A10 _ _ _ _ _ _ _ _ rfl (@V4 _ _ _ _ _ _ _ _ _ _ _ _ _ _ _ (M2.new (N:=["land"]) (osc:=B6 A9s) KK) rfl (A9g (C7 (pv 0) (D3 (C9 (v:=V.int 1) rfl T.g_WAYS.m ⟨_,rfl⟩)) (λ_ _=>rfl))) (λ_=>A05) (λ_=>(Z6 C6b (J8 B6n rfl T.fZ B7n (D8 (C7 (pv 1) (D3 (C9 (v:=V.int 2) rfl T.g_CHANGE.m ⟨_,rfl⟩)) (λ_ _=>rfl)) G0 A7)))) (by rfl) (by rfl) (by intro _;rfl)))) G0 A2t) (by rfl)))))),λds Q hl h=>?_⟩)
 obtain⟨m,ws,rfl,ok,q⟩:=h
 have few:=ok.few
 have m1:=ok.m1
 have m2:=ok.m2
 array_mem_dec
 refine⟨⟨rfl,by rw[C1];lia⟩,?_⟩
 refine A06 (f:=λw=>PyData.int (A2a w.2.2)) (λw hw Q' q'=>?_) ?_
 ·right
  exact q'
 rw[T9,show ws.map (λw=>PyData.int (A2a w.2.2))=(ws.map λw=>A2a w.2.2).map PyData.int by rw[A0w];rfl]
 right
 rw[A7e]
 right
 refine⟨λz=>?_,λM hM=>?_⟩
 ·have e:ws=[]:=List.map_eq_nil_iff.mp z
  exact⟨.inl ⟨OO,OO⟩,q 0 ⟨t8 _,λw hw=>(by rw[e] at hw;cases hw),.inl rfl⟩⟩
 ·exact⟨.inl ⟨OO,OO⟩,q M (D40 hM)⟩
theorem D44 (T:Txt K mg):C0 P w K mg base CX0 9 T.aq.a T.aq.d ["land", "store", "begin", "goal"] (spD [.sh,.sh,.sh,.sh] D4x):=by
 have fD:=@D42 P w K mg base T
 have fE:=T.bj.b
 have cC:=@D1y P w K mg base T
 have cD:=T.aw.b
 have gJ:=@D41 P w K mg base T
 have gK:=T.bR.b
 refine G5 T.aq.F C9g rfl (λC cdv A outer s H E hr=>⟨_,(@D9 _ _ _ _ (@E9 _ _ _ _ _ (@F1 _ _ _ _ _ _ _ (@B3 _ _ _ _ _ _ _ _ _ _ _ _ _ _ _ _ fD (hr.mono DD) rfl T.bj.m T.bj.F.kp fE .nil A8 (@B7 _ _ _ _ _ _ (@F1 _ _ _ _ _ _ _ (@B3 _ _ _ _ _ _ _ _ _ _ _ _ _ _ _ _ cC (hr.mono DD) rfl (T.bu.trans T.aw.m) T.aw.F.kp cD .nil A8 (B7 (A5 (pv 0)) (B7 (A5 (pv 1)) (B7 (F1 (B3 gJ (hr.mono DD) rfl T.bR.m T.bR.F.kp gK .nil A8 (B7 (C7 (pv 0) (D3 (C9 (v:=V.int 0) rfl T.g_MANY.m ⟨_,rfl⟩)) (λ_ _=>rfl)) (B7 (A5 (pv 2)) F0 A1) A7))) F0 D7) A1) A1) DD A1 ((A6 A1 (A6 D7 A3))))) (B7 (A5 (pv 3)) F0 A1) D7) DD D7 ((A6 A1 A3)))))),λds Q hl h=>?_⟩)
 obtain⟨m,ws,st,b,g,rfl,ok,hb,hg,b0,b1,s1,q⟩:=h
 have m2:=ok.m2
 right
 refine⟨m,b,rfl,hb,OO,?_⟩
 right
 refine⟨m,ws,st,j4 m b,rfl,ok,OO,s1,C1m hb b0 b1,λt ht hn=>?_⟩
 right
 exact⟨t,g,rfl,by rw[ht.tab.len];exact hg,q t ht hn⟩
theorem D45 (T:Txt K mg):C0 P w K mg base CX0 2 T.aL.a T.aL.d ["land", "begin", "goal"] (spD [.sh,.sh,.sh] D4y):=by
 have fF:=@D43 P w K mg base T
 have fG:=T.bg.b
 refine G5 T.aL.F C9h rfl (λC cdv A outer s H E hr=>⟨_,(@D9 _ _ _ _ (@E9 _ _ _ _ _ (@Z6 _ _ _ _ _ _ A9c (@J8 _ _ _ _ _ _ _ _ _ (A6y rfl) rfl T.cS A2r (@D8 _ _ _ _ _ _ (C7 (pv 1) (D3 (C9 (v:=V.int 1) rfl T.g_LEVEL.m ⟨_,rfl⟩)) (λ_ _=>rfl)) (D8 (K7 O2 e7 (C7 (pv 2) (D3 (C9 (v:=V.int 1) rfl T.g_LEVEL.m ⟨_,rfl⟩)) (λ_ _=>rfl)) (F1 (B3 fF (hr.mono DD) rfl T.bg.m T.bg.F.kp fG .nil A8 (B7 (A5 (pv 0)) F0 A1)))) G0 K0) A7) DD DD A7 ((A6 K0 A3)))))),λds Q hl h=>?_⟩)
 obtain⟨m,ws,b,g,rfl,ok,q⟩:=h
 right
 refine⟨m,ws,rfl,ok,λM hM=>?_⟩
 right
 exact q M hM
theorem D46 (T:Txt K mg):C0 P w K mg base CX0 10 T.aW.a T.aW.d ["land", "begin", "goal"] (spD [.sh,.sh,.sh] D4z):=by
 have eK:=@D45 P w K mg base T
 have eM:=T.aL.b
 have cV:=@D44 P w K mg base T
 have cW:=T.aq.b
 refine G5 T.aW.F A5w rfl (λC cdv A outer s H E hr=>⟨_,(@M7 _ _ _ _ _ _ (G1 (C2 (i:=3) A5w.nd rfl (B9 rfl) (F1 (B3 eK (hr.mono DD) rfl T.aL.m T.aL.F.kp eM .nil A8 (B7 (A5 (pv 0)) (B7 (A5 (pv 1)) (B7 (A5 (pv 2)) F0 A1) A1) A1))))) (@M7 _ _ _ _ _ _ (@T2 _ _ _ _ _ _ _ _ _ (A62 (A2u (F1 (B3 cV (hr.mono DD) rfl T.aq.m T.aq.F.kp cW .nil A8 (B7 (A5 (pv 0)) (B7 (A5 (pv 3)) (B7 (A5 (pv 1)) (B7 (A5 (pv 2)) F0 A1) A1) A1) A1))))) (D9 (E9 N2)) U5) (@M7 _ _ _ _ _ _ (@G1 _ _ _ _ _ (C2 (i:=4) A5w.nd rfl (B9 rfl) (Z6 A9c (J8 (A6y rfl) rfl T.cS A2r (D8 (C7 (pv 1) (D3 (C9 (v:=V.int 1) rfl T.g_LEVEL.m ⟨_,rfl⟩)) (λ_ _=>rfl)) (D8 (C7 (pv 2) (D3 (C9 (v:=V.int 1) rfl T.g_LEVEL.m ⟨_,rfl⟩)) (λ_ _=>rfl)) G0 A7) A7))))) (@M7 _ _ _ _ _ _ (@B2j _ _ _ _ (@A9k _ _ _ _ _ (@A4s _ _ _ _ _ _ S9 (O3 Z1 A45 (A5 (pv 4)) (A5 (pv 3)) (D5 _)) (@M7 _ _ _ _ _ _ (G1 (C2 (i:=5) A5w.nd rfl (B9 rfl) (K7 B1z B72 (K7 O2 e7 (A5 (pv 4)) (A5 (pv 3))) E3))) (@D9 _ _ _ _ (@T2 _ _ _ _ _ _ _ _ _ (A2u (F1 (B3 cV (hr.mono DD) rfl T.aq.m T.aq.F.kp cW .nil A8 (B7 (A5 (pv 0)) (B7 (A5 (pv 5)) (B7 (A5 (pv 1)) (B7 (A5 (pv 2)) F0 A1) A1) A1) A1)))) (D9 (G1 (C2 (i:=3) A5w.nd rfl (B9 rfl) (A5 (pv 5))))) (D9 (G1 (C2 (i:=4) A5w.nd rfl (B9 rfl) (K7 O2 e7 (A5 (pv 5)) E3)))))))))) (D9 (E9 (A5 (pv 4)))))))),λds Q hl h=>?_⟩)
 obtain⟨m,ws,b,g,rfl,ok,hb,hg,b0,b1,g0,g1,q⟩:=h
 left
 refine⟨m,ws,b,g,rfl,ok,λM hM=>?_⟩
 obtain⟨q1,q2⟩:=q M hM
 obtain⟨t0,t1⟩:=D4t ok hM
 have hbb:b.2<=mxI b.2 (g.2 + mtI m M):=by unfold mxI;split <;> lia
 have hbt:mxI b.2 (g.2 + mtI m M)<=12000000000000000000:=by unfold mxI;split <;> lia
 have hlo:mxI b.2 g.2<=mxI b.2 (g.2 + mtI m M):=by unfold mxI;split <;> split <;> lia
 have hbl:b.2<=mxI b.2 g.2:=by unfold mxI;split <;> lia
 generalize mxI b.2 (g.2 + mtI m M)=top at *
 refine go ?_;left
 refine⟨m,ws,top,b,g,rfl,ok,hb,hg,b0,hbb,OO,λt ht hn=>?_⟩
 cases e:enF t g with
 | false=>
  left
  exact q1 ⟨t,ht,hn,e⟩
 | true=>
  refine D0 (go ?_)
  right
  rw[show (if g.2 > b.2 then g.2 else b.2)=mxI b.2 g.2 from rfl]
  generalize mxI b.2 g.2=low at *
  refine go ?_
  (try unfold A0i);(try unfold B2i)
  refine⟨fun ρ'=>∃(S:Int) (z:Sl),ρ'=[Sl.sh (G3 m ws),Sl.sh (O6 b),Sl.sh (O6 g),Sl.sh (.int S),Sl.sh (.int S),z]/\low<=S/\S<=top/\A56 m ws S b g/\(S=low\/A2b m ws (S - 1) b g),?_,?_⟩
  ·unfold A7d
   refine⟨fun μ ρ=>∃(hi lo:Int) (z:Sl),ρ=[Sl.sh (G3 m ws),Sl.sh (O6 b),Sl.sh (O6 g),Sl.sh (.int hi),Sl.sh (.int lo),z]/\low<=lo/\lo<=hi/\hi<=top/\A56 m ws hi b g/\(lo=low\/A2b m ws (lo - 1) b g)/\μ=(hi - lo).toNat,⟨_,top,low,_,rfl,t8 _,hlo,t8 _,⟨t,ht,hn,e⟩,.inl rfl,rfl⟩,?_⟩
   rintro μ ρ ⟨hi,lo,z,rfl,h1,h2,h3,hT,hN,rfl⟩
   left
   by_cases c:lo < hi
   ·rw[decide_eq_true c]
    left
    try dsimp only[Blk]
    array_get_dec
    refine⟨⟨DD,DD⟩,?_⟩
    have d1:lo<=(lo + hi) / 2:=by lia
    have d2:(lo + hi) / 2 < hi:=by lia
    generalize (lo + hi) / 2=mi at *
    refine go ?_
    left
    refine⟨m,ws,mi,b,g,rfl,ok,hb,hg,b0,OO,OO,λu hu hun=>?_⟩
    cases e2:enF u g with
    | true=>
     left
     exact⟨(mi - lo).toNat,OO,mi,lo,_,rfl,h1,d1,OO,⟨u,hu,hun,e2⟩,hN,rfl⟩
    | false=>
     left
     exact⟨(hi - (mi + 1)).toNat,OO,hi,mi + 1,_,rfl,OO,OO,h3,hT,.inr (by rw[show mi + 1 - 1=mi by lia];exact⟨u,hu,hun,e2⟩),rfl⟩
   ·rw[decide_eq_false c]
    left
    have:lo=hi:=by lia
    subst this
    exact⟨lo,z,rfl,h1,h3,hT,hN⟩
  rintro ρ ⟨S,z,rfl,h1,h2,h3,h4⟩
  refine go ?_;left
  exact q2 S h1 h2 h3 h4
def D47 (C:Addr) (pre:Kst->List PyData->Prop) (post:Kst->List PyData->PyData->Prop):Sp:=λvs H Q _=>∃(F:Addr->Prop) (p d:Addr) (k:Kst) (us:List V) (ds:List PyData),vs=.ref p::us/\(∀b,H b=none->F b)/\D1 F C H p d k/\A9 TT0 H us ds/\pre k ds/\
 ∀r v H',post k ds r->D1 F C H' p d k->ThV TT0 H' v r->Frp p d H H'->Q v H'
theorem D48 {F:Addr->Prop} {ms:List Md} {sp:DSp} {vs:List V} {ds:List PyData} {H:Hp} {Q:VK} {E:XK} (hF:(∀b,H b=none->F b)/\∀b xs,H b=some (.tup xs)->F b) (Qd:PyData->Prop) (ar:X9 F none H ms vs ds) (h:sp ds Qd) (k:∀d v H',Qd d->ThV F H' v d->Same H H'->Q v H'):spD ms sp vs H Q E:=
 ⟨F,none,ds,Qd,hF,λq hq=>(nomatch hq),λq hq=>(nomatch hq),ar,h,λd v H' a b c _=>k d v H' a b (B48 c)⟩
def D49 (C:Addr) (pre:Kst->List PyData->Prop) (post:Kst->List PyData->PyData->Prop):Sp:=λvs H Q _=>∃(F:Addr->Prop) (p d:Addr) (k:Kst) (us:List V) (ds:List PyData),vs=.ref p::us/\(∀b,H b=none->F b)/\D1 F C H p d k/\A9 TT0 H us ds/\pre k ds/\
 ∀r v H' (fp:List Addr),post k ds r->D1 F C H' p d k->(∀b∈fp,H b=none)->D1 (λb=>b∉fp) C H' p d k->FpV TT0 H' v r fp->fp.Nodup->Frp p d H H'->Q v H'
def D5a (k:Kst) (ds:List PyData):Prop:=∃i:Nat,ds=[.int ((i:Nat):Int)]/\i < k.m/\KOk k.m k.st k.g k.kws
def A4d (k:Kst) (i:Nat) (r:PyData):Prop:=∃t trs,N4 k.m ((wsF k.kws).map T6) k.st (lkF k.st k.g) t/\A7v k.m ((wsF k.kws).map T6) k.st (lkF k.st k.g) t trs/\A4a k.m ((wsF k.kws).map T6) k.st (lkF k.st k.g) trs/\r=bkO ((trs[i]?).getD none)
def D5b (k:Kst) (ds:List PyData) (r:PyData):Prop:=∃i:Nat,ds=[.int ((i:Nat):Int)]/\A4d k i r
def D5c (k:Kst) (ds:List PyData):Prop:=∃b:Tb,ds=[.list (B8 b)]/\F7 k.m k.st b/\KOk k.m k.st k.g k.kws
def D5d (k:Kst) (ds:List PyData) (r:PyData) (k':Kst):Prop:=k'=k/\∃b t:Tb,ds=[.list (B8 b)]/\N4 k.m (wsF k.kws) k.st b t/\r=.list (B8 t)
def B0r (m:Nat) (b:Sp2):Prop:=b.1 < m/\0<=b.2/\b.2<=1000000000000000000
def A4e (m:Nat) (ws:List Wy) (b g:Sp2) (o:Option Int):Prop:=∃M,p6 ws M/\((o=none/\A2b m ws (mxI b.2 (g.2 + mtI m M)) b g)\/∃S,o=some S/\mxI b.2 g.2<=S/\S<=mxI b.2 (g.2 + mtI m M)/\A56 m ws S b g/\(S=mxI b.2 g.2\/A2b m ws (S - 1) b g))
def D5e (k:Kst) (ds:List PyData):Prop:=∃b g:Sp2,ds=[O6 b,O6 g]/\B0r k.m b/\B0r k.m g/\KOk k.m k.st k.g k.kws
def D5f (k:Kst) (ds:List PyData) (r:PyData):Prop:=∃(b g:Sp2) (o:Option Int),ds=[O6 b,O6 g]/\A4e k.m (wsF k.kws) b g o/\r=oD o
theorem C1n {F G:Addr->Prop} {C:Addr} {H H':Hp} {p d:Addr} {k:Kst} (kp:D1 F C H p d k) (kp':D1 G C H' p d k) (fr:Frp p d H H'):(∀b,H' b=none->F9 H b)/\∀b xs,H' b=some (.tup xs)->F9 H b:=by
 refine⟨λb hb=>.inl (B5f kp' fr hb),λb xs hb=>?_⟩
 cases z:H b with
 | none=>exact .inl z
 | some o=>
  have n:=O1 kp' hb
  have:=fr _ _ z n.1 n.2
  rw[hb] at this
  cases this
  exact .inr ⟨xs,z⟩
theorem B0s {G:Addr->Prop} {C:Addr} {H H':Hp} {p d l:Addr} {k:Kst} {xs:List V} (kp:D1 G C H' p d k) (fr:Frp p d H H') (g:F9 H l) (e:H' l=some (.lst xs)):H l=none:=by
 rcases g with g | ⟨ys,g⟩
 ·exact g
 ·rw[fr _ _ g (F6 kp e).1 (F6 kp e).2] at e;cases e
theorem C1o {F G:Addr->Prop} {H:Hp} (f:∀b xs,H b=some (.tup xs)->F b):∀{ws:List Wy} {us:List V},A9 G H us (ws.map K6)->A9 F H us (ws.map K6)
 | [],_,h=>by cases h;exact .nil
 | w::ws,_,h=>by
  cases h with
  | cons x r=>exact .cons (A7x x (λ_ _ e=>e) f) (C1o f r)
theorem D5g {F G:Addr->Prop} {H:Hp} {v:V} {m:Nat} {ws:List Wy} (t:ThV G H v (G3 m ws)) (f:∀b xs,H b=some (.tup xs)->F b) (fl:∀b xs,G b->TL H v b->H b=some (.lst xs)->F b):ThV F H v (G3 m ws):=by
 obtain⟨a,us,rfl,_,e,tu⟩:=V5 t
 obtain⟨v1,v2,rfl,t1,t2⟩:=Q1 tu
 cases t1
 obtain⟨l,ul,rfl,gl,el,tl⟩:=K8 t2
 exact .tup (f _ _ e) e (.cons (.int _) (.cons (.lst (fl _ _ gl (.inr ⟨a,_,rfl,e,by simp⟩) el) el (C1o f tl)) .nil))
theorem D5h (T:Txt K mg):C0 P w K mg base CX0 10 T.bq.a T.bq.d ["self", "place"] (D49 T.ac D5a D5b):=by
 have bJ:=@A70 P w K mg base T
 have bK:=T.aH.b
 have gw:=@D4s P w K mg base T
 have gz:=T.bH.b
 refine T.bq.F.ok C9u (λvs H Q E h=>?_) (λcdv A outer s H vs Q E hr h=>?_)
 ·obtain⟨F,p,d,k,us,ds,rfl,_,_,tus,⟨i,rfl,_⟩,_⟩:=h
  obtain⟨u1,rfl,_⟩:=Y5 tus
  rfl
 ·obtain⟨F,p,d,k,us,ds,rfl,hF,kp,tus,⟨i,rfl,hi,ok⟩,told⟩:=h
  obtain⟨u1,rfl,tu1⟩:=Y5 tus
  cases tu1
  have kp0:=kp
  obtain⟨⟨dx,g,l,ug,ul,e1,g1,e2,t2,g3,e3,t3⟩,kvs,e4,kv⟩:=kp
  have fk:=ok.few
  have m2:=ok.m2
  have s1k:=ok.s1
  have lk:(E8 k.kws).length < 64:=by unfold E8;rw[C1];lia
  refine⟨_,(C5 (F2 (C6 D6 (B3 gw (hr.mono DD) rfl T.bH.m T.bH.F.kp gz .nil A8 (A2 (Z3 (pv 0) T.ae T.aH.m bJ (hr.mono DD) bK .nil A8) (A2 (N6 (pv 0) rfl) (A2 (N6 (pv 0) rfl) A4 K4) K4) D7)) (pv 1) (λ_ _=>rfl)))),?_⟩
  try dsimp only[N1,Cx.nox]
  refine⟨_,rfl,p,dx,_,rfl,e1,O7 KK,F,p,d,k,[],[],rfl,hF,kp0,.nil,⟨rfl,lk⟩,λr v k' H1 po kp1 tv fr ap=>?_⟩
  obtain⟨rfl,rfl⟩:=po
  have kp1':=kp1
  obtain⟨⟨dx1,g',l',ug',ul',f1,gg1,f2,tt2,gg3,f3,tt3⟩,kvs',f4,kv'⟩:=kp1
  have hn:=C1n kp0 kp1' fr
  refine⟨_,rfl,p,_,dx1,_,_,rfl,f1,T.ae,T.cc,A7z,_,rfl,p,_,dx1,_,_,rfl,f1,T.ae,T.bN,B0m,?_⟩
  refine⟨k'.m,wsF k'.kws,k'.st,k'.g,v,.ref g',rfl,tv.any,.lst trivial f2 (E6 tt2),ok.land,ok.s0,OO,ok.gt,λt trs v2 H2 fp2 ht htr hsd tv2 nd2 s2=>?_⟩
  obtain⟨l2,u2,fq,rfl,rfl,gl2,el2,tu2⟩:=B9k tv2
  have lu2:u2.length=k'.m:=by rw[tu2.len,C1,htr.len]
  obtain⟨x,hx⟩:∃x,u2[i]?=some x:=⟨u2[i]'(OO),M9 _⟩
  obtain⟨dd,fx,hdd,tx,sx⟩:=C1l tu2 hx
  rw[L8] at hdd
  obtain⟨o,ho,rfl⟩:=A0v.mp hdd
  refine⟨_,rfl,l2,_,_,x,rfl,rfl,SqL.of el2,z4 hx,?_⟩
  have kp2:=kp1'.same s2
  have nw1:∀b∈fx,H1 b=none:=λb hb=>by
   obtain⟨g,xs,e⟩:=tu2.mem b (sx.subset hb)
   exact A1c s2 g e
  exact told _ _ _ fx ⟨i,rfl,t,trs,ht,htr,hsd,by rw[ho];rfl⟩ kp2 (λb hb=>B5f kp1' fr (nw1 b hb)) ⟨⟨dx1,g',l',ug',ul',s2 _ _ f1,(λz=>by rw[nw1 _ z] at f2;cases f2),s2 _ _ f2,E6 tt2,(λz=>by rw[nw1 _ z] at f3;cases f3),s2 _ _ f3,E6 tt3⟩,kvs',s2 _ _ f4,kv'.mv λb xs e=>s2 _ _ e⟩ (tx.mvm λb o g e _=>⟨trivial,e⟩) ((g8.mp nd2).2.sublist sx) λb o e n1 n2=>s2 _ _ (fr _ _ e n1 n2)
theorem C1p (T:Txt K mg):C0 P w K mg base CX0 9 T.aZ.a T.aZ.d ["self", "base"] (g6 T.ac D5c D5d):=by
 have bJ:=@A70 P w K mg base T
 have bK:=T.aH.b
 have cC:=@B46 P w K mg base T
 have cD:=T.aw.b
 refine T.aZ.F.ok C9v (λvs H Q E h=>?_) (λcdv A outer s H vs Q E hr h=>?_)
 ·obtain⟨F,p,d,k,us,ds,rfl,_,_,tus,⟨b,rfl,_⟩,_⟩:=h
  obtain⟨u1,rfl,_⟩:=Y5 tus
  rfl
 ·obtain⟨F,p,d,k,us,ds,rfl,hF,kp,tus,⟨b,rfl,hb,ok⟩,told⟩:=h
  obtain⟨u1,rfl,tu1⟩:=Y5 tus
  obtain⟨ab,ub,rfl,_,eb,tub⟩:=K8 tu1
  have kp0:=kp
  obtain⟨⟨dx,g,l,ug,ul,e1,g1,e2,t2,g3,e3,t3⟩,kvs,e4,kv⟩:=kp
  have fk:=ok.few
  have s1k:=ok.s1
  have lk:(E8 k.kws).length < 64:=by unfold E8;rw[C1];lia
  refine⟨_,(C5 (F2 (B3 cC (hr.mono DD) rfl (T.bu.trans T.aw.m) T.aw.F.kp cD .nil A8 (A2 (Z3 (pv 0) T.ae T.aH.m bJ (hr.mono DD) bK .nil A8) (A2 (N6 (pv 0) rfl) (A2 (pv 1) A4 A1) K4) D7)))),?_⟩
  try dsimp only[N1,Cx.nox]
  refine⟨_,rfl,p,dx,_,rfl,e1,O7 KK,F,p,d,k,[],[],rfl,hF,kp0,.nil,⟨rfl,lk⟩,λr v k' H1 po kp1 tv fr ap=>?_⟩
  obtain⟨rfl,rfl⟩:=po
  have kp1':=kp1
  obtain⟨⟨dx1,g',l',ug',ul',f1,gg1,f2,tt2,gg3,f3,tt3⟩,kvs',f4,kv'⟩:=kp1
  have nb:=F6 kp0 eb
  obtain⟨⟨dx2,g2',l2',ug2,ul2,q1,qg,q2,_,ql,q3,_⟩,_⟩:=ap.2
  rw[f1] at q1
  unfold kfs at q1
  cases q1
  have hn:=C1n kp0 kp1' fr
  have fT:∀b xs,H1 b=some (.tup xs)->F9 H b/\b≠g'/\b≠l':=λb xs e=>⟨hn.2 b xs e,(λz=>by rw[z,f2] at e;cases e),λz=>by rw[z,f3] at e;cases e⟩
  have tvF:ThV (λb=>F9 H b/\b≠g'/\b≠l') H1 v (G3 k'.m (wsF k'.kws)):=D5g tv fT λb xs gb z e=>⟨gb,(λy=>qg (by rw[<-y];exact z)),λy=>ql (by rw[<-y];exact z)⟩
  refine⟨_,rfl,p,_,dx1,_,_,rfl,f1,T.ae,T.cc,A7z,_,rfl,?_⟩
  refine D48 (F:=λb=>F9 H b/\b≠g'/\b≠l') (E:=E0) ⟨λb hb=>⟨hn.1 b hb,(λz=>by rw[z,f2] at hb;cases hb),λz=>by rw[z,f3] at hb;cases hb⟩,fT⟩ (λd=>∃t,N4 k'.m (wsF k'.kws) k'.st b t/\d=.list (B8 t)) (.cons tvF (.cons (.int _) (.cons ⟨ab,ub,B8 b,rfl,rfl,(λq hq=>nomatch hq),fr _ _ eb nb.1 nb.2,E6 tub⟩ .nil))) ⟨k'.m,wsF k'.kws,k'.st,b,rfl,ok.land,ok.s0,OO,hb,λt a _=>⟨t,a,rfl⟩⟩ λd2 v2 H2 hd2 tv2 s2=>?_
  obtain⟨t,ht,rfl⟩:=hd2
  have kp2:=kp1'.same s2
  have fr2:Frp p d H H2:=λb o e n1 n2=>s2 _ _ (fr _ _ e n1 n2)
  obtain⟨l2,u2,rfl,gl2,el2,tu2⟩:=K8 tv2
  have tln:∀b xs,TL H2 (.ref l2) b->H2 b=some (.lst xs)->b=l2:=λb xs z e=>by
   rcases z with z | ⟨a,ys,z,z2,_⟩
   ·cases z;rfl
   ·cases z;rw[el2] at z2;cases z2
  refine told _ _ k' _ ⟨rfl,b,t,rfl,ht,rfl⟩ kp2 (.lst gl2.1 el2 (E6 tu2)) fr2 ⟨(λa x y e1 e2=>by cases e1;rw[el2] at e2;cases e2),?_⟩
  exact⟨⟨dx1,g',l',ug',ul',s2 _ _ f1,(λz=>gl2.2.1 (tln _ _ z (s2 _ _ f2)).symm),s2 _ _ f2,E6 tt2,(λz=>gl2.2.2 (tln _ _ z (s2 _ _ f3)).symm),s2 _ _ f3,E6 tt3⟩,kvs',s2 _ _ f4,kv'.mv λb xs e=>s2 _ _ e⟩
theorem D5i (T:Txt K mg):C0 P w K mg base CX0 11 T.aP.a T.aP.d ["self", "begin", "goal"] (D47 T.ac D5e D5f):=by
 have bJ:=@A70 P w K mg base T
 have bK:=T.aH.b
 have fc:=@D46 P w K mg base T
 have fg:=T.aW.b
 refine T.aP.F.ok C9w (λvs H Q E h=>?_) (λcdv A outer s H vs Q E hr h=>?_)
 ·obtain⟨F,p,d,k,us,ds,rfl,_,_,tus,⟨b,g,rfl,_⟩,_⟩:=h
  obtain⟨u1,u2,rfl,_,_⟩:=Q1 tus
  rfl
 ·obtain⟨F,p,d,k,us,ds,rfl,hF,kp,tus,⟨b,g,rfl,hb,hg,ok⟩,told⟩:=h
  obtain⟨u1,u2,rfl,tu1,tu2⟩:=Q1 tus
  have kp0:=kp
  obtain⟨⟨dx,gg,l,ug,ul,e1,g1,e2,t2,g3,e3,t3⟩,kvs,e4,kv⟩:=kp
  have fk:=ok.few
  have lk:(E8 k.kws).length < 64:=by unfold E8;rw[C1];lia
  refine⟨_,(C5 (F2 (B3 fc (hr.mono DD) rfl (T.ci.trans T.aW.m) T.aW.F.kp fg .nil A8 (A2 (Z3 (pv 0) T.ae T.aH.m bJ (hr.mono DD) bK .nil A8) (A2 (pv 1) (A2 (pv 2) A4 A1) A1) D7)))),?_⟩
  try dsimp only[N1,Cx.nox]
  refine⟨_,rfl,p,dx,_,rfl,e1,O7 KK,F,p,d,k,[],[],rfl,hF,kp0,.nil,⟨rfl,lk⟩,λr v k' H1 po kp1 tv fr _=>?_⟩
  obtain⟨rfl,rfl⟩:=po
  have sp1:∀{u:V} {c:Sp2},ThV TT0 H u (O6 c)->ThV TT0 H1 u (O6 c):=λ{u c} tc=>by
   obtain⟨a,us,rfl,_,e,tu⟩:=V5 (show ThV TT0 H u (.tuple ([((c.1:Nat):Int),c.2].map PyData.int)) from tc)
   exact .tup trivial (fr _ _ e (O1 kp0 e).1 (O1 kp0 e).2) (B5a tu)
  refine⟨_,rfl,_,rfl,j7 (E:=E0) (λd=>∃o,A4e k'.m (wsF k'.kws) b g o/\d=oD o) (.cons tv.any (.cons (sp1 tu1) (.cons (sp1 tu2) .nil))) ⟨k'.m,wsF k'.kws,b,g,rfl,ok.land,hb.1,hg.1,hb.2.1,hb.2.2,hg.2.1,hg.2.2,λM hM=>⟨λhn=>⟨none,⟨M,hM,.inl ⟨rfl,hn⟩⟩,rfl⟩,λS a1 a2 a3 a4=>⟨some S,⟨M,hM,.inr ⟨S,rfl,a1,a2,a3,a4⟩⟩,rfl⟩⟩⟩ λd2 v2 H2 hd2 tv2 s2=>?_⟩
  obtain⟨o,ho,rfl⟩:=hd2
  exact told _ _ _ ⟨b,g,o,rfl,ho,rfl⟩ (kp1.same s2) tv2 λb o e n1 n2=>s2 _ _ (fr _ _ e n1 n2)
def D5j (K:B0) (te:TE):TI:=fun σ H R=>te σ H λx H1=>∃a,x=.ref a/\(((∃xs,SqL K H1 a xs)/\R (Itl K a) H1)\/((∃xs,SqT K H1 a xs)/\R (Itt K a) H1))
theorem B0t {X:Cx} {tg l:Expr} {te:TE} (hl:PE X l te):PI X tg l (D5j X.K te):=by
 intro pins s σ H R I h
 refine thn (hl pins s σ H _ I h) λv s1 zz=>el5 zz λx H1 I1 r1 q1=>?_
 obtain⟨a,e,q1⟩:=q1
 subst e
 cases r1
 rcases q1 with ⟨⟨xs,hq⟩,q⟩ | ⟨⟨xs,hq⟩,q⟩
 ·obtain⟨its,rv,p,hz⟩:=I1.list hq
  refine wpAny_pyIter_list p.isList ?_
  refine⟨s1.heap.objs.size,[s1.heap.objs.size],_,_,H1,rfl,I1.kept (t':=s1.toks) λb o e=>K2 _ e,B6h a _,⟨_,O5 _ rfl,rfl,rfl⟩,λb hb=>?_,q⟩
  have e:b=s1.heap.objs.size:=by simpa using hb
  subst e
  exact I1.fpOk (E1 _) (I1.hok.fresh (E1 _))
 ·obtain⟨its,rv,p,hz⟩:=I1.tuple hq
  refine wpAny_pyIter_tuple (show s1.heap.IsTuple a its.toArray from p) ?_
  refine⟨s1.heap.objs.size,[s1.heap.objs.size],_,_,H1,rfl,I1.kept (t':=s1.toks) λb o e=>K2 _ e,C3h a _,⟨_,O5 _ rfl,rfl,rfl⟩,λb hb=>?_,q⟩
  have e:b=s1.heap.objs.size:=by simpa using hb
  subst e
  exact I1.fpOk (E1 _) (I1.hok.fresh (E1 _))
mutual
inductive Dp:Nat->PyData->Prop
 | non {n}:Dp n .none
 | bl {n b}:Dp n (.bool b)
 | int {n i}:Dp n (.int i)
 | lst {n ds}:ds.length<=900->Dps n ds->Dp (n + 1) (.list ds)
 | tup {n ds}:ds.length<=900->Dps n ds->Dp (n + 1) (.tuple ds)
inductive Dps:Nat->List PyData->Prop
 | nil {n}:Dps n []
 | cons {n d ds}:Dp n d->Dps n ds->Dps n (d::ds)
end
theorem Dps.mem {n:Nat}:∀{ds:List PyData} {d:PyData},Dps n ds->d∈ds->Dp n d
 | _,_,.nil,h=>nomatch h
 | _,_,.cons x t,h=>by
  rcases J1.mp h with rfl | h
  ·exact x
  ·exact t.mem h
theorem Dps.of {n:Nat}:∀{ds:List PyData},(∀d∈ds,Dp n d)->Dps n ds
 | [],_=>.nil
 | d::ds,h=>.cons (h d D4) (Dps.of λx hx=>h x (C8 _ hx))
theorem Dp.lay:∀{n:Nat} {d:PyData},Dp n d->F4 n d
 | n,_,.non=>.non
 | n,_,.bl=>.bl _
 | n,_,.int=>.int _
 | n + 1,_,.lst _ h=>F4.lst λd hd=>Dp.lay (Dps.mem h hd)
 | n + 1,_,.tup _ h=>F4.tup λd hd=>Dp.lay (Dps.mem h hd)
def Frm (H H':Hp) (fp:List Addr):Prop:=(∀b o,H b=some o->b∉fp->H' b=some o)/\∀b,H' b=none->H b=none
theorem Frm.refl {H:Hp} {fp:List Addr}:Frm H H fp:=⟨λ_ _ e _=>e,λ_ e=>e⟩
theorem Frm.tr {H H1 H2:Hp} {fp f1 f2:List Addr} (h:Frm H H1 f1) (k:Frm H1 H2 f2) (s1:∀b∈f1,b∈fp) (s2:∀b∈f2,b∈fp):Frm H H2 fp:=⟨λb o e n=>k.1 _ _ (h.1 _ _ e λz=>n (s1 _ z)) λz=>n (s2 _ z),λb e=>h.2 b (k.2 b e)⟩
theorem Frm.upd {H H1:Hp} {fp:List Addr} (h:Frm H H1 fp) {a:Addr} {o:HO} (ha:a∈fp):Frm H (upd H1 a o) fp:=⟨λb o' e n=>by
 rw[B4 (λz:b=a=>n (by rw[z];exact ha))];exact h.1 _ _ e n,λb e=>h.2 b (A1d e).2⟩
theorem D5k {F:Addr->Prop} {H H':Hp} {us:List V} {ds:List PyData} {fp fq:List Addr} (t:E7 F H us ds fp) (f:Frm H H' fq) (hd:∀b∈fp,b∉fq) (hq:∀b∈fq,∃xs,H b=some (.lst xs)):E7 F H' us ds fp:=t.mvm λb o g e h=>⟨g,f.1 _ _ e λz=>by
 rcases h with h | ⟨xs,rfl⟩
 ·exact hd b h z
 ·obtain⟨ys,y⟩:=hq b z
  rw[e] at y;cases y⟩
def A76:Nat->Sp
 | 0=>λ_ _ _ _=>False
 | n + 1=>λvs H Q _=>∃v d fp,vs=[v]/\FpV TT0 H v d fp/\fp.Nodup/\Dp n d/\∀H',Frm H H' fp->Q .non H'
section
variable {P:Program} {w:World} {K:B0} {mg:Str->Option Value} {base:Heap}
theorem D5l (T:Txt K mg) (n:Nat) (bU:C0 P w K mg base CX0 n T.aj.a T.aj.d ["_law_told"] (A76 n)):C0 P w K mg base CX0 (n + 1) T.aj.a T.aj.d ["_law_told"] (A76 (n + 1)):=by
 have bV:=T.aj.b
 refine T.aj.F.ok B4w (λvs H Q E h=>?_) (λcdv A outer s H vs Q E hr h=>?_)
 ·obtain⟨v,d,fp,rfl,_⟩:=h
  rfl
 ·obtain⟨v,d,fp,rfl,tv,nd,dp,told⟩:=h
  refine⟨_,(B5 (J0 (G4 (W3 (J8 A8z rfl T.aG A1n (A2 (pv 0) (A2 (A1j (v:=V.ty "tuple") rfl T.dj A82 rfl) A4 A1) A1)))
   (C5 (X5 S9 rfl (B0t (pv 0)) (P9 (i:=1) B4w.nd rfl (B9 rfl))
   (C5 (P8 (B3 bU hr rfl T.aj.m T.aj.F.kp bV .nil A8 (A2 (pv 1) A4 A1))))))
   G7))
   (C5 (G4 (W3 (J8 A8z rfl T.aG A1n (A2 (pv 0) (A2 (A1j (v:=V.ty "list") rfl T.au R9 rfl) A4 A1) A1)))
   (B5 (X5 S9 rfl (B0t (pv 0)) (P9 (i:=1) B4w.nd rfl (B9 rfl))
   (C5 (P8 (B3 bU hr rfl T.aj.m T.aj.F.kp bV .nil A8 (A2 (pv 1) A4 A1)))))
   (B5 (P8 (z5 t9 A4q A4r A1l (pv 0) (A2 B1 A4 E4)))
   (C5 (P8 (B7a t9 PySem.F.slot_list_reverse PySem.F.type_list_reverse C4t (pv 0))))))
   G7))),?_⟩
  try dsimp only[N1,Cx.nox]
  have loop:∀{us:List V} {ds:List PyData} {fq:List Addr} {a0:Addr} {D:Y8} {k:Nat},n=k + 1->E7 TT0 H us ds fq->fq.Nodup->Dps k ds->∀Pv:Nat->L2.St->Hp->Prop,(∀i σ' H',Pv i σ' H'↔(∃x,σ'=[some (.ref a0),x])/\Frm H H' fq/\∃fr,E7 TT0 H' (us.drop i) (ds.drop i) fr/\fr.Nodup/\∀b∈fr,b∈fq)->(Pv 0 [some (.ref a0),none] H)/\∀i x σ' H',us[i]?=some x->Pv i σ' H'->l6 1 x σ' H' fun σ2 H2=>B1d (B1m (A76 n) [] E0 (W6 (W1 1) V1)) { nx:=Pv (i + 1),rt:=D.rt,bk:=D.nx,ct:=Pv (i + 1) } σ2 H2:=by
   rintro us ds fq a0 D k rfl tu ndq dps Pv hP
   refine⟨(hP _ _ _).mpr ⟨⟨_,rfl⟩,Frm.refl,fq,tu,ndq,λ_ z=>z⟩,λi x σ' H' hx h=>?_⟩
   obtain⟨⟨z,rfl⟩,f,fr,tr,ndr,sub⟩:=(hP _ _ _).mp h
   have hi:i < us.length:=(V9.mp hx).1
   have hx2:us[i]=x:=(V9.mp hx).2
   have hd:i < ds.length:=by rw[<-tu.len];exact hi
   rw[A6h hi,A6h hd,hx2] at tr
   cases tr with
   | @cons _ _ _ _ f1 f2 tx t2=>
   have nds:=A6l.mp ndr
   unfold l6
   dsimp only[R7]
   refine⟨_,rfl,x,_,f1,rfl,tx,nds.1,dps.mem (B54 hd),λH2 fr2=>?_⟩
   refine (hP _ _ _).mpr ⟨⟨_,rfl⟩,f.tr fr2 (λ_ z=>z) (λb hb=>sub b (V8.mpr (.inl hb))),f2,D5k t2 fr2 (λb hb z=>nds.2.2 b z b hb rfl) (λb hb=>(tx.mem b hb).2),nds.2.1,λb hb=>sub b (V8.mpr (.inr hb))⟩
  have ty:(∃t,W5 K H v t/\X4 K t (.type "tuple")=some false/\X4 K t (.type "list")=some false)\/(∃m ds,d=.tuple ds/\ds.length<=900/\n=m + 1/\Dps m ds)\/(∃m ds,d=.list ds/\ds.length<=900/\n=m + 1/\Dps m ds):=by
   cases dp with
   | non=>cases tv;exact .inl ⟨_,.non,rfl,rfl⟩
   | bl=>cases tv;exact .inl ⟨_,.bl _,rfl,rfl⟩
   | int=>cases tv;exact .inl ⟨_,.int _,rfl,rfl⟩
   | tup hl dps=>exact .inr (.inl ⟨_,_,rfl,hl,rfl,dps⟩)
   | lst hl dps=>exact .inr (.inr ⟨_,_,rfl,hl,rfl,dps⟩)
  rcases ty with ⟨t,ty,k1,k2⟩ | ⟨m,ds,rfl,hl,rfl,dps⟩ | ⟨m,ds,rfl,hl,rfl,dps⟩
  ·refine⟨fun σ' H'=>σ'=[some v,none]/\H'=H,⟨_,rfl,_,_,_,_,_,rfl,rfl,ty,k1,_,rfl,D0 ⟨rfl,rfl⟩⟩,?_⟩
   rintro σ' H' ⟨rfl,rfl⟩
   exact⟨_,rfl,_,_,_,_,_,rfl,rfl,ty,k2,_,rfl,D0 (told _ Frm.refl)⟩
  ·obtain⟨a,us,rfl,_,ea,tu⟩:=C8t tv
   refine⟨fun σ' H'=>(∃x,σ'=[some (.ref a),x])/\Frm H H' fp,?_,?_⟩
   ·obtain⟨l1,l2⟩:=loop (a0:=a) rfl tu nd dps _ λi σ' H'=>Iff.rfl
    refine⟨_,rfl,_,_,_,_,_,rfl,rfl,.tup ea,rfl,_,rfl,F5 ⟨_,rfl,a,rfl,.inr ⟨⟨us,SqT.of ea⟩,C3m (xs:=us) _ l1 (λi σ' H' _ h=>?_) l2 (fun σ' H' h=>⟨h.1,h.2.1⟩)⟩⟩⟩
    refine SqT.of (h.2.1.1 _ _ ea λz=>?_)
    obtain⟨_,xs,e⟩:=tu.mem a z
    rw[ea] at e;cases e
   ·rintro σ' H' ⟨⟨x,rfl⟩,f⟩
    have ea':=f.1 _ _ ea λz=>by
     obtain⟨_,xs,e⟩:=tu.mem a z
     rw[ea] at e;cases e
    exact⟨_,rfl,_,_,_,_,_,rfl,rfl,.tup ea',rfl,_,rfl,D0 (told _ f)⟩
  ·obtain⟨a,us,fq,rfl,rfl,_,ea,tu⟩:=B9k tv
   have nda:=g8.mp nd
   refine⟨fun σ' H'=>σ'=[some (.ref a),none]/\H'=H,⟨_,rfl,_,_,_,_,_,rfl,rfl,.lst ea,rfl,_,rfl,D0 ⟨rfl,rfl⟩⟩,?_⟩
   rintro σ' H' ⟨rfl,rfl⟩
   obtain⟨l1,l2⟩:=loop (a0:=a) rfl tu nda.2 dps _ λi σ' H'=>Iff.rfl
   refine⟨_,rfl,_,_,_,_,_,rfl,rfl,.lst ea,rfl,_,rfl,F5 ⟨_,rfl,a,rfl,.inl ⟨⟨us,SqL.of ea⟩,A8n (xs:=us) _ l1 (λi σ' H' _ h=>SqL.of (h.2.1.1 _ _ ea nda.1)) l2 (fun σ' H' h=>?_)⟩⟩⟩
   obtain⟨⟨x,rfl⟩,f,_⟩:=h
   have ea':=f.1 _ _ ea nda.1
   refine⟨_,rfl,.inl ⟨rfl,us,SqL.of ea'⟩,a,us,.int 7,rfl,rfl,ea',by rw[tu.len,sizeLine_eq];lia,?_⟩
   refine⟨_,rfl,.inl ⟨rfl,_,SqL.of B2⟩,a,_,rfl,rfl,B2,?_⟩
   have f':Frm _ _ (a::fq):=⟨λb o e n=>f.1 _ _ e λz=>n (C8 _ z),f.2⟩
   exact told _ ((f'.upd D4).upd D4)
theorem C1q {a:Addr} {d:FuncData} {lev:Nat} {ps:List Str}:C0 P w K mg base CX0 lev a d ps (λ_ _ _ _=>False):=⟨λ_ _ _ _ z=>z.elim,λ_ _ _ _ _ _ _ _ _ _ _ _ _ z=>z.elim⟩
theorem C1r (T:Txt K mg):∀n,C0 P w K mg base CX0 n T.aj.a T.aj.d ["_law_told"] (A76 n)
 | 0=>C1q
 | n + 1=>D5l T n (C1r T n)
theorem B5g (T:Txt K mg):C0 P w K mg base CX0 5 T.aj.a T.aj.d ["_law_told"] (A76 5):=C1r T 5
end
def B0u:Nat->Sp
 | 0=>λ_ _ _ _=>False
 | n + 1=>λvs H Q _=>∃v d,vs=[v]/\ThV TT0 H v d/\Dp n d/\∀v' H' fp,FpV (F9 H) H' v' d fp->fp.Nodup->Same H H'->Q v' H'
theorem D5m (T:Txt K mg) (n:Nat) (bm:C0 P w K mg base CX0 n T.ah.a T.ah.d ["_law_thing"] (B0u n)):C0 P w K mg base CX0 (n + 1) T.ah.a T.ah.d ["_law_thing"] (B0u (n + 1)):=by
 have bn:=T.ah.b
 refine T.ah.F.ok C92 (λvs H Q E h=>?_) (λcdv A outer s H vs Q E hr h=>?_)
 ·obtain⟨v,d,rfl,_⟩:=h
  rfl
 ·obtain⟨v,d,rfl,tv,dp,told⟩:=h
  refine⟨_,(B5 (J0 (G4 (W3 (J8 A8z rfl T.aG A1n (A2 (pv 0) (A2 (A1j (v:=V.ty "list") rfl T.au R9 rfl) A4 A1) A1)))
   (C5 (F2 (V4 (M2.new (N:=["_law_thing"]) (osc:=B6 A7n) KK) rfl (B0t (pv 0)) (λ_=>d8) (λ_=>(B3 bm hr rfl T.ah.m T.ah.F.kp bn .nil A8 (A2 (pv 1) A4 A1))))))
   G7))
   (B5 (J0 (G4 (W3 (J8 A8z rfl T.aG A1n (A2 (pv 0) (A2 (A1j (v:=V.ty "tuple") rfl T.dj A82 rfl) A4 A1) A1)))
   (C5 (F2 (R8 C4p rfl T.dj A82 (A2 (V4 (M2.new (N:=["_law_thing"]) (osc:=B6 A7n) KK) rfl (B0t (pv 0)) (λ_=>d8) (λ_=>(B3 bm hr rfl T.ah.m T.ah.F.kp bn .nil A8 (A2 (pv 1) A4 A1)))) A4 A2t))))
   G7))
   (C5 (F2 (pv 0))))),?_⟩
  try dsimp only[N1,Cx.nox]
  have step:∀{us ys:List V} {ds:List PyData} {i m:Nat} {x:V} {H':Hp},n=m + 1->Dps m ds->A9 TT0 H us ds->us[i]?=some x->(Same H H'/\ys.length=i/\∃fr,E7 (F9 H) H' ys (ds.take i) fr/\fr.Nodup)->∃d',ThV TT0 H' x d'/\Dp m d'/\∀v' H2 fp,FpV (F9 H') H2 v' d' fp->fp.Nodup->Same H' H2->(Same H H2/\(ys++[v']).length=i + 1/\∃fr,E7 (F9 H) H2 (ys++[v']) (ds.take (i + 1)) fr/\fr.Nodup):=by
   rintro us ys ds i m x H' rfl dps tu hx ⟨s1,hl,fr,Tf,nd⟩
   obtain⟨d',hd',tx⟩:=tu.get hx
   refine⟨d',tx.keep s1,dps.mem (Q9 hd'),λv' H2 f2 t2 nd2 s2=>⟨s1.tr s2,by rw[P0,hl];rfl,fr++(f2++[]),?_,?_⟩⟩
   ·rw[A2g,hd']
    exact (Tf.mvm λb o g e _=>⟨g,s2 _ _ e⟩).append (.cons (t2.early s1 s2).1 .nil)
   ·rw[Y6]
    refine A6l.mpr ⟨nd,nd2,λb hb c hc e=>?_⟩
    subst e
    obtain⟨_,xs,ex⟩:=Tf.mem b hb
    rw[(t2.early s1 s2).2 b hc] at ex;cases ex
  have fin:∀{ys:List V} {ds:List PyData} {H':Hp} {p:Addr},(Same H H'/\∃fr,E7 (F9 H) H' ys ds fr/\fr.Nodup)->H' p=none->∃fp,FpV (F9 H) (upd H' p (.lst ys)) (.ref p) (.list ds) fp/\fp.Nodup/\Same H (upd H' p (.lst ys)):=by
   rintro ys ds H' p ⟨s1,fr,Tf,nd⟩ hp
   refine⟨p::fr,.lst (.inl (s1.early hp)) B2 (Tf.mvm λb o g e _=>⟨g,Same.upd hp _ _ e⟩),g8.mpr ⟨λz=>?_,nd⟩,s1.tr (Same.upd hp)⟩
   obtain⟨_,xs,ex⟩:=Tf.mem p z
   rw[hp] at ex;cases ex
  have ty:(∃t,W5 K H v t/\X4 K t (.type "tuple")=some false/\X4 K t (.type "list")=some false/\FpV (F9 H) H v d [])\/(∃m ds,d=.tuple ds/\ds.length<=900/\n=m + 1/\Dps m ds)\/(∃m ds,d=.list ds/\ds.length<=900/\n=m + 1/\Dps m ds):=by
   cases dp with
   | non=>cases tv;exact .inl ⟨_,.non,rfl,rfl,.non⟩
   | bl=>cases tv;exact .inl ⟨_,.bl _,rfl,rfl,.bl _⟩
   | int=>cases tv;exact .inl ⟨_,.int _,rfl,rfl,.int _⟩
   | tup hl dps=>exact .inr (.inl ⟨_,_,rfl,hl,rfl,dps⟩)
   | lst hl dps=>exact .inr (.inr ⟨_,_,rfl,hl,rfl,dps⟩)
  rcases ty with ⟨t,ty,k1,k2,tf⟩ | ⟨m,ds,rfl,hl,rfl,dps⟩ | ⟨m,ds,rfl,hl,rfl,dps⟩
  ·refine⟨fun σ' H'=>σ'=[some v]/\H'=H,⟨_,rfl,_,_,_,_,_,rfl,rfl,ty,k2,_,rfl,D0 ⟨rfl,rfl⟩⟩,?_⟩
   rintro σ' H' ⟨rfl,rfl⟩
   refine⟨fun σ' H2=>σ'=[some v]/\H2=H',⟨_,rfl,_,_,_,_,_,rfl,rfl,ty,k1,_,rfl,D0 ⟨rfl,rfl⟩⟩,?_⟩
   rintro σ' H2 ⟨rfl,rfl⟩
   exact⟨_,rfl,told _ _ [] tf j8 (Same.refl _)⟩
  ·obtain⟨a,us,rfl,_,ea,tu⟩:=V5 tv
   refine⟨fun σ' H'=>σ'=[some (.ref a)]/\H'=H,⟨_,rfl,_,_,_,_,_,rfl,rfl,.tup ea,rfl,_,rfl,D0 ⟨rfl,rfl⟩⟩,?_⟩
   rintro σ' H' ⟨rfl,rfl⟩
   refine⟨λ_ _=>False,?_,λ_ _ z=>z.elim⟩
   refine⟨_,rfl,_,_,_,_,_,rfl,rfl,.tup ea,rfl,_,rfl,F5 ?_⟩
   refine⟨_,rfl,a,rfl,.inr ⟨⟨us,SqT.of ea⟩,C47 (xs:=us) (λi ys H2=>Same H' H2/\ys.length=i/\∃fr,E7 (F9 H') H2 ys (ds.take i) fr/\fr.Nodup) (by rw[tu.len,sizeLine_eq];lia) ⟨Same.refl _,rfl,[],.nil,j8⟩ (λi ys H2 _ h=>⟨by rw[h.2.1];exact E1 _,SqT.of (h.1 _ _ ea)⟩) (λi x ys H2 hx h ca=>?_) λys H2 h p hp=>?_⟩⟩
   ·obtain⟨d',tx,dx,st⟩:=step rfl dps tu hx h
    unfold b9
    exact F5 ⟨_,rfl,x,d',rfl,tx,dx,st⟩
   ·obtain⟨s1,hlen,fr,Tf,ndf⟩:=h
    rw[tu.len,A2j] at Tf
    refine⟨p,ys,rfl,.inl ⟨SqL.of B2,λl hl2=>?_⟩⟩
    have k2:=Same.upd (o:=.lst ys) hp
    have k3:=Same.upd (o:=.tup ys) hl2
    exact told _ _ fr (.tup (.inl ((s1.tr k2).early hl2)) B2 (Tf.mvm λb o g e _=>⟨g,k3 _ _ (k2 _ _ e)⟩)) ndf ((s1.tr k2).tr k3)
  ·obtain⟨a,us,rfl,_,ea,tu⟩:=K8 tv
   refine⟨λ_ _=>False,?_,λ_ _ z=>z.elim⟩
   refine⟨_,rfl,_,_,_,_,_,rfl,rfl,.lst ea,rfl,_,rfl,F5 ?_⟩
   refine⟨_,rfl,a,rfl,.inl ⟨⟨us,SqL.of ea⟩,A0a (xs:=us) (λi ys H2=>Same H H2/\ys.length=i/\∃fr,E7 (F9 H) H2 ys (ds.take i) fr/\fr.Nodup) (by rw[tu.len,sizeLine_eq];lia) ⟨Same.refl _,rfl,[],.nil,j8⟩ (λi ys H2 _ h=>⟨by rw[h.2.1];exact E1 _,SqL.of (h.1 _ _ ea)⟩) (λi x ys H2 hx h ca=>?_) λys H2 h p hp=>?_⟩⟩
   ·obtain⟨d',tx,dx,st⟩:=step rfl dps tu hx h
    unfold b9
    exact F5 ⟨_,rfl,x,d',rfl,tx,dx,st⟩
   ·obtain⟨s1,hlen,fr,Tf,ndf⟩:=h
    rw[tu.len,A2j] at Tf
    obtain⟨fp,h1,h2,h3⟩:=fin (ds:=ds) ⟨s1,fr,Tf,ndf⟩ hp
    exact told _ _ fp h1 h2 h3
theorem C1s (T:Txt K mg):∀n,C0 P w K mg base CX0 n T.ah.a T.ah.d ["_law_thing"] (B0u n)
 | 0=>C1q
 | n + 1=>D5m T n (C1s T n)
theorem B5h (T:Txt K mg):C0 P w K mg base CX0 5 T.ah.a T.ah.d ["_law_thing"] (B0u 5):=C1s T 5
theorem C1t {F G:Addr->Prop} {H H':Hp}:∀{xs:List Int} {us:List V},A9 F H us (xs.map PyData.int)->E7 G H' us (xs.map PyData.int) []
 | [],_,h=>by cases h;exact .nil
 | x::xs,_,h=>by
  cases h with
  | cons y r=>cases y;exact E7.cons (fp:=[]) (fps:=[]) (.int _) (C1t r)
theorem C1u {F:Addr->Prop} {H:Hp} {v:V} {xs:List Int} (t:ThV F H v (.tuple (xs.map PyData.int))):FpV TT0 H v (.tuple (xs.map PyData.int)) []:=by
 obtain⟨a,us,rfl,_,e,tu⟩:=V5 t
 exact .tup trivial e (C1t tu)
theorem B5i {F:Addr->Prop} {H:Hp} {α:Type} {f:α->PyData} (hf:∀x v,ThV F H v (f x)->FpV TT0 H v (f x) []):∀{xs:List α} {us:List V},A9 F H us (xs.map f)->E7 TT0 H us (xs.map f) []
 | [],_,h=>by cases h;exact .nil
 | x::xs,_,h=>by
  cases h with
  | cons y r=>exact E7.cons (fp:=[]) (fps:=[]) (hf _ _ y) (B5i hf r)
theorem D5n {F:Addr->Prop} {H:Hp} (w:Wy) (v:V) (t:ThV F H v (K6 w)):FpV TT0 H v (K6 w) []:=C1u (xs:=[((w.1:Nat):Int),((w.2.1:Nat):Int),w.2.2]) t
theorem D5o {F:Addr->Prop} {H:Hp} (x:Int) (w:Wy) (v:V) (t:ThV F H v (kwD x w)):FpV TT0 H v (kwD x w) []:=C1u (xs:=[x,((w.1:Nat):Int),((w.2.1:Nat):Int),w.2.2]) t
def A4f (k:Kst) (w j:Nat) (b:Tb) (r:PyData):Prop:=(w=0/\r=.list (A19 k.kws))\/(w=1/\r=.list (B8 k.g))\/(w=2/\r=G3 k.m (wsF k.kws))\/(w=3/\r=.list (B8 k.low))\/(w=4/\A4d k j r)\/(w=5/\∃t,N4 k.m (wsF k.kws) k.st b t/\r=.list (B8 t))\/(w=6/\∃o,A4e k.m (wsF k.kws) (j,0) (0,1) o/\r=oD o)\/(w=7/\r=.int k.st)
def D5p (C:Addr):Sp:=λvs H Q _=>∃(F:Addr->Prop) (p d:Addr) (k:Kst) (w j:Nat) (vb:V) (b:Tb),vs=[.ref p,.int ((w:Nat):Int),.int ((j:Nat):Int),vb]/\(∀b,H b=none->F b)/\D1 F C H p d k/\w < 8/\j < k.m/\ThV TT0 H vb (.list (B8 b))/\F7 k.m k.st b/\KOk k.m k.st k.g k.kws/\
 ∀r v H' (fp:List Addr),A4f k w j b r->D1 F C H' p d k->(∀b∈fp,H b=none)->D1 (λb=>b∉fp) C H' p d k->FpV TT0 H' v r fp->fp.Nodup->Frp p d H H'->Q v H'
theorem D5q {C:Addr} {H':Hp} {p d:Addr} {k:Kst} {l:Addr} (a:Apt C H' p d k (.ref l)):D1 (λb=>b∉[l]) C H' p d k:=b3 a.2 λb xs n _ z=>n (.inl (by rw[Y7.mp z]))
theorem C1v {F:Addr->Prop} {C:Addr} {H':Hp} {p d:Addr} {k:Kst} (a:D1 F C H' p d k):D1 (λb=>b∉([]:List Addr)) C H' p d k:=b3 a λb xs _ _ z=>nomatch z
theorem B0v {F:Addr->Prop} {C:Addr} {H H':Hp} {p d:Addr} {k:Kst} {v:V} {ds:List PyData} (kp:D1 F C H' p d k) (fr:Frp p d H H') (t:ThV (F9 H) H' v (.list ds)) (a:Apt C H' p d k v) (h:∀us,A9 (F9 H) H' us ds->E7 TT0 H' us ds []):∃fp,(∀b∈fp,H b=none)/\D1 (λb=>b∉fp) C H' p d k/\FpV TT0 H' v (.list ds) fp/\fp.Nodup:=by
 obtain⟨l,us,rfl,g,e,tu⟩:=K8 t
 refine⟨[l],λb hb=>?_,D5q a,.lst trivial e (h us tu),by simp⟩
 rw[Y7.mp hb]
 exact B0s kp fr g e
theorem C1w {a b:Sp2} (h:O6 a=O6 b):a=b:=by
 obtain⟨x,y⟩:=a
 obtain⟨x',y'⟩:=b
 have h1:=PyData.tuple.inj h
 have h2:=PyData.int.inj (v8.inj h1).1
 have h3:=PyData.int.inj (v8.inj (v8.inj h1).2).1
 have h2:((x:Nat):Int)=((x':Nat):Int):=h2
 have h4:x=x':=by lia
 have h3:y=y':=h3
 rw[h4,h3]
theorem C1x (T:Txt K mg):C0 P w K mg base CX0 12 T.cB.a T.cB.d ["_law_keeper", "_law_way", "_law_place", "_law_base"] (D5p T.ac):=by
 have hV:=@D4k P w K mg base T
 have hX:=T.cq.b
 have hZ:=@D4j P w K mg base T
 have ic:=T.cr.b
 have bJ:=@A70 P w K mg base T
 have bK:=T.aH.b
 have gL:=@D24 P w K mg base T
 have gM:=T.cg.b
 have fh:=@D5h P w K mg base T
 have fj:=T.bq.b
 have dg:=@C1p P w K mg base T
 have dh:=T.aZ.b
 have eC:=@D5i P w K mg base T
 have eD:=T.aP.b
 have gO:=@D4i P w K mg base T
 have gP:=T.cf.b
 refine T.cB.F.ok C93 (λvs H Q E h=>?_) (λcdv A outer s H vs Q E hr h=>?_)
 ·obtain⟨F,p,d,k,n,j,vb,b,rfl,_⟩:=h
  rfl
 ·obtain⟨F,p,d,k,n,j,vb,b,rfl,hF,kp,hn,hj,tb,hb,ok,told⟩:=h
  have kp0:=kp
  obtain⟨⟨dx,g,l,ug,ul,e1,g1,e2,t2,g3,e3,t3⟩,kvs,e4,kv⟩:=kp
  have fk:=ok.few
  have m2:=ok.m2
  have lk:(E8 k.kws).length < 64:=by unfold E8;rw[C1];lia
  have no:∀i:Nat,n≠i->decide (V.int ((n:Nat):Int)=V.int ((i:Nat):Int))=false:=λi c=>decide_eq_false λz=>c (by have:=V.int.inj z;lia)
  refine⟨_,(B5 (J0 (G4 (J2 Q4 (pv 1) B1 (D5 _))
   (C5 (F2 (Z3 (pv 0) T.ae T.cq.m hV (hr.mono DD) hX .nil A8)))
   G7))
   (B5 (J0 (G4 (J2 Q4 (pv 1) B1 (D5 _))
   (C5 (F2 (Z3 (pv 0) T.ae T.cr.m hZ (hr.mono DD) ic .nil A8)))
   G7))
   (B5 (J0 (G4 (J2 Q4 (pv 1) B1 (D5 _))
   (C5 (F2 (Z3 (pv 0) T.ae T.aH.m bJ (hr.mono DD) bK .nil A8)))
   G7))
   (B5 (J0 (G4 (J2 Q4 (pv 1) B1 (D5 _))
   (C5 (F2 (Z3 (pv 0) T.ae T.cg.m gL (hr.mono DD) gM .nil A8)))
   G7))
   (B5 (J0 (G4 (J2 Q4 (pv 1) B1 (D5 _))
   (C5 (F2 (m5 (pv 0) T.ae T.bq.m fh (hr.mono DD) fj .nil A8 (A2 (pv 2) A4 A1) (hst:=A1))))
   G7))
   (B5 (J0 (G4 (J2 Q4 (pv 1) B1 (D5 _))
   (C5 (F2 (m5 (pv 0) T.ae T.aZ.m dg (hr.mono DD) dh .nil A8 (A2 (R8 W7 rfl T.au R9 (A2 (pv 3) A4 A1)) A4 D7) (hst:=D7))))
   G7))
   (B5 (J0 (G4 (J2 Q4 (pv 1) B1 (D5 _))
   (C5 (F2 (m5 (pv 0) T.ae T.aP.m eC (hr.mono DD) eD .nil A8 (A2 (Q0 (A2 (pv 2) (A2 B1 A4 E4) A1)) (A2 (Q0 (A2 B1 (A2 B1 A4 E4) E4)) A4 X8) X8) (hst:=X8))))
   G7))
   (C5 (F2 (Z3 (pv 0) T.ae T.cf.m gO (hr.mono DD) gP .nil A8)))))))))),?_⟩
  try dsimp only[N1,Cx.nox]
  refine T7 λW hW=>?_
  by_cases c:n=0
  ·subst c
   refine⟨λ_ _=>False,⟨_,rfl,rfl,_,rfl,F5 ⟨_,rfl,p,dx,_,rfl,e1,O7 KK,F,p,d,k,[],[],rfl,hF,kp0,.nil,⟨rfl,lk⟩,λr v k' H1 po kp1 tv fr ap=>?_⟩⟩,λ_ _ z=>z.elim⟩
   obtain⟨rfl,rfl⟩:=po
   obtain⟨fp,h1,h2,h3,h4⟩:=B0v kp1 fr tv ap λus tu=>B5i (λx v t=>D5o _ _ v t) tu
   exact told _ _ _ fp (.inl ⟨rfl,rfl⟩) kp1 h1 h2 h3 h4 fr
  refine⟨fun σ' H'=>σ'=[some (.ref p),some (.int ((n:Nat):Int)),some (.int ((j:Nat):Int)),some vb]/\H=H',⟨_,rfl,rfl,_,rfl,by rw[show decide (V.int ((n:Nat):Int)=V.int 0)=false from no 0 c];exact D0 ⟨rfl,rfl⟩⟩,?_⟩
  rintro σ' _ ⟨rfl,rfl⟩
  refine C3 W hW λW hW=>?_
  by_cases c:n=1
  ·subst c
   refine⟨λ_ _=>False,⟨_,rfl,rfl,_,rfl,F5 ⟨_,rfl,p,dx,_,rfl,e1,O7 KK,F,p,d,k,[],[],rfl,hF,kp0,.nil,rfl,λr v k' H1 po kp1 tv fr ap=>?_⟩⟩,λ_ _ z=>z.elim⟩
   obtain⟨rfl,rfl⟩:=po
   obtain⟨fp,h1,h2,h3,h4⟩:=B0v kp1 fr tv ap λus tu=>A7w tu
   exact told _ _ _ fp (.inr (.inl ⟨rfl,rfl⟩)) kp1 h1 h2 h3 h4 fr
  refine⟨fun σ' H'=>σ'=[some (.ref p),some (.int ((n:Nat):Int)),some (.int ((j:Nat):Int)),some vb]/\H=H',⟨_,rfl,rfl,_,rfl,by rw[show decide (V.int ((n:Nat):Int)=V.int 1)=false from no 1 c];exact D0 ⟨rfl,rfl⟩⟩,?_⟩
  rintro σ' _ ⟨rfl,rfl⟩
  refine C3 W hW λW hW=>?_
  by_cases c:n=2
  ·subst c
   refine⟨λ_ _=>False,⟨_,rfl,rfl,_,rfl,F5 ⟨_,rfl,p,dx,_,rfl,e1,O7 KK,F,p,d,k,[],[],rfl,hF,kp0,.nil,⟨rfl,lk⟩,λr v k' H1 po kp1 tv fr ap=>?_⟩⟩,λ_ _ z=>z.elim⟩
   obtain⟨rfl,rfl⟩:=po
   obtain⟨a,us,rfl,_,ea,tu⟩:=V5 tv
   obtain⟨v1,v2,rfl,t1,t2⟩:=Q1 tu
   cases t1
   obtain⟨l2,ul2,rfl,gl,el,tl⟩:=K8 t2
   refine told _ _ _ [l2] (.inr (.inr (.inl ⟨rfl,rfl⟩))) kp1 (λb hb=>?_) (b3 ap.2 λb xs n _ z=>n (.inr ⟨a,_,rfl,ea,by rw[Y7.mp z];simp⟩)) (.tup trivial ea (E7.cons (fp:=[]) (fps:=[l2]) (.int _) (E7.cons (fp:=[l2]) (fps:=[]) (.lst trivial el (B5i D5n tl)) .nil))) (by simp) fr
   rw[Y7.mp hb]
   exact B0s kp1 fr gl el
  refine⟨fun σ' H'=>σ'=[some (.ref p),some (.int ((n:Nat):Int)),some (.int ((j:Nat):Int)),some vb]/\H=H',⟨_,rfl,rfl,_,rfl,by rw[show decide (V.int ((n:Nat):Int)=V.int 2)=false from no 2 c];exact D0 ⟨rfl,rfl⟩⟩,?_⟩
  rintro σ' _ ⟨rfl,rfl⟩
  refine C3 W hW λW hW=>?_
  by_cases c:n=3
  ·subst c
   refine⟨λ_ _=>False,⟨_,rfl,rfl,_,rfl,F5 ⟨_,rfl,p,dx,_,rfl,e1,O7 KK,F,p,d,k,[],[],rfl,hF,kp0,.nil,rfl,λr v k' H1 po kp1 tv fr ap=>?_⟩⟩,λ_ _ z=>z.elim⟩
   obtain⟨rfl,rfl⟩:=po
   obtain⟨fp,h1,h2,h3,h4⟩:=B0v kp1 fr tv ap λus tu=>A7w tu
   exact told _ _ _ fp (.inr (.inr (.inr (.inl ⟨rfl,rfl⟩)))) kp1 h1 h2 h3 h4 fr
  refine⟨fun σ' H'=>σ'=[some (.ref p),some (.int ((n:Nat):Int)),some (.int ((j:Nat):Int)),some vb]/\H=H',⟨_,rfl,rfl,_,rfl,by rw[show decide (V.int ((n:Nat):Int)=V.int 3)=false from no 3 c];exact D0 ⟨rfl,rfl⟩⟩,?_⟩
  rintro σ' _ ⟨rfl,rfl⟩
  refine C3 W hW λW hW=>?_
  by_cases c:n=4
  ·subst c
   refine⟨λ_ _=>False,⟨_,rfl,rfl,_,rfl,F5 ⟨_,rfl,p,dx,_,rfl,e1,O7 KK,_,rfl,F,p,d,k,[.int ((j:Nat):Int)],[.int ((j:Nat):Int)],rfl,hF,kp0,.cons (.int _) .nil,⟨j,rfl,hj,ok⟩,λr v H1 fp po kp1 h1 h2 h3 h4 fr=>?_⟩⟩,λ_ _ z=>z.elim⟩
   obtain⟨i,hi,po⟩:=po
   have:i=j:=by
    have:=PyData.int.inj (v8.inj hi).1
    lia
   subst this
   exact told _ _ _ fp (.inr (.inr (.inr (.inr (.inl ⟨rfl,po⟩))))) kp1 h1 h2 h3 h4 fr
  refine⟨fun σ' H'=>σ'=[some (.ref p),some (.int ((n:Nat):Int)),some (.int ((j:Nat):Int)),some vb]/\H=H',⟨_,rfl,rfl,_,rfl,by rw[show decide (V.int ((n:Nat):Int)=V.int 4)=false from no 4 c];exact D0 ⟨rfl,rfl⟩⟩,?_⟩
  rintro σ' _ ⟨rfl,rfl⟩
  refine C3 W hW λW hW=>?_
  obtain⟨ab,ub,rfl,_,eb,tub⟩:=K8 tb
  by_cases c:n=5
  ·subst c
   refine⟨λ_ _=>False,⟨_,rfl,rfl,_,rfl,F5 ⟨_,rfl,p,dx,_,rfl,e1,O7 KK,_,rfl,ab,ub,rfl,.inl (SqL.of eb),λlb hlb=>?_⟩⟩,λ_ _ z=>z.elim⟩
   have s1:=Same.upd (o:=.lst ub) hlb
   refine⟨F,p,d,k,_,[.list (B8 b)],rfl,(λb' h=>hF b' (s1.early h)),kp0.same s1,.cons (.lst trivial B2 (E6 tub)) .nil,⟨b,rfl,hb,ok⟩,λr v k' H1 po kp1 tv fr ap=>?_⟩
   obtain⟨rfl,b',t,hb',ht,rfl⟩:=po
   cases B5e (PyData.list.inj (v8.inj hb').1)
   obtain⟨fp,h1,h2,h3,h4⟩:=B0v kp1 fr tv ap λus tu=>A7w tu
   exact told _ _ _ fp (.inr (.inr (.inr (.inr (.inr (.inl ⟨rfl,t,ht,rfl⟩)))))) kp1 (λb hb=>s1.early (h1 b hb)) h2 h3 h4 λb o e n1 n2=>fr _ _ (s1 _ _ e) n1 n2
  refine⟨fun σ' H'=>σ'=[some (.ref p),some (.int ((n:Nat):Int)),some (.int ((j:Nat):Int)),some (.ref ab)]/\H=H',⟨_,rfl,rfl,_,rfl,by rw[show decide (V.int ((n:Nat):Int)=V.int 5)=false from no 5 c];exact D0 ⟨rfl,rfl⟩⟩,?_⟩
  rintro σ' _ ⟨rfl,rfl⟩
  refine C3 W hW λW hW=>?_
  by_cases c:n=6
  ·subst c
   refine⟨λ_ _=>False,⟨_,rfl,rfl,_,rfl,F5 ⟨_,rfl,p,dx,_,rfl,e1,O7 KK,_,rfl,by show 2<=sizeLine;decide,λq1 hq1=>⟨by show 2<=sizeLine;decide,λq2 hq2=>?_⟩⟩⟩,λ_ _ z=>z.elim⟩
   have s1:=Same.upd (o:=.tup [.int ((j:Nat):Int),.int 0]) hq1
   have s2:=Same.upd (o:=.tup [.int 0,.int 1]) hq2
   have s12:=s1.tr s2
   refine⟨F,p,d,k,_,[O6 (j,0),O6 (0,1)],rfl,(λb' h=>hF b' (s12.early h)),kp0.same s12,.cons (.tup trivial (s2 _ _ B2) (.cons (.int _) (.cons (.int _) .nil))) (.cons (.tup trivial B2 (.cons (.int _) (.cons (.int _) .nil))) .nil),⟨(j,0),(0,1),rfl,⟨hj,(by show (0:Int)<=0;decide),(by show (0:Int)<=1000000000000000000;decide)⟩,⟨by show 0 < k.m;lia,DD,DD⟩,ok⟩,λr v H1 po kp1 tv fr=>?_⟩
   obtain⟨b1,g1',o,hh,hl,rfl⟩:=po
   have e1':=(v8.inj hh).1
   have e2':=(v8.inj (v8.inj hh).2).1
   have q1:b1=(j,0):=(C1w e1').symm
   have q2:g1'=(0,1):=(C1w e2').symm
   subst q1 q2
   refine told _ _ _ [] (.inr (.inr (.inr (.inr (.inr (.inr (.inl ⟨rfl,o,hl,rfl⟩))))))) kp1 (λb hb=>nomatch hb) (C1v kp1) ?_ j8 λb o e n1 n2=>fr _ _ (s12 _ _ e) n1 n2
   cases o with
   | none=>cases tv;exact .non
   | some x=>cases tv;exact .int _
  refine⟨fun σ' H'=>σ'=[some (.ref p),some (.int ((n:Nat):Int)),some (.int ((j:Nat):Int)),some (.ref ab)]/\H=H',⟨_,rfl,rfl,_,rfl,by rw[show decide (V.int ((n:Nat):Int)=V.int 6)=false from no 6 c];exact D0 ⟨rfl,rfl⟩⟩,?_⟩
  rintro σ' _ ⟨rfl,rfl⟩
  subst hW
  have h7:n=7:=by lia
  subst h7
  refine⟨_,rfl,p,dx,_,rfl,e1,O7 KK,F,p,d,k,[],[],rfl,hF,kp0,.nil,rfl,λr v k' H1 po kp1 tv fr ap=>?_⟩
  obtain⟨rfl,rfl⟩:=po
  cases tv
  exact told _ _ _ [] (.inr (.inr (.inr (.inr (.inr (.inr (.inr ⟨rfl,rfl⟩))))))) kp1 (λb hb=>nomatch hb) (C1v kp1) (.int _) j8 fr
theorem C1y {n:Nat} (g:Tb):Dps n (B8 g):=Dps.of λd hd=>by
 unfold B8 at hd
 obtain⟨o,_,rfl⟩:=N0.mp hd
 cases o
 ·exact .non
 ·exact .int
theorem C1z (k:Kst) {dd:L6} (h:p5 k dd) (hm:k.m<=12):Dp 4 (.list dd.args):=by
 have I:∀{n:Nat} (xs:List Int),Dps n (xs.map PyData.int):=λxs=>Dps.of λd hd=>by
  obtain⟨x,_,rfl⟩:=N0.mp hd
  exact .int
 cases dd with
 | lay x w=>exact .lst (by show 4<=900;decide) (I [x,((w.1:Nat):Int),((w.2.1:Nat):Int),w.2.2])
 | lift x=>exact .lst (by show 1<=900;decide) (I [x])
 | turn x c=>exact .lst (by show 2<=900;decide) (I [x,c])
 | refill x=>exact .lst (by show 1<=900;decide) (I [x])
 | aim g=>
  have hg:F7 k.m k.st g:=h
  refine .lst (by show 1<=900;decide) (Dps.of λd hd=>?_)
  rw[Y7.mp (show d∈[PyData.list (B8 g)] from hd)]
  exact .lst (by rw[Y2,hg.len];lia) (C1y g)
theorem A4g {F G:Addr->Prop} {C:Addr} {H:Hp} {p d:Addr} {k:Kst} (h:D1 F C H p d k) (h':D1 G C H p d k):D1 (λb=>F b/\G b) C H p d k:=by
 obtain⟨⟨dx,g,l,ug,ul,e1,g1,e2,t2,g3,e3,t3⟩,kd⟩:=h
 obtain⟨⟨dx',g',l',ug',ul',f1,gg1,f2,tt2,gg3,f3,tt3⟩,_⟩:=h'
 rw[e1] at f1
 unfold kfs at f1
 cases f1
 exact⟨⟨dx,g,l,ug,ul,e1,⟨g1,gg1⟩,e2,t2,⟨g3,gg3⟩,e3,t3⟩,kd⟩
theorem A77 {F G:Addr->Prop} {C:Addr} {H H':Hp} {p d:Addr} {k:Kst} {fp:List Addr} (h:D1 F C H p d k) (f:Frm H H' fp) (hf:∀b∈fp,∃xs,H b=some (.lst xs)) (n:∀b,F b->b∉fp) (hG:∀b,F b->G b):D1 G C H' p d k:=h.mv (λb o e g=>f.1 _ _ e λz=>by
 obtain⟨xs,x⟩:=hf b z
 rw[e] at x
 cases x
 exact n b (g _ rfl) z) hG
theorem C10 {F G:Addr->Prop} {C:Addr} {H H':Hp} {p d:Addr} {k:Kst} {v:V} {x:PyData} {fp:List Addr} (t:FpV F H v x fp) (kp:D1 G C H p d k) (fr:Frp p d H H'):FpV F H' v x fp:=t.mvm λb o g e h=>⟨g,by
 rcases h with h | ⟨xs,rfl⟩
 ·obtain⟨_,xs,y⟩:=t.mem b h
  exact fr _ _ e (F6 kp y).1 (F6 kp y).2
 ·exact fr _ _ e (O1 kp e).1 (O1 kp e).2⟩
theorem C11 {F:Addr->Prop} {H H':Hp} {v:V} {x:PyData} {fp fq:List Addr} (t:FpV F H v x fp) (f:Frm H H' fq) (hd:∀b∈fp,b∉fq) (hq:∀b∈fq,∃xs,H b=some (.lst xs)):FpV F H' v x fp:=t.mvm λb o g e h=>⟨g,f.1 _ _ e λz=>by
 rcases h with h | ⟨xs,rfl⟩
 ·exact hd b h z
 ·obtain⟨ys,y⟩:=hq b z
  rw[e] at y;cases y⟩
theorem D5r {G:Addr->Prop} {C:Addr} {H H':Hp} {p d:Addr} {k:Kst} {v:V} {a b:Tb} (kp:D1 G C H' p d k) (fr:Frp p d H H') (t:ThV (F9 H) H' v (B0o a b)) (ap:Apt C H' p d k v):∃fp,(∀b∈fp,H b=none)/\D1 (λb=>b∉fp) C H' p d k/\FpV TT0 H' v (B0o a b) fp/\fp.Nodup:=by
 obtain⟨r,us,rfl,_,er,tu⟩:=V5 t
 obtain⟨v1,v2,rfl,t1,t2⟩:=Q1 tu
 obtain⟨x,ux,rfl,gx,ex,tx⟩:=K8 t1
 obtain⟨y,uy,rfl,gy,ey,ty⟩:=K8 t2
 have ne:=ap.1 r x y rfl er
 refine⟨[x,y],λb hb=>?_,b3 ap.2 λb xs n _ z=>n (.inr ⟨r,_,rfl,er,?_⟩),.tup trivial er (E7.cons (fp:=[x]) (fps:=[y]) (.lst trivial ex (B0j tx)) (E7.cons (fp:=[y]) (fps:=[]) (.lst trivial ey (B0j ty)) .nil)),by simp [ne]⟩
 ·rcases J1.mp hb with rfl | hb
  ·exact B0s kp fr gx ex
  ·rw[Y7.mp hb];exact B0s kp fr gy ey
 ·rcases J1.mp z with rfl | z
  ·simp
  ·rw[Y7.mp z];simp
def D5s (C:Addr):Sp:=λvs H Q _=>∃(F:Addr->Prop) (p d:Addr) (k:Kst) (vd:V) (dd:L6),vs=[.ref p,vd]/\(∀b,H b=none->F b)/\D1 F C H p d k/\ThV TT0 H vd (A18 dd)/\KOk k.m k.st k.g k.kws/\k.low.length=k.m/\p5 k dd/\
 ∀r v k' H' fp,A17 (J3 k dd) k.low r k'->D1 F C H' p d k'->(∀b∈fp,H b=none)->D1 (λb=>b∉fp) C H' p d k'->FpV TT0 H' v r fp->fp.Nodup->Frp p d H H'->Q v H'
theorem D5t (T:Txt K mg):C0 P w K mg base CX0 13 T.cb.a T.cb.d ["_law_keeper", "_law_deed_here"] (D5s T.ac):=by
 have bm:=@B5h P w K mg base T
 have bn:=T.ah.b
 have bU:=@B5g P w K mg base T
 have bV:=T.aj.b
 have ie:=@C1c P w K mg base T
 have ig:=T.cZ.b
 refine T.cb.F.ok A5y (λvs H Q E h=>?_) (λcdv A outer s H vs Q E hr h=>?_)
 ·obtain⟨F,p,d,k,vd,dd,rfl,_⟩:=h
  rfl
 ·obtain⟨F,p,d,k,vd,dd,rfl,hF,kp,tvd,ok,hll,dok,told⟩:=h
  obtain⟨ad,ud,rfl,_,ed,tud⟩:=V5 tvd
  obtain⟨v1,v2,rfl,t1,t2⟩:=Q1 tud
  have dp:=C1z k dok ok.m2
  refine⟨_,(B5 (T0 (pv 1) (A6u (n:=2) rfl (w6 (P9 (i:=2) A5y.nd rfl (B9 rfl)) (w6 (P9 (i:=3) A5y.nd rfl (B9 rfl)) A6t))))
   (B5 (C2 (i:=3) A5y.nd rfl (B9 rfl) (B3 bm (hr.mono DD) rfl T.ah.m T.ah.F.kp bn .nil A8 (A2 (pv 3) A4 A1)))
   (B5 (C2 (i:=4) A5y.nd rfl (B9 rfl) (B3 bm (hr.mono DD) rfl T.ah.m T.ah.F.kp bn .nil A8 (A2 (pv 3) A4 A1)))
   (B5 (C2 (i:=5) A5y.nd rfl (B9 rfl) (B3 ie (hr.mono DD) rfl T.cZ.m T.cZ.F.kp ig .nil A8 (A2 (pv 0) (A2 (Q0 (A2 (pv 2) (A2 (pv 3) A4 A1) A1)) A4 X8) A1)))
   (B5 (J0 (G4 (J2 (A1m (O0 hr)) (pv 3) (pv 4) (D5 _))
   (C5 (F2 w5))
   G7))
   (B5 (P8 (B3 bU (hr.mono DD) rfl T.aj.m T.aj.F.kp bV .nil A8 (A2 (pv 3) A4 A1)))
   (C5 (F2 (pv 5))))))))),?_⟩
  try dsimp only[N1,Cx.nox]
  refine T7 λW hW=>?_
  refine⟨_,rfl,ad,_,rfl,SqT.of ed,rfl,_,_,rfl,_,_,rfl,rfl,?_⟩
  cases t1
  refine C3 W hW λW hW=>?_
  refine⟨_,rfl,_,_,rfl,t2,dp,λva H1 fa ta nda s1=>?_⟩
  refine C3 W hW λW hW=>?_
  refine⟨_,rfl,_,_,rfl,ta.th.any,dp,λvb H2 fb tb ndb s2=>?_⟩
  refine C3 W hW λW hW=>?_
  refine⟨_,rfl,_,rfl,_,rfl,by show 2<=sizeLine;decide,λt ht=>?_⟩
  have s3:=Same.upd (o:=.tup [.str dd.word,va]) ht
  have s13:=(s1.tr s2).tr s3
  have ta3:FpV (F9 H) (upd H2 t (.tup [.str dd.word,va])) va (.list dd.args) fa:=ta.mvm λb o g e _=>⟨g,(s2.tr s3) _ _ e⟩
  have naf:∀b∈fa,H b=none:=λb hb=>by
   obtain⟨g,xs,e⟩:=ta.mem b hb
   exact A1c s1 g e
  have laf:∀b∈fa,∃xs,upd H2 t (.tup [.str dd.word,va]) b=some (.lst xs):=λb hb=>(ta3.mem b hb).2
  have kp3:D1 (λb=>F b/\b∉fa) T.ac (upd H2 t (.tup [.str dd.word,va])) p d k:=by
   refine b3 (A4g (kp.same s13) (kp.ex.same s13)) λb xs g _=>⟨g.1,λz=>?_⟩
   obtain⟨ys,y⟩:=g.2
   rw[naf b z] at y;cases y
  refine⟨λb=>F b/\b∉fa,p,d,k,_,dd,rfl,(λb' h=>⟨hF b' (s13.early h),λz=>by
   obtain⟨xs,x⟩:=laf b' z
   rw[h] at x;cases x⟩),kp3,.tup trivial B2 (.cons (.str _) (.cons ta3.th.any .nil)),ok,hll,dok,λr v k' H4 mo kp4 tv fr ap=>?_⟩
  have mo':=mo
  obtain⟨bb,_,rfl,_⟩:=mo
  obtain⟨fp,n4,kn4,tf4,nd4⟩:=D5r kp4 fr tv ap
  have ta4:FpV (F9 H) H4 va (.list dd.args) fa:=C10 ta3 kp3 fr
  have tb4:FpV (F9 H1) H4 vb (.list dd.args) fb:=C10 (tb.mvm λb o g e _=>⟨g,s3 _ _ e⟩) kp3 fr
  unfold l6
  dsimp only[R7]
  refine C3 W hW λW hW=>?_
  refine⟨fun σ' H'=>σ'=[some (.ref p),some (.ref ad),some (.str dd.word),some va,some vb,some v]/\H4=H',?_,?_⟩
  ·have LA:=dp.lay
   refine⟨_,rfl,_,rfl,_,_,ThV.dat ta4.th LA.1,ThV.dat tb4.th LA.1,LA.1,LA.1,LA.dep DD _,?_⟩
   rw[LA.same]
   exact⟨_,rfl,D0 ⟨rfl,rfl⟩⟩
  rintro σ' _ ⟨rfl,rfl⟩
  refine C3 W hW λW hW=>?_
  refine⟨_,rfl,_,_,fa,rfl,ta4.mvm λb o g e _=>⟨trivial,e⟩,nda,dp,λH5 f5=>?_⟩
  subst hW
  have l4:∀b∈fa,∃xs,H4 b=some (.lst xs):=λb hb=>(ta4.mem b hb).2
  refine⟨_,rfl,told _ _ _ H5 fp mo' (A77 kp4 f5 l4 (λb g=>g.2) λb g=>g.1) (λb hb=>s13.early (n4 b hb)) (A77 (A4g kp4 kn4) f5 l4 (λb g=>g.1.2) λb g=>g.2) (C11 tf4 f5 (λb hb z=>?_) l4) nd4 λb o e n1 n2=>f5.1 _ _ (fr _ _ (s13 _ _ e) n1 n2) λz=>by rw[naf b z] at e;cases e⟩
  obtain⟨xs,x⟩:=laf b z
  rw[n4 b hb] at x;cases x
theorem X3 (i:Nat) (v:V) (σ:L2.St) (H:Hp) (Q:L2.St->Hp->Prop):l6 i v σ H Q=Q (σ.set i (some v)) H:=rfl
def bsF (m:Nat) (st:Int) (j:Nat):Tb:=(E5 m none).set j (some st)
def A0n (k:Kst) (tr:Bool) (w j:Nat) (r:PyData):Prop:=(w=4/\tr=false/\∃r0,A4d k j r0/\r=.bool (isN r0))\/((w=4->tr=true)/\A4f k w j (bsF k.m k.st j) r)
abbrev KVT:=List (List Key×V)
def kyT (w j:Nat):List Key:=[.inl ((w:Nat):Int),.inl ((j:Nat):Int)]
inductive P7 (H:Hp) (k:Kst) (tr:Bool):KVT->List (Nat×Nat)->Prop
 | nil:P7 H k tr [] []
 | cons {v kvs w j ks r fp}:FpV TT0 H v r fp->A0n k tr w j r->P7 H k tr kvs ks->P7 H k tr ((kyT w j,v)::kvs) ((w,j)::ks)
def S8 (back:Bool):List Nat:=if back=true then (G9 8).reverse else G9 8
def ksF (back:Bool) (m:Nat):List (Nat×Nat):=(S8 back).flatMap λw=>(G9 m).map λj=>(w,j)
def A57 (H:Hp) (e:Addr) (k:Kst) (tr:Bool) (ks:List (Nat×Nat)):Prop:=∃kvs,H e=some (.dT kvs)/\P7 H k tr kvs ks
def C12 (C:Addr):Sp:=λvs H Q _=>∃(F:Addr->Prop) (p d as gl:Addr) (k:Kst) (x:V) (ug:List V) (back tr:Bool),vs=[.ref p,.ref as,.bl back,.bl tr]/\(∀b,H b=none->F b)/\D1 F C H p d k/\k.low.length=k.m/\H as=some (.lst [.int ((k.m:Nat):Int),.int k.st,.ref gl,x])/\H gl=some (.lst ug)/\ug.length=k.m/\KOk k.m k.st k.g k.kws/\
 ∀e H',D1 F C H' p d k->A57 H' e k tr (ksF back k.m)->H e=none->Frp p d H H'->Q (.ref e) H'
theorem C13 {n:Nat} (xs:List Int):Dps n (xs.map PyData.int):=Dps.of λd hd=>by
 obtain⟨x,_,rfl⟩:=N0.mp hd
 exact .int
theorem B5j {n:Nat} (xs:List Nat):Dps n (numL xs):=Dps.of λd hd=>by
 obtain⟨x,_,rfl⟩:=N0.mp hd
 exact .int
theorem B5k {n:Nat} {m:Nat} {t:Tb} (h:t.length=m) (hm:m<=12):Dp (n + 1) (.list (B8 t)):=.lst (by rw[Y2];lia) (C1y t)
theorem D5u {k:Kst} {j:Nat} {r:PyData} (h:A4d k j r):Dp 4 r:=by
 obtain⟨t,trs,ht,htr,_,rfl⟩:=h
 cases e:trs[j]? with
 | none=>exact .non
 | some o=>
  cases o with
  | none=>exact .non
  | some rd=>
   have hm:some rd∈trs:=Q9 e
   have few:=D4q htr hm
   have thin:∀pt∈rd.2,pt.1.length<=12:=by
    cases eg:gt t j with
    | none=>
     have hj:j < trs.length:=(V9.mp e).1
     rw[htr.no j (by rw[<-htr.len];exact hj) eg] at e
     cases e
    | some x=>
     obtain⟨r',h1,h2⟩:=htr.yes j x eg
     rw[h1] at e
     cases e
     exact h2.thin
   refine .tup (by show 2<=900;decide) (.cons .int (.cons (.lst (by rw[C1,C1j];lia) (Dps.of λd hd=>?_)) .nil))
   obtain⟨pt,hp,rfl⟩:=N0.mp hd
   have:=D4l thin pt hp
   exact .tup (by show 2<=900;decide) (.cons (.lst (by rw[n8];lia) (B5j _)) (.cons .int .nil))
theorem B5l {k:Kst} {w j:Nat} {b:Tb} {r:PyData} (ok:KOk k.m k.st k.g k.kws) (hl:k.low.length=k.m) (h:A4f k w j b r):Dp 4 r:=by
 have m2:=ok.m2
 have fk:=ok.few
 rcases h with ⟨_,rfl⟩ | ⟨_,rfl⟩ | ⟨_,rfl⟩ | ⟨_,rfl⟩ | ⟨_,h⟩ | ⟨_,t,ht,rfl⟩ | ⟨_,o,_,rfl⟩ | ⟨_,rfl⟩
 ·refine .lst (by unfold A19;rw[C1,(A0m _).length_eq];unfold E8;rw[C1];lia) (Dps.of λd hd=>?_)
  obtain⟨x,_,rfl⟩:=N0.mp hd
  exact .tup (by show 4<=900;decide) (C13 [_,_,_,_])
 ·exact B5k ok.gt.len m2
 ·have:=ok.land.few
  refine .tup (by show 2<=900;decide) (.cons .int (.cons (.lst (by rw[C1];lia) (Dps.of λd hd=>?_)) .nil))
  obtain⟨w,_,rfl⟩:=N0.mp hd
  exact .tup (by show 3<=900;decide) (C13 [_,_,_])
 ·exact B5k hl m2
 ·exact D5u h
 ·exact B5k ht.tab.len m2
 ·cases o with
  | none=>exact .non
  | some x=>exact .int
 ·exact .int
theorem D5v {m:Nat} {st:Int} {j:Nat} (h0:0<=st):F7 m st (bsF m st j):=by
 refine⟨by unfold bsF;rw[W0,A1g],λp x e=>?_⟩
 unfold bsF gt at e
 rw[A1h] at e
 split at e
 ·split at e
  ·cases e
   exact⟨h0,t8 _⟩
  ·cases e
 ·rw[B5w] at e
  split at e <;> cases e
theorem D5w {F:Addr->Prop} {H:Hp} {m:Nat} {st:Int} {j:Nat}:A9 F H ((E5 m V.non).set j (.int st)) (B8 (bsF m st j)):=by
 unfold bsF B8
 rw[List.map_set,List.map_replicate]
 have r:∀n:Nat,A9 F H (E5 n V.non) (E5 n (oD none)):=λn=>by
  induction n with
  | zero=>exact .nil
  | succ n ih=>exact .cons .non ih
 show A9 F H _ ((E5 m (oD none)).set j (PyData.int st))
 exact A9.set (ThV.int st) j (r m)
theorem C14 {w j w' j':Nat} (h:kyT w j=kyT w' j'):w=w'/\j=j':=by
 have h1:=Sum.inl.inj (v8.inj h).1
 have h2:=Sum.inl.inj (v8.inj (v8.inj h).2).1
 exact⟨OO,OO⟩
section
variable {H H':Hp} {k:Kst} {tr:Bool} {kvs:KVT} {ks:List (Nat×Nat)} {w j:Nat} {v v':V} {r:PyData} {fp:List Addr}
theorem P7.any (h:P7 H k tr kvs ks) (n:(w,j)∉ks):(kvs.any λkv=>decide (kv.1=kyT w j))=false:=by
 induction h with
 | nil=>rfl
 | @cons v kvs w' j' ks r fp _ _ _ ih=>
  rw[A2e,ih λz=>n (C8 _ z),Bool.or_false]
  exact decide_eq_false λz=>n (by obtain⟨rfl,rfl⟩:=C14 z;exact D4)
theorem P7.put (h:P7 H k tr kvs ks) (n:(w,j)∉ks):S1 kvs (kyT w j) v=kvs++[(kyT w j,v)]:=by
 unfold S1
 rw[h.any n]
 rfl
theorem P7.put2 (h:P7 H k tr kvs ks) (n:(w,j)∉ks):S1 (kvs++[(kyT w j,v)]) (kyT w j) v'=kvs++[(kyT w j,v')]:=by
 unfold S1
 rw[List.any_append,h.any n,show ([(kyT w j,v)].any λkv=>decide (kv.1=kyT w j))=true by simp,if_pos (by rfl),P2]
 congr 1
 ·refine (A6m λkv hk=>?_).trans (List.map_id _)
  have:=List.any_eq_false.mp (h.any n) kv hk
  rw[if_neg (by simpa using this)]
  rfl
 ·simp
theorem P7.snoc (h:P7 H k tr kvs ks) (t:FpV TT0 H v r fp) (q:A0n k tr w j r):P7 H k tr (kvs++[(kyT w j,v)]) (ks++[(w,j)]):=by
 induction h with
 | nil=>exact .cons t q .nil
 | cons t' q' _ ih=>exact .cons t' q' ih
theorem P7.mv (h:P7 H k tr kvs ks) (s:∀b o,H b=some o->((∃xs,o=.lst xs)\/∃xs,o=.tup xs)->H' b=some o):P7 H' k tr kvs ks:=by
 induction h with
 | nil=>exact .nil
 | cons t q _ ih=>
  refine .cons (t.mvm λb o g e h=>⟨trivial,s b o e ?_⟩) q ih
  rcases h with h | h
  ·obtain⟨_,xs,x⟩:=t.mem b h
   rw[e] at x
   exact .inl ⟨xs,Option.some.inj x⟩
  ·exact .inr h
theorem P7.len (h:P7 H k tr kvs ks):kvs.length=ks.length:=by
 induction h with
 | nil=>rfl
 | cons _ _ _ ih=>rw[G6,G6,ih]
end
theorem D5x {back:Bool} {i:Nat} {x:V} (h:((S8 back).map λw=>V.int ((w:Nat):Int))[i]?=some x):∃w,(S8 back)[i]?=some w/\x=.int ((w:Nat):Int)/\w < 8/\w∉(S8 back).take i:=by
 rw[L8] at h
 obtain⟨w,hw,rfl⟩:=A0v.mp h
 have nd:(S8 back).Nodup:=by cases back <;> decide
 refine⟨w,hw,rfl,?_,λz=>?_⟩
 ·have:=Q9 hw
  cases back <;> simp [S8] at this <;> lia
 ·rw[<-List.take_append_drop i (S8 back)] at nd
  have hi:=(V9.mp hw).1
  rw[A6h hi,(V9.mp hw).2] at nd
  exact (A6l.mp nd).2.2 w z w D4 rfl
theorem D5y {F:Addr->Prop} {C:Addr} {H H':Hp} {p d e:Addr} {k:Kst} {kvs:KVT} (h:D1 F C H p d k) (ee:H e=some (.dT kvs)) (s:∀b o,H b=some o->b≠e->H' b=some o):D1 F C H' p d k:=by
 obtain⟨⟨dx,g,l,ug,ul,e1,g1,e2,t2,g3,e3,t3⟩,kw,e4,kv⟩:=h
 have n:∀{b:Addr} {o:HO},H b=some o->(∀z,o≠.dT z)->b≠e:=λ{b o} x y z=>by
  rw[z,ee] at x
  cases x
  exact y _ rfl
 exact⟨⟨dx,g,l,ug,ul,s _ _ e1 (n e1 λz y=>by cases y),g1,s _ _ e2 (n e2 λz y=>by cases y),E6 t2,g3,s _ _ e3 (n e3 λz y=>by cases y),E6 t3⟩,kw,s _ _ e4 (n e4 λz y=>by cases y),kv.mv λb xs x=>s _ _ x (n x λz y=>by cases y)⟩
theorem B5m {F:Addr->Prop} {C:Addr} {H:Hp} {p d e:Addr} {k:Kst} {kvs:KVT} (h:D1 F C H p d k) (ee:H e=some (.dT kvs)):e≠p/\e≠d:=by
 obtain⟨⟨dx,g,l,ug,ul,e1,_⟩,kw,e4,kv⟩:=h
 exact⟨(λz=>by rw[z,e1] at ee;cases ee),λz=>by rw[z,e4] at ee;cases ee⟩
structure B5n (F:Addr->Prop) (C:Addr) (H:Hp) (p d e lw:Addr) (k:Kst) (tr back:Bool) (H':Hp) (ks:List (Nat×Nat)):Prop where
 kp:D1 F C H' p d k
 fr:Frp p d H H'
 lw:H' lw=some (.lst ((S8 back).map λw=>V.int ((w:Nat):Int)))
 fd:∃kvs,H' e=some (.dT kvs)/\P7 H' k tr kvs ks
theorem D5z (T:Txt K mg):C0 P w K mg base CX0 13 T.bT.a T.bT.d ["_law_keeper", "_law_state_here", "_law_back", "_law_trips"] (C12 T.ac):=by
 have bm:=@B5h P w K mg base T
 have bn:=T.ah.b
 have bU:=@B5g P w K mg base T
 have bV:=T.aj.b
 have gA:=@C1x P w K mg base T
 have gB:=T.cB.b
 refine T.bT.F.ok A15 (λvs H Q E h=>?_) (λcdv A outer s H vs Q E hr h=>?_)
 ·obtain⟨F,p,d,as,gl,k,x,ug,back,tr,rfl,_⟩:=h
  rfl
 ·obtain⟨F,p,d,as,gl,k,x,ug,back,tr,rfl,hF,kp,hll,ea,eg,lu,ok,told⟩:=h
  refine⟨_,(B5 (C2 (i:=4) A15.nd rfl (B9 rfl) C8k)
   (B5 (C2 (i:=5) A15.nd rfl (B9 rfl) (R8 (C5h rfl) rfl T.au R9 (A2 (R8 C5f rfl T.bp C5b (A2 B1 A4 E4)) A4 D7)))
   (B5 (J0 (G4 (W3 (pv 2))
   (C5 (C2 (i:=5) A15.nd rfl (B9 rfl) (C5k (pv 5) (B1o (B6k B6m B1)))))
   G7))
   (B5 (X5 S9 rfl (Z0 (pv 5)) (P9 (i:=6) A15.nd rfl (B9 rfl))
   (C5 (X5 S9 rfl (y7 rfl T.bp (A2 (C6 D6 (pv 1) B1 (λ_ _=>rfl)) A4 A7)) (P9 (i:=7) A15.nd rfl (B9 rfl))
   (B5 (A2q (i:=8) A15.nd rfl (B9 rfl) (M2.new (N:=["_law_keeper", "_law_state_here", "_law_back", "_law_trips", "_law_found", "_law_ways", "_law_way", "_law_place", "_law_base", "_law_told"]) (osc:=B6 A97) KK) rfl (Z0 (C6 D6 (pv 1) B1 (λ_ _=>rfl))) (λ_=>d8) (λ_=>w5))
   (B5 (T0 (C6 D6 (pv 1) B1 (λ_ _=>rfl)) (W4 (pv 8) (pv 7) U2))
   (B5 (C2 (i:=9) A15.nd rfl (B9 rfl) (B3 gA (hr.mono DD) rfl T.cB.m T.cB.F.kp gB .nil A8 (A2 (pv 0) (A2 (pv 6) (A2 (pv 7) (A2 (pv 8) A4 A1) A1) A1) A1)))
   (B5 (A5t (u1 (O0 hr)) (pv 4) (Q0 (A2 (pv 6) (A2 (pv 7) A4 A1) A1)) (B3 bm (hr.mono DD) rfl T.ah.m T.ah.F.kp bn .nil A8 (A2 (pv 9) A4 A1)) rfl)
   (B5 (J0 (G4 (PW.pt (A6p (J2 Q4 (pv 6) B1 (D5 _)) (A6n (l3 (W3 (pv 3))))))
   (C5 (A5t (u1 (O0 hr)) (pv 4) (Q0 (A2 (pv 6) (A2 (pv 7) A4 A1) A1)) (A8q Z2 (pv 9) w5 (D5 _)) rfl))
   G7))
   (C5 (P8 (B3 bU (hr.mono DD) rfl T.aj.m T.aj.F.kp bV .nil A8 (A2 (pv 9) A4 A1))))))))))))
   (C5 (F2 (pv 4))))))),?_⟩
  try dsimp only[N1,Cx.nox]
  refine T7 λW hW=>?_
  refine λe he=>?_
  subst hW
  try dsimp only
  rw[X3]
  try dsimp only[R7]
  have se:=Same.upd (o:=.dT []) he
  refine⟨8,rfl,λpr hpr=>⟨pr,8,rfl,B2,DD,DD,λl0 hl0=>?_⟩⟩
  have sr:=Same.upd (o:=.rng 0 8) hpr
  have s0:=Same.upd (o:=.lst (m7 (8:Int).toNat)) hl0
  obtain⟨H1,hH1⟩:∃H1,H1=upd (upd (upd H e (.dT [])) pr (.rng 0 8)) l0 (.lst (m7 (8:Int).toNat)):=⟨_,rfl⟩
  have e1:H1 e=some (.dT []):=by rw[hH1];exact s0 _ _ (sr _ _ B2)
  have l1:H1 l0=some (.lst (m7 (8:Int).toNat)):=by rw[hH1];exact B2
  have s01:Same H H1:=by rw[hH1];exact (se.tr sr).tr s0
  rw[<-hH1]
  clear hH1 s0 sr se hl0 hpr
  try dsimp only
  rw[X3]
  try dsimp only[R7]
  refine⟨fun σ' H'=>∃lw,σ'=[some (.ref p),some (.ref as),some (.bl back),some (.bl tr),some (.ref e),some (.ref lw),none,none,none,none]/\Same H H'/\H' e=some (.dT [])/\H' lw=some (.lst ((S8 back).map λw=>V.int ((w:Nat):Int))),?_,?_⟩
  ·have rv:m7 (8:Int).toNat=(G9 8).map λw=>V.int ((w:Nat):Int):=by decide
   refine⟨_,rfl,_,rfl,?_⟩
   cases back with
   | false=>exact D0 ⟨l0,rfl,s01,e1,by rw[l1,rv];rfl⟩
   | true=>
    refine F5 ⟨_,rfl,1,rfl,-1,rfl,rfl,l0,_,rfl,SqL.of l1,λl2 hl2=>?_⟩
    have s2:=Same.upd (o:=.lst (m7 (8:Int).toNat).reverse) hl2
    exact⟨l2,rfl,s01.tr s2,s2 _ _ e1,by rw[B2,rv,<-B06];rfl⟩
  rintro σ' H2 ⟨lw,rfl,s2,e2,l2⟩
  have m1:=ok.m1
  have m2:=ok.m2
  have A0:B5n F T.ac H p d e lw k tr back H2 []:=⟨kp.same s2,λb o x _ _=>s2 _ _ x,l2,[],e2,.nil⟩
  refine⟨_,rfl,lw,rfl,⟨_,SqL.of l2⟩,?_⟩
  refine A8n (xs:=(S8 back).map λw=>V.int ((w:Nat):Int)) (λi σ' H'=>(∃x6 x7 x8 x9,σ'=[some (.ref p),some (.ref as),some (.bl back),some (.bl tr),some (.ref e),some (.ref lw),x6,x7,x8,x9])/\B5n F T.ac H p d e lw k tr back H' (((S8 back).take i).flatMap λw=>(G9 k.m).map λj=>(w,j))) ⟨⟨none,none,none,none,rfl⟩,A0⟩ (λi σ' H' _ h=>SqL.of h.2.lw) (λi x σ' H' hx h=>?_) (fun σ' H' h=>?_)
  ·obtain⟨w,hw,rfl,hw8,hwn⟩:=D5x hx
   obtain⟨⟨x6,x7,x8,x9,rfl⟩,A⟩:=h
   have ea0:=A.fr _ _ ea (F6 kp ea).1 (F6 kp ea).2
   rw[X3]
   try dsimp only[R7]
   refine⟨_,rfl,as,_,_,_,rfl,rfl,SqL.of ea0,rfl,((k.m:Nat):Int),rfl,OO,OO,?_⟩
   refine A8o (n:=((k.m:Nat):Int).toNat) (λj σ' H'=>(∃x7 x8 x9,σ'=[some (.ref p),some (.ref as),some (.bl back),some (.bl tr),some (.ref e),some (.ref lw),some (.int ((w:Nat):Int)),x7,x8,x9])/\B5n F T.ac H p d e lw k tr back H' ((((S8 back).take i).flatMap λw=>(G9 k.m).map λj=>(w,j))++(G9 j).map λj=>(w,j))) ⟨⟨x7,x8,x9,rfl⟩,by rw[List.range_zero,A6d,Y6];exact A⟩ ?_ ?_
   ·clear A ea0 A0 s2 e2 l2 s01 e1 l1
    rintro j σ' H0 hj ⟨⟨x7,x8,x9,rfl⟩,A⟩
    rw[B07]
    have hjm:j < k.m:=by lia
    have nin:(w,j)∉(((S8 back).take i).flatMap λw=>(G9 k.m).map λj=>(w,j))++(G9 j).map λj=>(w,j):=λz=>by
     rcases V8.mp z with z | z
     ·obtain⟨w',h1,h2⟩:=List.mem_flatMap.mp z
      obtain⟨j',_,h3⟩:=N0.mp h2
      cases h3
      exact hwn h1
     ·obtain⟨j',h1,h3⟩:=N0.mp z
      cases h3
      exact absurd (U7.mp h1) (g7 _)
    rw[A8j,P2,<-A6e]
    have hks:((((S8 back).take i).flatMap λw=>(G9 k.m).map λj=>(w,j))++(G9 j).map λj=>(w,j)).length<=1000:=by
     rw[P0,C1,R6,List.length_flatMap]
     have h1:((S8 back).take i).length<=8:=by
      rw[b4]
      have:(S8 back).length=8:=by cases back <;> rfl
      lia
     have h2:∀l:List Nat,(l.map λa=>((G9 k.m).map λj=>(a,j)).length).sum=l.length * k.m:=λl=>by
      induction l with
      | nil=>simp
      | cons a l ih=>rw[O9,B53,ih,C1,R6,G6,Nat.add_mul];lia
     rw[h2]
     have:=Nat.mul_le_mul h1 m2
     lia
    generalize (((S8 back).take i).flatMap λw=>(G9 k.m).map λj=>(w,j))++(G9 j).map (λj=>(w,j))=ks at A nin hks
    obtain⟨kp0,fr0,lw0,kvs,ee0,fd0⟩:=A
    have ea0:=fr0 _ _ ea (F6 kp ea).1 (F6 kp ea).2
    have eg0:=fr0 _ _ eg (F6 kp eg).1 (F6 kp eg).2
    have ed0:=B5m kp0 ee0
    rw[X3]
    try dsimp only[R7]
    refine T7 λW hW=>?_
    refine⟨_,rfl,as,_,_,_,rfl,rfl,SqL.of ea0,rfl,gl,rfl,⟨ug,SqL.of eg0⟩,?_⟩
    refine A0a (xs:=ug) (λi ys Hn=>Hn=H0/\ys=E5 i V.non) (by rw[lu,sizeLine_eq];lia) ⟨rfl,rfl⟩ (λi ys Hn _ h=>⟨by rw[h.2,A1g];exact E1 _,by rw[h.1];exact SqL.of eg0⟩) (λi x ys Hn hx h ca=>?_) ?_
    ·obtain⟨rfl,rfl⟩:=h
     unfold b9
     refine F5 ⟨rfl,?_⟩
     rw[List.replicate_succ']
    rintro ys Hn ⟨rfl,rfl⟩ lb hlb
    rw[lu]
    try dsimp only[R7]
    have nlb:∀{b:Addr} {o:HO},Hn b=some o->b≠lb:=λx=>Q3 x hlb
    have sb:=Same.upd (o:=.lst (E5 k.m V.non)) hlb
    refine C3 W hW λW hW=>?_
    refine⟨_,rfl,as,_,_,_,rfl,rfl,SqL.of (sb _ _ ea0),rfl,_,rfl,_,rfl,lb,_,_,_,rfl,rfl,B2,A36 (by rw[A1g];exact hjm),?_⟩
    have sc:Same Hn (upd (upd Hn lb (.lst (E5 k.m V.non))) lb (.lst ((E5 k.m V.non).set j (.int k.st)))):=λb o x=>by rw[B4 (nlb x),B4 (nlb x)];exact x
    obtain⟨Hc,hHc⟩:∃Hc,Hc=upd (upd Hn lb (.lst (E5 k.m V.non))) lb (.lst ((E5 k.m V.non).set j (.int k.st))):=⟨_,rfl⟩
    have elb:Hc lb=some (.lst ((E5 k.m V.non).set j (.int k.st))):=by rw[hHc];exact B2
    rw[<-hHc] at sc ⊢
    clear hHc sb
    refine C3 W hW λW hW=>?_
    have kpc:=kp0.same sc
    refine⟨_,rfl,_,rfl,_,rfl,_,rfl,F,p,d,k,w,j,_,bsF k.m k.st j,rfl,(λb hb=>hF b (B5f kp0 fr0 (sc.early hb))),kpc,hw8,hjm,.lst trivial elb D5w,D5v ok.s0,ok,λr v Hd fp ar kpd nw kn tv nd fr=>?_⟩
    try dsimp only
    rw[X3]
    try dsimp only[R7]
    have rd:=B5l ok hll ar
    have eed:=fr _ _ (sc _ _ ee0) ed0.1 ed0.2
    have lfp:∀b∈fp,∃xs,Hd b=some (.lst xs):=λb hb=>(tv.mem b hb).2
    refine C3 W hW λW hW=>?_
    refine⟨_,rfl,v,r,rfl,tv.th.any,rd,λv' He fq tq ndq s3=>⟨_,rfl,_,rfl,_,rfl,by show 2<=sizeLine;decide,λt ht=>?_⟩⟩
    have s4:=Same.upd (o:=.tup [.int ((w:Nat):Int),.int ((j:Nat):Int)]) ht
    have s34:=s3.tr s4
    have lk:kvs.length < sizeLine:=by
     rw[fd0.len,sizeLine_eq]
     exact C2h hks (DD)
    refine⟨e,_,rfl,j5.t (k:=kyT w j) (s34 _ _ eed) B2 lk,?_⟩
    rw[fd0.put nin]
    obtain⟨Hf,hHf⟩:∃Hf,Hf=upd He t (.tup [.int ((w:Nat):Int),.int ((j:Nat):Int)]):=⟨_,rfl⟩
    rw[<-hHf] at s34 s4 ⊢
    clear hHf
    have nfq:∀b∈fq,Hd b=none:=λb hb=>by
     obtain⟨g,xs,x⟩:=tq.mem b hb
     exact A1c s3 g x
    have tqf:FpV TT0 Hf v' r fq:=tq.mvm λb o g x _=>⟨trivial,s4 _ _ x⟩
    have ef:∃y,Hf e=some (.dT y):=⟨_,s34 _ _ eed⟩
    have nE:∀{b:Addr} {o:HO},Hf b=some o->((∃xs,o=.lst xs)\/∃xs,o=.tup xs)->b≠e:=λ{b o} x h z=>by
     obtain⟨y,ef⟩:=ef
     rw[z,ef] at x
     cases x
     rcases h with ⟨xs,h⟩ | ⟨xs,h⟩ <;> cases h
    have fpE:∀{v:V} {r:PyData} {f:List Addr} {H5:Hp},FpV TT0 Hf v r f->(∀b o,Hf b=some o->b≠e->H5 b=some o)->FpV TT0 H5 v r f:=λ{v r f H5} t s=>t.mvm λb o g x h=>⟨trivial,s b o x (nE x (by
     rcases h with h | h
     ·obtain⟨_,xs,y⟩:=t.mem b h
      rw[x] at y
      exact .inl ⟨xs,Option.some.inj y⟩
     ·exact .inr h))⟩
    refine C3 W hW λW hW=>?_
    refine⟨fun σ' H5=>σ'=[some (.ref p),some (.ref as),some (.bl back),some (.bl tr),some (.ref e),some (.ref lw),some (.int ((w:Nat):Int)),some (.int ((j:Nat):Int)),some (.ref lb),some v]/\(∀b o,Hf b=some o->b≠e->H5 b=some o)/\(∀b,H5 b=none->Hf b=none)/\∃v2 r2 f2,H5 e=some (.dT (kvs++[(kyT w j,v2)]))/\FpV TT0 H5 v2 r2 f2/\(∀b∈f2,b∉fp)/\A0n k tr w j r2,?_,?_⟩
    ·refine⟨_,rfl,rfl,_,rfl,?_⟩
     have fal:(w=4->tr=true)->(∀b o,Hf b=some o->b≠e->upd Hf e (.dT (kvs++[(kyT w j,v')])) b=some o)/\(∀b,upd Hf e (.dT (kvs++[(kyT w j,v')])) b=none->Hf b=none)/\∃v2 r2 f2,upd Hf e (.dT (kvs++[(kyT w j,v')])) e=some (.dT (kvs++[(kyT w j,v2)]))/\FpV TT0 (upd Hf e (.dT (kvs++[(kyT w j,v')]))) v2 r2 f2/\(∀b∈f2,b∉fp)/\A0n k tr w j r2:=λhr=>by
      have u:∀b o,Hf b=some o->b≠e->upd Hf e (.dT (kvs++[(kyT w j,v')])) b=some o:=λb o x n=>by rw[B4 n];exact x
      refine⟨u,λb hb=>(A1d hb).2,v',r,fq,B2,fpE tqf u,λb hb z=>?_,.inr ⟨hr,ar⟩⟩
      obtain⟨xs,x⟩:=lfp b z
      rw[nfq b hb] at x;cases x
     by_cases c:w=4
     ·rw[show decide (V.int ((w:Nat):Int)=V.int 4)=true from decide_eq_true (by rw[c];rfl)]
      refine F5 ⟨_,rfl,_,rfl,?_⟩
      cases tr with
      | true=>exact D0 ⟨rfl,fal λ_=>rfl⟩
      | false=>
       have he1:upd Hf e (.dT (kvs++[(kyT w j,v')])) e=some (.dT (kvs++[(kyT w j,v')])):=B2
       refine F5 ⟨_,rfl,rfl,_,rfl,_,rfl,_,rfl,by show 2<=sizeLine;decide,λt2 ht2=>?_⟩
       have s5:=Same.upd (o:=.tup [.int ((w:Nat):Int),.int ((j:Nat):Int)]) ht2
       refine⟨e,_,rfl,j5.t (k:=kyT w j) (s5 _ _ he1) B2 (by rw[P0,fd0.len,sizeLine_eq];exact C2h (Nat.add_le_add_right hks 1) DD),rfl,?_⟩
       rw[fd0.put2 nin,A64 tv.th]
       rcases ar with ⟨h,_⟩ | ⟨h,_⟩ | ⟨h,_⟩ | ⟨h,_⟩ | ⟨_,h⟩ | ⟨h,_⟩ | ⟨h,_⟩ | ⟨h,_⟩
       ·lia
       ·lia
       ·lia
       ·lia
       ·refine⟨λb o x n=>?_,λb hb=>(A1d (A1d (A1d hb).2).2).2,_,_,[],B2,.bl _,λb hb=>(nomatch hb),.inl ⟨c,rfl,r,h,rfl⟩⟩
        rw[B4 n]
        refine s5 _ _ ?_
        rw[B4 n];exact x
       ·lia
       ·lia
       ·lia
     ·rw[show decide (V.int ((w:Nat):Int)=V.int 4)=false from decide_eq_false λz=>c (by have:=V.int.inj z;lia)]
      exact D0 (D0 ⟨rfl,fal λz=>absurd z c⟩)
    rintro σ' H5 ⟨rfl,f5,n5,v2,r2,f2,e5,t2,d2,q2⟩
    subst hW
    have tv5:FpV TT0 H5 v r fp:=fpE (tv.mvm λb o g x _=>⟨trivial,s34 _ _ x⟩) f5
    have l5:∀b∈fp,∃xs,H5 b=some (.lst xs):=λb hb=>(tv5.mem b hb).2
    refine⟨_,rfl,v,r,fp,rfl,tv5,nd,rd,λH6 f6=>?_⟩
    have cl:∀b o,Hn b=some o->b≠p->b≠d->b≠e->H6 b=some o:=λb o x n1 n2 n3=>f6.1 _ _ (f5 _ _ (s34 _ _ (fr _ _ (sc _ _ x) n1 n2)) n3) λz=>by
     have:=nw b z
     rw[sc _ _ x] at this;cases this
    have ef':Hf e=some (.dT kvs):=s34 _ _ eed
    refine⟨⟨_,_,_,rfl⟩,A77 (D5y ((A4g kpd kn).same s34) ef' f5) f6 l5 (λb g=>g.2) (λb g=>g.1),λb o x n1 n2=>cl _ _ (fr0 _ _ x n1 n2) n1 n2 (λz=>by rw[z,he] at x;cases x),cl _ _ lw0 (F6 kp0 lw0).1 (F6 kp0 lw0).2 (λz=>by rw[z,ee0] at lw0;cases lw0),kvs++[(kyT w j,v2)],f6.1 _ _ e5 λz=>?_,P7.snoc (fp:=f2) (fd0.mv λb o x h=>?_) (C11 t2 f6 d2 l5) q2⟩
    ·obtain⟨xs,x⟩:=l5 e z
     rw[e5] at x;cases x
    ·rcases h with ⟨xs,rfl⟩ | ⟨xs,rfl⟩
     ·exact cl _ _ x (F6 kp0 x).1 (F6 kp0 x).2 λz=>by rw[z,ee0] at x;cases x
     ·exact cl _ _ x (O1 kp0 x).1 (O1 kp0 x).2 λz=>by rw[z,ee0] at x;cases x
   ·rintro σ' H' ⟨⟨x7,x8,x9,rfl⟩,A⟩
    refine⟨⟨_,_,_,_,rfl⟩,?_⟩
    rw[A2g,hw,List.flatMap_append]
    rw[show ((k.m:Nat):Int).toNat=k.m by simp] at A
    simpa using A
  ·obtain⟨⟨x6,x7,x8,x9,rfl⟩,A⟩:=h
   rw[C1,A2j] at A
   exact⟨_,rfl,told e H' A.kp A.fd he A.fr⟩
def D50 (C:Addr):Sp:=λvs H Q _=>∃(F:Addr->Prop) (p d ls lgs as0 as1 gl0 gl1 lg0 lg1:Addr) (k:Kst) (g0:Tb) (x0 y0 z0 x1 y1 z1:V) (ug0 ug1 u0 u1:List V),vs=[.ref p,.ref ls,.ref lgs]/\(∀b,H b=none->F b)/\(∀b,F b->b≠lg0/\b≠lg1)/\D1 F C H p d k/\KOk k.m k.st k.g k.kws/\g0.length<=12/\
 H ls=some (.lst [.ref as0,.ref as1])/\H as0=some (.lst [x0,y0,.ref gl0,z0])/\H as1=some (.lst [x1,y1,.ref gl1,z1])/\H gl0=some (.lst ug0)/\H gl1=some (.lst ug1)/\H lgs=some (.lst [.ref lg0,.ref lg1])/\H lg0=some (.lst u0)/\H lg1=some (.lst u1)/\lgs≠lg0/\lgs≠lg1/\A9 TT0 H ug0 (B8 g0)/\A9 TT0 H u0 (B8 g0)/\A9 TT0 H ug1 (B8 k.g)/\A9 TT0 H u1 (B8 k.g)/\
 ∀H',D1 F C H' p d k->(∀b o,H b=some o->b≠p->b≠d->b≠lg0->b≠lg1->H' b=some o)->Q (.bl true) H'
theorem D51 (T:Txt K mg):C0 P w K mg base CX0 10 T.cz.a T.cz.d ["_law_keeper", "_law_states", "_law_goals"] (D50 T.ac):=by
 have dg:=@C1p P w K mg base T
 have dh:=T.aZ.b
 refine T.cz.F.ok B4x (λvs H Q E h=>?_) (λcdv A outer s H vs Q E hr h=>?_)
 ·obtain⟨F,p,d,ls,lgs,as0,as1,gl0,gl1,lg0,lg1,k,g0,x0,y0,z0,x1,y1,z1,ug0,ug1,u0,u1,rfl,_⟩:=h
  rfl
 ·obtain⟨F,p,d,ls,lgs,as0,as1,gl0,gl1,lg0,lg1,k,g0,x0,y0,z0,x1,y1,z1,ug0,ug1,u0,u1,rfl,hF,hFn,kp,ok,hg0,els,ea0,ea1,eg0,eg1,elg,el0,el1,nl0,nl1,tg0,tu0,tg1,tu1,told⟩:=h
  refine⟨_,(B5 (C2 (i:=3) B4x.nd rfl (B9 rfl) (R8 W7 rfl T.au R9 (A2 (C6 D6 (pv 2) B1 (λ_ _=>rfl)) A4 A7)))
   (B5 (P8 (m5 (pv 0) T.ae T.aZ.m dg (hr.mono DD) dh .nil A8 (A2 (pv 3) A4 A1) (hst:=A1)))
   (B5 (J0 (G4 (PW.pt (A6q (J2 (A1m (O0 hr)) (pv 3) (C6 D6 (C6 D6 (pv 1) B1 (λ_ _=>rfl)) B1 (λ_ _=>rfl)) (D5 _)) (A6o (J2 (A1m (O0 hr)) (pv 2) (V4 (M2.new (N:=["_law_keeper", "_law_states", "_law_goals", "_law_handed_here", "_law_goal"]) (osc:=B6 A98) KK) rfl (Z0 (pv 1)) (λ_=>d8) (λ_=>(C6 D6 (pv 5) B1 (λ_ _=>rfl)))) (D5 _)))))
   (C5 (F2 j9))
   G7))
   (B5 (X5 S9 rfl (Z0 (pv 2)) (P9 (i:=4) B4x.nd rfl (B9 rfl))
   (C5 (P8 (B7a t9 PySem.F.slot_list_clear PySem.F.type_list_clear C4v (pv 4)))))
   (C5 (F2 j9)))))),?_⟩
  try dsimp only[N1,Cx.nox]
  refine T7 λW hW=>?_
  refine⟨_,rfl,lgs,_,_,_,rfl,rfl,SqL.of elg,rfl,lg1,u1,rfl,.inl (SqL.of el1),λlh hlh=>?_⟩
  have s1:=Same.upd (o:=.lst u1) hlh
  obtain⟨H1,hH1⟩:∃H1,H1=upd H lh (.lst u1):=⟨_,rfl⟩
  have elh:H1 lh=some (.lst u1):=by rw[hH1];exact B2
  rw[<-hH1] at s1 ⊢
  clear hH1
  refine C3 W hW λW hW=>?_
  have kp1:=kp.same s1
  obtain⟨⟨dx,g,l,ug,ul,e1,_⟩,_⟩:=kp1
  have kp1:=kp.same s1
  refine⟨_,rfl,p,dx,_,rfl,e1,O7 KK,_,rfl,F,p,d,k,[.ref lh],[.list (B8 k.g)],rfl,(λb hb=>hF b (s1.early hb)),kp1,.cons (.lst trivial elh (E6 tu1)) .nil,⟨k.g,rfl,ok.gt,ok⟩,λr v k' H2 po kp2 tv fr ap=>?_⟩
  obtain⟨rfl,_⟩:=po
  have kl:∀{b:Addr} {xs:List V},H b=some (.lst xs)->H2 b=some (.lst xs):=λ{b xs} e=>fr _ _ (s1 _ _ e) (F6 kp1 (s1 _ _ e)).1 (F6 kp1 (s1 _ _ e)).2
  have elh2:=fr _ _ elh (F6 kp1 elh).1 (F6 kp1 elh).2
  refine C3 W hW λW hW=>?_
  refine⟨fun σ' H'=>σ'=[some (.ref p),some (.ref ls),some (.ref lgs),some (.ref lh),none]/\Same H2 H',?_,?_⟩
  ·have L1:=F4.tab k'.g
   have L2:F4 2 (.list [.list (B8 g0),.list (B8 k'.g)]):=F4.lst (F4.two (F4.tab g0) (F4.tab _))
   refine⟨_,rfl,_,rfl,ls,_,_,_,rfl,rfl,SqL.of (kl els),rfl,as1,_,_,_,rfl,rfl,SqL.of (kl ea1),rfl,_,_,ThV.dat (.lst trivial elh2 (E6 (F:=TT0) (G:=TT0) tu1)) L1.1,ThV.dat (.lst trivial (kl eg1) (E6 (F:=TT0) (G:=TT0) tg1)) L1.1,L1.1,L1.1,L1.dep DD _,?_⟩
   rw[L1.same]
   refine⟨_,rfl,D0 ?_⟩
   refine⟨_,rfl,_,rfl,ls,rfl,⟨_,SqL.of (kl els)⟩,?_⟩
   refine A0a (xs:=[.ref as0,.ref as1]) (λi ys Hn=>Hn=H2/\ys=[V.ref gl0,V.ref gl1].take i) (by rw[sizeLine_eq];show 2 < 16777216;decide) ⟨rfl,rfl⟩ (λi ys Hn hi h=>⟨by rw[h.2,b4];lia,by rw[h.1];exact SqL.of (kl els)⟩) (λi x ys Hn hx h ca=>?_) ?_
   ·obtain⟨rfl,rfl⟩:=h
    unfold b9
    match i,hx with
    | 0,hx=>
     cases hx
     exact F5 ⟨_,rfl,as0,_,_,_,rfl,rfl,SqL.of (kl ea0),rfl,rfl,rfl⟩
    | 1,hx=>
     cases hx
     exact F5 ⟨_,rfl,as1,_,_,_,rfl,rfl,SqL.of (kl ea1),rfl,rfl,rfl⟩
    | i + 2,hx=>cases hx
   rintro ys Hn ⟨rfl,rfl⟩ pc hpc
   have s4:=Same.upd (o:=.lst [V.ref gl0,V.ref gl1]) hpc
   refine⟨_,_,ThV.dat (F:=TT0) (.lst trivial (s4 _ _ (kl elg)) (.cons (.lst trivial (s4 _ _ (kl el0)) (E6 tu0)) (.cons (.lst trivial (s4 _ _ (kl el1)) (E6 tu1)) .nil))) L2.1,ThV.dat (F:=TT0) (.lst trivial B2 (.cons (.lst trivial (s4 _ _ (kl eg0)) (E6 tg0)) (.cons (.lst trivial (s4 _ _ (kl eg1)) (E6 tg1)) .nil))) L2.1,L2.1,L2.1,L2.dep DD _,?_⟩
   rw[L2.same]
   exact⟨_,rfl,D0 ⟨rfl,s4⟩⟩
  rintro σ' H3 ⟨rfl,s3⟩
  refine C3 W hW λW hW=>?_
  refine⟨_,rfl,lgs,rfl,⟨_,SqL.of (s3 _ _ (kl elg))⟩,?_⟩
  subst hW
  refine A8n (xs:=[.ref lg0,.ref lg1]) (λi σ' H'=>(∃x,σ'=[some (.ref p),some (.ref ls),some (.ref lgs),some (.ref lh),x])/\(∀b o,H3 b=some o->b≠lg0->b≠lg1->H' b=some o)/\(∀b,b=lg0\/b=lg1->∃xs,H' b=some (.lst xs))) ⟨⟨none,rfl⟩,λb o x _ _=>x,λb hb=>by
   rcases hb with rfl | rfl
   ·exact⟨_,s3 _ _ (kl el0)⟩
   ·exact⟨_,s3 _ _ (kl el1)⟩⟩ (λi σ' H' _ h=>SqL.of (h.2.1 _ _ (s3 _ _ (kl elg)) nl0 nl1)) (λi x σ' H' hx h=>?_) (fun σ' H' h=>?_)
  ·obtain⟨⟨z,rfl⟩,f,g⟩:=h
   rw[X3]
   try dsimp only[R7]
   obtain⟨q,hq,hx2⟩:∃q,x=.ref q/\(q=lg0\/q=lg1):=by
    match i,hx with
    | 0,hx=>cases hx;exact⟨lg0,rfl,.inl rfl⟩
    | 1,hx=>cases hx;exact⟨lg1,rfl,.inr rfl⟩
    | i + 2,hx=>cases hx
   subst hq
   obtain⟨xs,eq⟩:=g q hx2
   refine⟨_,rfl,.inl ⟨rfl,xs,SqL.of eq⟩,q,xs,rfl,rfl,eq,⟨_,rfl⟩,λb o x n0 n1=>?_,λb hb=>?_⟩
   ·rw[B4 λz=>by rcases hx2 with h | h <;> rw[h] at z;exact n0 z;exact n1 z]
    exact f _ _ x n0 n1
   ·by_cases c:b=q
    ·exact⟨_,by rw[c];exact B2⟩
    ·rw[B4 c];exact g b hb
  ·obtain⟨⟨z,rfl⟩,f,_⟩:=h
   refine told H' ((kp2.same s3).mv (λb o e n=>f b o e (λz=>?_) λz=>?_) λ_ h=>h) λb o e n1 n2 n3 n4=>f _ _ (s3 _ _ (fr _ _ (s1 _ _ e) n1 n2)) n3 n4
   ·have y:=s3 _ _ (kl el0)
    rw[<-z,e] at y
    exact (hFn b (n _ (Option.some.inj y))).1 z
   ·have y:=s3 _ _ (kl el1)
    rw[<-z,e] at y
    exact (hFn b (n _ (Option.some.inj y))).2 z
theorem D52 {t t':Tb} {g:Sp2} (h:leT t t') (e:enF t g=true):enF t' g=true:=by
 unfold enF at e ⊢
 cases z:gt t g.1 with
 | none=>rw[z] at e;cases e
 | some l=>
  rw[z] at e
  have hl:g.2<=l:=of_decide_eq_true e
  have:=h g.1
  rw[z] at this
  cases z':gt t' g.1 with
  | none=>rw[z'] at this;exact absurd this j1
  | some l'=>
   rw[z'] at this
   have:=S0.mp this
   exact decide_eq_true (OO)
theorem B5o {m:Nat} {ws:List Wy} {S S':Int} {b g:Sp2} (hb:b.1 < m) (b0:0<=b.2) (b1:b.2<=S) (hs:S<=S') (h:A56 m ws S b g) (h':A2b m ws S' b g):False:=by
 obtain⟨t,h1,_,h2⟩:=h
 obtain⟨t',k1,_,k2⟩:=h'
 rw[D52 (C70 OO hs (C1m hb b0 b1) (C7y _) (B2s _) h1 k1) h2] at k2
 cases k2
theorem A4e.uniq {m:Nat} {ws:List Wy} {b g:Sp2} {o o':Option Int} (hb:B0r m b) (h:A4e m ws b g o) (k:A4e m ws b g o'):o=o':=by
 obtain⟨M,hM,h⟩:=h
 obtain⟨N,hN,k⟩:=k
 cases hM.uniq hN
 have hlo:b.2<=mxI b.2 g.2:=by unfold mxI;split <;> lia
 have key:∀S S',mxI b.2 g.2<=S->A56 m ws S b g->(S'=mxI b.2 g.2\/A2b m ws (S' - 1) b g)->S'<=S:=λS S' h1 h2 h3=>by
  rcases h3 with h3 | h3
  ·lia
  ·rcases Int.lt_or_le S S' with c | c
   ·exact (B5o hb.1 hb.2.1 OO OO h2 h3).elim
   ·exact c
 rcases h with ⟨rfl,h1⟩ | ⟨S,rfl,h1,h2,h3,h4⟩
 ·rcases k with ⟨rfl,k1⟩ | ⟨S',rfl,k1,k2,k3,k4⟩
  ·rfl
  ·exact (B5o hb.1 hb.2.1 OO k2 k3 h1).elim
 ·rcases k with ⟨rfl,k1⟩ | ⟨S',rfl,k1,k2,k3,k4⟩
  ·exact (B5o hb.1 hb.2.1 OO h2 h3 k1).elim
  ·have a1:=key S S' h1 h3 k4
   have a2:=key S' S k1 k3 h4
   congr 1;lia
theorem A4d.uniq {k:Kst} {j:Nat} {r r':PyData} (h:A4d k j r) (h':A4d k j r'):r=r':=by
 obtain⟨t,trs,_,_,hs,rfl⟩:=h
 obtain⟨t',trs',_,_,hs',rfl⟩:=h'
 rw[hs.uniq hs']
theorem A4f.uniq {k:Kst} {w j:Nat} {b:Tb} {r r':PyData} (ok:KOk k.m k.st k.g k.kws) (hj:j < k.m) (h:A4f k w j b r) (h':A4f k w j b r'):r=r':=by
 have sp:B0r k.m (j,0):=⟨hj,(by show (0:Int)<=0;decide),(by show (0:Int)<=1000000000000000000;decide)⟩
 rcases h with ⟨rfl,rfl⟩ | ⟨rfl,rfl⟩ | ⟨rfl,rfl⟩ | ⟨rfl,rfl⟩ | ⟨rfl,h⟩ | ⟨rfl,t,ht,rfl⟩ | ⟨rfl,o,ho,rfl⟩ | ⟨rfl,rfl⟩ <;>
  rcases h' with ⟨e,h'⟩ | ⟨e,h'⟩ | ⟨e,h'⟩ | ⟨e,h'⟩ | ⟨e,h'⟩ | ⟨e,t',ht',h'⟩ | ⟨e,o',ho',h'⟩ | ⟨e,h'⟩ <;>
  first
   | (exfalso;lia)
   | exact h'.symm
   | exact h.uniq h'
   | (rw[h',ht.uniq ht'])
   | (rw[h',A4e.uniq sp ho ho'])
theorem A0n.uniq {k:Kst} {tr:Bool} {w j:Nat} {r r':PyData} (ok:KOk k.m k.st k.g k.kws) (hj:j < k.m) (h:A0n k tr w j r) (h':A0n k tr w j r'):r=r':=by
 rcases h with ⟨a,b,r0,h,rfl⟩ | ⟨a,h⟩
 ·rcases h' with ⟨a',b',r1,h',rfl⟩ | ⟨a',h'⟩
  ·rw[h.uniq h']
  ·rw[a' a] at b;cases b
 ·rcases h' with ⟨a',b',r1,h',rfl⟩ | ⟨a',h'⟩
  ·rw[a a'] at b';cases b'
  ·exact A4f.uniq ok hj h h'
theorem D53 {k:Kst} {tr:Bool} {w j:Nat} {r:PyData} (ok:KOk k.m k.st k.g k.kws) (hl:k.low.length=k.m) (h:A0n k tr w j r):Dp 4 r:=by
 rcases h with ⟨_,_,_,_,rfl⟩ | ⟨_,h⟩
 ·exact .bl
 ·exact B5l ok hl h
theorem P7.mem {H:Hp} {k:Kst} {tr:Bool} {kvs:KVT} {ks:List (Nat×Nat)} (h:P7 H k tr kvs ks) {q:List Key} {v:V} (hm:(q,v)∈kvs):∃w j r fp,q=kyT w j/\(w,j)∈ks/\FpV TT0 H v r fp/\A0n k tr w j r:=by
 induction h with
 | nil=>cases hm
 | cons t q _ ih=>
  rcases J1.mp hm with z | z
  ·cases z
   exact⟨_,_,_,_,rfl,D4,t,q⟩
  ·obtain⟨w,j,r,fp,h1,h2,h3,h4⟩:=ih z
   exact⟨w,j,r,fp,h1,C8 _ h2,h3,h4⟩
theorem P7.val {H:Hp} {k:Kst} {tr:Bool} {kvs:KVT} {ks:List (Nat×Nat)} (h:P7 H k tr kvs ks) {w j:Nat} (hm:(w,j)∈ks):∃v r fp,T3 kvs (kyT w j)=some v/\FpV TT0 H v r fp/\A0n k tr w j r:=by
 induction h with
 | nil=>cases hm
 | @cons v kvs w' j' ks r fp t q _ ih=>
  by_cases c:kyT w' j'=kyT w j
  ·obtain⟨rfl,rfl⟩:=C14 c
   exact⟨v,r,fp,A7j (p:=(kyT w' j',v)) rfl,t,q⟩
  ·rcases J1.mp hm with z | z
   ·cases z
    exact absurd rfl c
   ·rw[A7k (p:=(kyT w' j',v)) c]
    exact ih z
theorem C15 {back:Bool} {m w j:Nat}:(w,j)∈ksF back m↔w < 8/\j < m:=by
 unfold ksF
 rw[List.mem_flatMap]
 constructor
 ·rintro ⟨w',h1,h2⟩
  obtain⟨j',h3,h4⟩:=N0.mp h2
  cases h4
  refine⟨?_,U7.mp h3⟩
  cases back <;> simp [S8] at h1 <;> lia
 ·rintro ⟨h1,h2⟩
  refine⟨w,?_,N0.mpr ⟨j,U7.mpr h2,rfl⟩⟩
  cases back <;> simp [S8] <;> lia
theorem C16 {back:Bool} {m:Nat}:(ksF back m).length=8 * m:=by
 unfold ksF
 have h2:∀l:List Nat,(l.flatMap λw=>(G9 m).map λj=>(w,j)).length=l.length * m:=λl=>by
  induction l with
  | nil=>simp
  | cons a l ih=>rw[List.flatMap_cons,P0,ih,C1,R6,G6,Nat.add_mul];lia
 rw[h2,show (S8 back).length=8 by cases back <;> rfl]
theorem C17 {K:B0} {H:Hp} {e e':Addr} {k:Kst} {tr b b':Bool} (ok:KOk k.m k.st k.g k.kws) (hl:k.low.length=k.m) (h:A57 H e k tr (ksF b k.m)) (h':A57 H e' k tr (ksF b' k.m)) {t:Bool} {Q:VK} (q:Q (.bl t) H):B9d K t (.ref e) (.ref e') H Q:=by
 obtain⟨kvs,e1,f1⟩:=h
 obtain⟨kvs',e2,f2⟩:=h'
 refine⟨e,e',kvs,kvs',rfl,rfl,e1,e2,by rw[f1.len,f2.len,C16,C16],λy v hm=>?_,q⟩
 obtain⟨w,j,r,fp,rfl,hk,t1,q1⟩:=f1.mem hm
 obtain⟨hw,hj⟩:=C15.mp hk
 obtain⟨v',r',fp',hv,t2,q2⟩:=f2.val (C15.mpr ⟨hw,hj⟩)
 cases q1.uniq ok hj q2
 have L:=(D53 ok hl q1).lay
 have sh:SeqAt.shaped r=true:=by
  unfold SeqAt.shaped
  rw[L.1,Bool.true_and]
  exact decide_eq_true (T8 L.2 DD)
 exact⟨v',r,r,hv,t1.th.dat L.1,t2.th.dat L.1,sh,sh,L.same⟩
inductive Run:Kst->List L6->List PyData->Kst->Prop
 | nil {k}:Run k [] [] k
 | cons {k dd r k1 dds rs k2}:p5 k dd->A17 (J3 k dd) k.low r k1->Run k1 dds rs k2->Run k (dd::dds) (r::rs) k2
theorem Run.snoc {k k1 k2:Kst} {dds:List L6} {rs:List PyData} {dd:L6} {r:PyData} (h:Run k dds rs k1) (o:p5 k1 dd) (m:A17 (J3 k1 dd) k1.low r k2):Run k (dds++[dd]) (rs++[r]) k2:=by
 induction h with
 | nil=>exact .cons o m .nil
 | cons o' m' _ ih=>exact .cons o' m' (ih o m)
theorem Run.len {k k1:Kst} {dds:List L6} {rs:List PyData} (h:Run k dds rs k1):dds.length=rs.length:=by
 induction h with
 | nil=>rfl
 | cons _ _ _ ih=>rw[G6,G6,ih]
theorem D54 {k k1 k2:Kst} {low:Tb} {r r':PyData} (h:A17 k low r k1) (h':A17 k low r' k2):r=r'/\k1=k2:=by
 obtain⟨b,l,rfl,rfl⟩:=h
 obtain⟨b',l',rfl,rfl⟩:=h'
 cases l.uniq l'
 exact⟨rfl,rfl⟩
theorem C18 {k:Nat} {A:Around} (hr:N9 k A):A.units + 100 < cLine:=by have:=hr.un;lia
def upF {α:Type} (f:Nat->α) (i:Nat) (x:α):Nat->α:=λj=>if j=i then x else f j
theorem M8 {α:Type} {f:Nat->α} {i:Nat} {x:α}:upF f i x i=x:=if_pos rfl
theorem L7 {α:Type} {f:Nat->α} {i j:Nat} {x:α} (h:j≠i):upF f i x j=f j:=if_neg h
structure L95 (C hd hl:Addr) (N:List Addr) (as dc p d:Nat->Addr) (sk k:Nat->Kst) (H:Hp):Prop where
 hnd:Hd H hd hl
 nN:∀b∈N,∃xs,H b=some (.lst xs)
 hN:hd∈N
 sta:∀i,i < 2->O8 (λb=>b∉N) H (as i) (dc i) (sk i).m (sk i).st (sk i).g (sk i).kws
 kp:∀i,i < 3->D1 (λb=>b∉N) C H (p i) (d i) (k i)
 np:∀i j,i < 3->j < 3->p i=p j->i=j
 nd:∀i j,i < 3->j < 3->d i=d j->i=j
 ne:∀i j,i < 2->j < 3->dc i≠d j
 ok:∀i,i < 3->KOk (k i).m (k i).st (k i).g (k i).kws
 low:∀i,i < 3->Y4 (k i).m (k i).st (k i).g (k i).kws (k i).low
 few:∀i,i < 2->(k i).kws.length<=8
theorem D55 {F G:Addr->Prop} {C:Addr} {H H':Hp} {p d p' d':Addr} {k k':Kst} (h:D1 F C H p d k) (h':D1 G C H p' d' k') (np:p≠p') (nd:d≠d') (fr:Frp p' d' H H'):D1 F C H' p d k:=by
 have h'':=h'
 obtain⟨⟨dx,g,l,ug,ul,e1,g1,e2,t2,g3,e3,t3⟩,kw,e4,kv⟩:=h
 obtain⟨⟨dx',g',l',ug',ul',f1,_⟩,kw',f4,_⟩:=h'
 have nl:∀{b:Addr} {xs:List V},H b=some (.lst xs)->H' b=some (.lst xs):=λe=>fr _ _ e (F6 h'' e).1 (F6 h'' e).2
 exact⟨⟨dx,g,l,ug,ul,fr _ _ e1 np (λz=>by rw[z,f4] at e1;cases e1),g1,nl e2,E6 t2,g3,nl e3,E6 t3⟩,kw,fr _ _ e4 (λz=>by rw[z,f1] at e4;cases e4) nd,kv.mv λb xs x=>fr _ _ x (O1 h'' x).1 (O1 h'' x).2⟩
theorem B5p {F G:Addr->Prop} {C:Addr} {H H':Hp} {p d p' d':Addr} {k k':Kst} (h:D1 F C H p d k) (h':D1 G C H p' d' k') (np:p≠p') (nd:d≠d') (fr:∀b o,H b=some o->b≠p'->b≠d'->(∀xs,o=.lst xs->F b)->H' b=some o):D1 F C H' p d k:=by
 have h'':=h'
 obtain⟨⟨dx,g,l,ug,ul,e1,g1,e2,t2,g3,e3,t3⟩,kw,e4,kv⟩:=h
 obtain⟨⟨dx',g',l',ug',ul',f1,_⟩,kw',f4,_⟩:=h'
 have nl:∀{b:Addr} {xs:List V},F b->H b=some (.lst xs)->H' b=some (.lst xs):=λf e=>fr _ _ e (F6 h'' e).1 (F6 h'' e).2 λ_ _=>f
 exact⟨⟨dx,g,l,ug,ul,fr _ _ e1 np (λz=>by rw[z,f4] at e1;cases e1) (λ_ z=>by cases z),g1,nl g1 e2,E6 t2,g3,nl g3 e3,E6 t3⟩,kw,fr _ _ e4 (λz=>by rw[z,f1] at e4;cases e4) nd (λ_ z=>by cases z),kv.mv λb xs x=>fr _ _ x (O1 h'' x).1 (O1 h'' x).2 λ_ z=>by cases z⟩
theorem C19 {F G:Addr->Prop} {C:Addr} {H H':Hp} {a dc p d:Addr} {m:Nat} {st:Int} {g:Tb} {kws:Kw} {k:Kst} (s:O8 F H a dc m st g kws) (kp:D1 G C H p d k) (ne:dc≠d) (fr:∀b o,H b=some o->b≠p->b≠d->(∀xs,o=.lst xs->F b)->H' b=some o):O8 F H' a dc m st g kws:=by
 have kp':=kp
 obtain⟨⟨dx',g',l',ug',ul',q1,_⟩,kw',q4,_⟩:=kp'
 obtain⟨⟨gl,ug,e1,f1,f2,e2,t2⟩,kvs,e3,kv⟩:=s
 exact⟨⟨gl,ug,fr _ _ e1 (F6 kp e1).1 (F6 kp e1).2 (λ_ _=>f1),f1,f2,fr _ _ e2 (F6 kp e2).1 (F6 kp e2).2 (λ_ _=>f2),E6 t2⟩,kvs,fr _ _ e3 (λz=>by rw[z,q1] at e3;cases e3) ne (λ_ z=>by cases z),kv.mv λb xs x=>fr _ _ x (O1 kp x).1 (O1 kp x).2 λ_ z=>by cases z⟩
def FD (p d:Nat->Addr) (N:List Addr) (b:Addr):Prop:=b∉N/\∀i,i < 3->b≠p i/\b≠d i
section
variable {C hd hl:Addr} {N:List Addr} {as dc p d:Nat->Addr} {sk k:Nat->Kst} {H H':Hp} {i:Nat}
theorem L95.mvN (L:L95 C hd hl N as dc p d sk k H) (f:∀b o,H b=some o->b∉N->H' b=some o) (hn:Hd H' hd hl) (nn:∀b∈N,∃xs,H' b=some (.lst xs)):L95 C hd hl N as dc p d sk k H':=
 { L with
  hnd:=hn
  nN:=nn
  sta:=λi hi=>(L.sta i hi).mv (λb o e n _=>f b o e λz=>by
   obtain⟨xs,x⟩:=L.nN b z
   rw[e] at x
   exact n _ (Option.some.inj x) z) λ_ z=>z
  kp:=λi hi=>(L.kp i hi).mv (λb o e n=>f b o e λz=>by
   obtain⟨xs,x⟩:=L.nN b z
   rw[e] at x
   exact n _ (Option.some.inj x) z) λ_ z=>z }
theorem L95.keep (L:L95 C hd hl N as dc p d sk k H) (s:Same H H'):L95 C hd hl N as dc p d sk k H':=L.mvN (λb o e _=>s _ _ e) (L.hnd.same s) λb hb=>by
 obtain⟨xs,x⟩:=L.nN b hb
 exact⟨xs,s _ _ x⟩
theorem L95.draw (L:L95 C hd hl N as dc p d sk k H) (s:∀b o,H b=some o->b≠hd->H' b=some o) (h:Hd H' hd hl):L95 C hd hl N as dc p d sk k H':=L.mvN (λb o e n=>s _ _ e λz=>n (z▸L.hN)) h λb hb=>by
 obtain⟨xs,x⟩:=L.nN b hb
 by_cases c:b=hd
 ·obtain⟨_,_,_,_,_,_,_,_,e⟩:=h
  exact⟨_,c▸e⟩
 ·exact⟨xs,s _ _ x c⟩
theorem L95.fr (L:L95 C hd hl N as dc p d sk k H) (hi:i < 3) {k':Kst} (kp':D1 (λb=>b∉N) C H' (p i) (d i) k') (f:Frp (p i) (d i) H H') (ok':KOk k'.m k'.st k'.g k'.kws) (low':Y4 k'.m k'.st k'.g k'.kws k'.low) (few':i < 2->k'.kws.length<=8):L95 C hd hl N as dc p d sk (upF k i k') H' where
 hnd:=C1i L.hnd (L.kp i hi) f
 nN:=λb hb=>by
  obtain⟨xs,x⟩:=L.nN b hb
  exact⟨xs,f _ _ x (F6 (L.kp i hi) x).1 (F6 (L.kp i hi) x).2⟩
 hN:=L.hN
 sta:=λj hj=>D4c (L.sta j hj) (L.kp i hi) (L.ne j i hj hi) f
 kp:=λj hj=>by
  by_cases c:j=i
  ·subst c;rw[M8];exact kp'
  ·rw[L7 c];exact D55 (L.kp j hj) (L.kp i hi) (λz=>c (L.np j i hj hi z)) (λz=>c (L.nd j i hj hi z)) f
 np:=L.np
 nd:=L.nd
 ne:=L.ne
 ok:=λj hj=>by
  by_cases c:j=i
  ·subst c;rw[M8];exact ok'
  ·rw[L7 c];exact L.ok j hj
 low:=λj hj=>by
  by_cases c:j=i
  ·subst c;rw[M8];exact low'
  ·rw[L7 c];exact L.low j hj
 few:=λj hj=>by
  by_cases c:j=i
  ·subst c;rw[M8];exact few' hj
  ·rw[L7 c];exact L.few j hj
theorem L95.fr2 (L:L95 C hd hl N as dc p d sk k H) (hi:i < 3) {k':Kst} (kp':D1 (λb=>b∉N) C H' (p i) (d i) k') (f:∀b o,H b=some o->b∉N->b≠p i->b≠d i->H' b=some o) (hn:Hd H' hd hl) (nn:∀b∈N,∃xs,H' b=some (.lst xs)) (ok':KOk k'.m k'.st k'.g k'.kws) (low':Y4 k'.m k'.st k'.g k'.kws k'.low) (few':i < 2->k'.kws.length<=8):L95 C hd hl N as dc p d sk (upF k i k') H' where
 hnd:=hn
 nN:=nn
 hN:=L.hN
 sta:=λj hj=>C19 (L.sta j hj) (L.kp i hi) (L.ne j i hj hi) λb o e n1 n2 n3=>f b o e (λz=>by
  obtain⟨xs,x⟩:=L.nN b z
  rw[e] at x
  exact n3 _ (Option.some.inj x) z) n1 n2
 kp:=λj hj=>by
  by_cases c:j=i
  ·subst c;rw[M8];exact kp'
  ·rw[L7 c]
   exact B5p (L.kp j hj) (L.kp i hi) (λz=>c (L.np j i hj hi z)) (λz=>c (L.nd j i hj hi z)) λb o e n1 n2 n3=>f b o e (λz=>by
    obtain⟨xs,x⟩:=L.nN b z
    rw[e] at x
    exact n3 _ (Option.some.inj x) z) n1 n2
 np:=L.np
 nd:=L.nd
 ne:=L.ne
 ok:=λj hj=>by
  by_cases c:j=i
  ·subst c;rw[M8];exact ok'
  ·rw[L7 c];exact L.ok j hj
 low:=λj hj=>by
  by_cases c:j=i
  ·subst c;rw[M8];exact low'
  ·rw[L7 c];exact L.low j hj
 few:=λj hj=>by
  by_cases c:j=i
  ·subst c;rw[M8];exact few' hj
  ·rw[L7 c];exact L.few j hj
theorem L95.skq (L:L95 C hd hl N as dc p d sk k H) {sk':Nat->Kst} (e:∀l,(sk l).m=(sk' l).m/\(sk l).st=(sk' l).st/\(sk l).g=(sk' l).g/\(sk l).kws=(sk' l).kws):L95 C hd hl N as dc p d sk' k H:=
 { L with
  sta:=λl hl=>by
   have:=L.sta l hl
   rw[(e l).1,(e l).2.1,(e l).2.2.1,(e l).2.2.2] at this
   exact this }
theorem L95.same_k (L:L95 C hd hl N as dc p d sk k H) (hi:i < 3) (kp':D1 (λb=>b∉N) C H' (p i) (d i) (k i)) (f:Frp (p i) (d i) H H'):L95 C hd hl N as dc p d sk k H':=by
 have:=L.fr hi kp' f (L.ok i hi) (L.low i hi) (L.few i)
 have e:upF k i (k i)=k:=funext λj=>by
  by_cases c:j=i
  ·subst c;rw[M8]
  ·rw[L7 c]
 rw[e] at this
 exact this
theorem L95.put (L:L95 C hd hl N as dc p d sk k H) (hi:i < 2) {a' dc':Addr} {s':Kst} (sa:O8 (λb=>b∉N) H a' dc' s'.m s'.st s'.g s'.kws) (n:∀j,j < 3->dc'≠d j):L95 C hd hl N (upF as i a') (upF dc i dc') p d (upF sk i s') k H:=
 { L with
  sta:=λj hj=>by
   by_cases c:j=i
   ·subst c;rw[M8,M8,M8];exact sa
   ·rw[L7 c,L7 c,L7 c];exact L.sta j hj
  ne:=λj l hj hl=>by
   by_cases c:j=i
   ·subst c;rw[M8];exact n l hl
   ·rw[L7 c];exact L.ne j l hj hl }
theorem L95.hF (L:L95 C hd hl N as dc p d sk k H):∀b,H b=none->b∉N:=λb hb z=>by
 obtain⟨xs,x⟩:=L.nN b z
 rw[hb] at x;cases x
theorem L95.new (L:L95 C hd hl N as dc p d sk k H) {b:Addr} (h:F9 H b):FD p d N b:=by
 refine⟨λz=>?_,λi hi=>?_⟩
 ·obtain⟨xs,x⟩:=L.nN b z
  rcases h with h | ⟨ys,h⟩ <;> rw[h] at x <;> cases x
 ·obtain⟨⟨dx,g,l,ug,ul,e1,_⟩,kw,e4,_⟩:=L.kp i hi
  constructor
  ·intro z
   subst z
   rcases h with h | ⟨ys,h⟩ <;> rw[h] at e1 <;> cases e1
  ·intro z
   subst z
   rcases h with h | ⟨ys,h⟩ <;> rw[h] at e4 <;> cases e4
theorem B0w {vs:List V} {ds:List PyData} (t:A9 (FD p d N) H vs ds) (f:∀b o,H b=some o->b∉N->H' b=some o):A9 (FD p d N) H' vs ds:=t.mv λb o g e=>⟨g,f b o e g.1⟩
theorem B0x {vs:List V} {ds:List PyData} (t:A9 (FD p d N) H vs ds) (hi:i < 3) (f:Frp (p i) (d i) H H'):A9 (FD p d N) H' vs ds:=t.mv λb o g e=>⟨g,f b o e (g.2 i hi).1 (g.2 i hi).2⟩
end
structure S95 (C hd hl ls lk le lt:Addr) (m:Nat) (P D:Nat->Addr) (k0:Kst) (as dc:Nat->Addr) (k:Nat->Kst) (dds:List L6) (rs:List PyData) (H:Hp):Prop where
 L:L95 C hd hl [hd,ls,lk,le,lt] as dc P D k k H
 els:H ls=some (.lst [.ref (as 0),.ref (as 1)])
 elk:H lk=some (.lst [.ref (P 0),.ref (P 1)])
 ele:∃vs,H le=some (.lst vs)/\A9 (FD P D [hd,ls,lk,le,lt]) H vs (dds.map A18)
 elt:∃vs,H lt=some (.lst vs)/\A9 (FD P D [hd,ls,lk,le,lt]) H vs rs
 run:Run k0 dds rs (k 0)
 k2:k 2=k0
 km:∀i,i < 3->(k i).m=m
 ndN:[hd,ls,lk,le,lt].Nodup
section
variable {C hd hl ls lk le lt:Addr} {m:Nat} {P D:Nat->Addr} {k0:Kst} {as dc:Nat->Addr} {k:Nat->Kst} {dds:List L6} {rs:List PyData} {H H':Hp} {i:Nat}
theorem S95.draw (S:S95 C hd hl ls lk le lt m P D k0 as dc k dds rs H) (s:∀b o,H b=some o->b≠hd->H' b=some o) (h:Hd H' hd hl):S95 C hd hl ls lk le lt m P D k0 as dc k dds rs H':=by
 have nd:=S.ndN
 simp only[g8,J1,g9,or_false,not_or] at nd
 obtain⟨⟨n1,n2,n3,n4⟩,_⟩:=nd
 obtain⟨ve,e1,t1⟩:=S.ele
 obtain⟨vt,e2,t2⟩:=S.elt
 have f:∀b o,H b=some o->b∉[hd,ls,lk,le,lt]->H' b=some o:=λb o e n=>s _ _ e λz=>n (by rw[z];exact D4)
 exact⟨S.L.draw s h,s _ _ S.els λz=>n1 z.symm,s _ _ S.elk λz=>n2 z.symm,⟨ve,s _ _ e1 λz=>n3 z.symm,B0w t1 f⟩,⟨vt,s _ _ e2 λz=>n4 z.symm,B0w t2 f⟩,S.run,S.k2,S.km,S.ndN⟩
theorem S95.keep (S:S95 C hd hl ls lk le lt m P D k0 as dc k dds rs H) (s:Same H H'):S95 C hd hl ls lk le lt m P D k0 as dc k dds rs H':=S.draw (λb o e _=>s _ _ e) (S.L.hnd.same s)
theorem S95.ask (S:S95 C hd hl ls lk le lt m P D k0 as dc k dds rs H) (hi:i < 3) (kp':D1 (λb=>b∉[hd,ls,lk,le,lt]) C H' (P i) (D i) (k i)) (f:Frp (P i) (D i) H H'):S95 C hd hl ls lk le lt m P D k0 as dc k dds rs H':=by
 have kp:=S.L.kp i hi
 obtain⟨ve,e1,t1⟩:=S.ele
 obtain⟨vt,e2,t2⟩:=S.elt
 have l:∀{b:Addr} {xs:List V},H b=some (.lst xs)->H' b=some (.lst xs):=λe=>f _ _ e (F6 kp e).1 (F6 kp e).2
 exact⟨S.L.same_k hi kp' f,l S.els,l S.elk,⟨ve,l e1,B0x t1 hi f⟩,⟨vt,l e2,B0x t2 hi f⟩,S.run,S.k2,S.km,S.ndN⟩
end
theorem D56 {k k':Kst} {dds:List L6} {rs:List PyData} (h:Run k dds rs k'):∀r∈rs,F4 2 r:=by
 induction h with
 | nil=>intro r hr;cases hr
 | cons _ mo _ ih=>
  obtain⟨b,_,rfl,_⟩:=mo
  intro r hr
  rcases J1.mp hr with rfl | hr
  ·exact F4.mov _ _
  ·exact ih r hr
def B0y (K:B0):Sp:=λvs H Q _=>∃(a:Addr) (ns:List Int),vs=[.ref a]/\SqL K H a (ns.map V.int)/\ns.length<=63/\∀H',Q (.bl true) H'
theorem lt3 {p:Nat->Prop} (a:p 0) (b:p 1) (c:p 2):∀j,j < 3->p j
 | 0,_=>a
 | 1,_=>b
 | 2,_=>c
theorem of3 {j:Nat} (h:j < 3):j=0\/j=1\/j=2:=by lia
theorem C2a {f:Nat->Addr} (a:f 0≠f 1) (b:f 0≠f 2) (c:f 1≠f 2):∀{i j:Nat},i < 3->j < 3->f i=f j->i=j
 | 0,0,_,_,_=>rfl
 | 0,1,_,_,z=>absurd z a
 | 0,2,_,_,z=>absurd z b
 | 1,0,_,_,z=>absurd z.symm a
 | 1,1,_,_,_=>rfl
 | 1,2,_,_,z=>absurd z c
 | 2,0,_,_,z=>absurd z.symm b
 | 2,1,_,_,z=>absurd z.symm c
 | 2,2,_,_,_=>rfl
theorem D57 (f:Nat->Addr) (a:Addr) {j:Nat} (hj:j < 2):[V.ref (f 0),V.ref (f 1)].set j (.ref a)=[.ref (upF f j a 0),.ref (upF f j a 1)]:=by
 match j,hj with
 | 0,_=>rfl
 | 1,_=>rfl
theorem D58 (f:Nat->Addr) {j:Nat} (hj:j < 2):atI [V.ref (f 0),V.ref (f 1)] ((j:Nat):Int)=some (.ref (f j)):=by
 match j,hj with
 | 0,_=>rfl
 | 1,_=>rfl
theorem C2b {f:Nat->Addr} {i:Nat} {x:V} (h:[V.ref (f 0),V.ref (f 1)][i]?=some x):i < 2/\x=.ref (f i):=by
 match i,h with
 | 0,hx=>cases hx;exact⟨DD,rfl⟩
 | 1,hx=>cases hx;exact⟨DD,rfl⟩
 | i + 2,hx=>cases hx
theorem D59 (T:Txt K mg):C0 P w K mg base CX0 14 T.fm.a T.fm.d ["_law_script"] (B0y K):=by
 have iH:=@C94 P w K mg base T
 have iI:=T.cN.b
 have fI:=@D3l P w K mg base T
 have fJ:=T.ck.b
 have ie:=@C1c P w K mg base T
 have ig:=T.cZ.b
 have iu:=@D3x P w K mg base T
 have iw:=T.cx.b
 have ix:=@D3y P w K mg base T
 have iy:=T.cy.b
 have iJ:=@D37 P w K mg base T
 have iK:=T.cP.b
 have bU:=@B5g P w K mg base T
 have bV:=T.aj.b
 have bm:=@B5h P w K mg base T
 have bn:=T.ah.b
 have gA:=@C1x P w K mg base T
 have gB:=T.cB.b
 have ii:=@D5t P w K mg base T
 have ij:=T.cb.b
 have fo:=@D5z P w K mg base T
 have ft:=T.bT.b
 have iz:=@D51 P w K mg base T
 have iA:=T.cz.b
 have ak:=@A5z P w K mg base T
 have am:=T.af.b
 have eI:=@C1a P w K mg base T
 have eJ:=T.bM.b
 have iB:=@D3p P w K mg base T
 have iC:=T.cu.b
 have iD:=@D3r P w K mg base T
 have iE:=T.cw.b
 refine T.fm.F.ok T4 (λvs H Q E h=>?_) (λcdv A outer s H vs Q E hr h=>?_)
 ·obtain⟨a,ns,rfl,_⟩:=h
  rfl
 ·obtain⟨a,ns,rfl,hS,hlen,told⟩:=h
  refine⟨_,(B5 (C2 (i:=1) T4.nd rfl (p9 rfl) (B3 iH (hr.mono DD) rfl T.cN.m T.cN.F.kp iI .nil A8 (A2 (pv 0) A4 A1)))
   (B5 (C2 (i:=2) T4.nd rfl (p9 rfl) (J5 O2 B1 (B3 ak (hr.mono DD) rfl T.af.m T.af.F.kp am .nil A8 (A2 (pv 1) (A2 B1 A4 E4) A1))))
   (B5 (C2 (i:=3) T4.nd rfl (B9 rfl) (B3 iB (hr.mono DD) rfl T.cu.m T.cu.F.kp iC .nil A8 (A2 (pv 1) A4 A1)))
   (B5 (C2 (i:=4) T4.nd rfl (p9 rfl) (B3 iD (hr.mono DD) rfl T.cw.m T.cw.F.kp iE .nil A8 (A2 (pv 1) (A2 (pv 3) A4 A1) A1)))
   (B5 (A2q (i:=5) T4.nd rfl (B9 rfl) (M2.old (N:=["_law_script", "_law_hand_here", "_law_many", "_law_scale_here", "_law_store_here", "_law_states", "_law_goals", "_law_keepers", "_law_third", "_law_deeds", "_law_told", "_law_k", "_law_at", "_law_deed_here", "_law_found", "_law_j", "_law_due", "_law_back", "_law_first"]) (osc:=B6 g4) (j:=11) KK) rfl (y7 rfl T.bp (A2 B1 A4 E4)) (λ_=>d8) (λ_=>(B3 iu (hr.mono DD) rfl T.cx.m T.cx.F.kp iw .nil A8 (A2 (pv 2) (A2 (pv 4) (A2 (B3 eI (hr.mono DD) rfl T.bM.m T.bM.F.kp eJ .nil A8 (A2 (pv 1) (A2 (pv 2) (A2 (pv 4) A4 A1) A1) A1)) A4 D7) A1) A1))))
   (B5 (A2q (i:=6) T4.nd rfl (B9 rfl) (M2.new (N:=["_law_script", "_law_hand_here", "_law_many", "_law_scale_here", "_law_store_here", "_law_states", "_law_goals", "_law_keepers", "_law_third", "_law_deeds", "_law_told", "_law_k", "_law_at", "_law_deed_here", "_law_found", "_law_j", "_law_due", "_law_back", "_law_first"]) (osc:=B6 g4) KK) rfl (Z0 (pv 5)) (λ_=>d8) (λ_=>(R8 W7 rfl T.au R9 (A2 (C6 D6 (pv 19) B1 (λ_ _=>rfl)) A4 A7))))
   (B5 (A2q (i:=7) T4.nd rfl (B9 rfl) (M2.new (N:=["_law_script", "_law_hand_here", "_law_many", "_law_scale_here", "_law_store_here", "_law_states", "_law_goals", "_law_keepers", "_law_third", "_law_deeds", "_law_told", "_law_k", "_law_at", "_law_deed_here", "_law_found", "_law_j", "_law_due", "_law_back", "_law_first"]) (osc:=B6 g4) KK) rfl (Z0 (pv 6)) (λ_=>d8) (λ_=>(B6u T.dD fI (hr.mono DD) rfl T.dB fJ .nil A8 (A2 (pv 2) (A2 (pv 4) (A2 (pv 19) A4 A1) A1) A1))))
   (B5 (C2 (i:=8) T4.nd rfl (p9 rfl) (B6u T.dD fI (hr.mono DD) rfl T.dB fJ .nil A8 (A2 (pv 2) (A2 (pv 4) (A2 (R8 W7 rfl T.au R9 (A2 (C6 D6 (C6 D6 (pv 5) B1 (λ_ _=>rfl)) B1 (λ_ _=>rfl)) A4 A7)) A4 D7) A1) A1)))
   (B5 (J0 (G4 (l3 (W3 (B3 iz (hr.mono DD) rfl T.cz.m T.cz.F.kp iA .nil A8 (A2 (C6 D6 (pv 7) B1 (λ_ _=>rfl)) (A2 (pv 5) (A2 (pv 6) A4 A1) A1) A7))))
   (C5 (F2 j9))
   G7))
   (B5 (C2 (i:=9) T4.nd rfl (B9 rfl) (V2 A4))
   (B5 (C2 (i:=10) T4.nd rfl (B9 rfl) (V2 A4))
   (B5 (X5 S9 rfl (y7 rfl T.bp (A2 (B3 ak (hr.mono DD) rfl T.af.m T.af.F.kp am .nil A8 (A2 (pv 1) (A2 B1 A4 E4) A1)) A4 D7)) (P9 (i:=11) T4.nd rfl (B9 rfl))
   (B5 (X5 S9 rfl (y7 rfl T.bp (A2 B1 A4 E4)) (P9 (i:=12) T4.nd rfl (B9 rfl))
   (B5 (C2 (i:=13) T4.nd rfl (B9 rfl) (B3 iJ (hr.mono DD) rfl T.cP.m T.cP.F.kp iK .nil A8 (A2 (pv 1) (A2 (C6 D6 (pv 5) (pv 12) (λ_ _=>rfl)) (A2 (pv 3) (A2 (J5 y8 B1 (pv 3)) A4 K0) A1) A7) A1)))
   (B5 (T0 (B3 ix (hr.mono DD) rfl T.cy.m T.cy.F.kp iy .nil A8 (A2 (C6 D6 (pv 5) (pv 12) (λ_ _=>rfl)) (A2 (pv 13) A4 A1) A7)) (W4 (pv 5) (pv 12) U2))
   (B5 (C2 (i:=14) T4.nd rfl (B9 rfl) (B3 ii (hr.mono DD) rfl T.cb.m T.cb.F.kp ij .nil A8 (A2 (C6 D6 (pv 7) (pv 12) (λ_ _=>rfl)) (A2 (pv 13) A4 A1) A7)))
   (B5 (J0 (G4 (J2 Z2 (pv 14) w5 (D5 _))
   (C5 (F2 j9))
   G7))
   (C5 (G4 (J2 Q4 (pv 12) B1 (D5 _))
   (B5 (P8 (z5 t9 A4q A4r A1l (pv 9) (A2 (pv 13) A4 A1)))
   (B5 (P8 (z5 t9 A4q A4r A1l (pv 10) (A2 (B3 bm (hr.mono DD) rfl T.ah.m T.ah.F.kp bn .nil A8 (A2 (pv 14) A4 A1)) A4 D7)))
   (C5 (P8 (B3 bU (hr.mono DD) rfl T.aj.m T.aj.F.kp bV .nil A8 (A2 (pv 14) A4 A1))))))
   G7)))))))
   (C5 (X5 S9 rfl (y7 rfl T.bp (A2 (B3 ak (hr.mono DD) rfl T.af.m T.af.F.kp am .nil A8 (A2 (pv 1) (A2 B1 A4 E4) A1)) A4 D7)) (P9 (i:=15) T4.nd rfl (B9 rfl))
   (C5 (P8 (B3 bU (hr.mono DD) rfl T.aj.m T.aj.F.kp bV .nil A8 (A2 (B3 gA (hr.mono DD) rfl T.cB.m T.cB.F.kp gB .nil A8 (A2 (C6 D6 (pv 7) B1 (λ_ _=>rfl)) (A2 (B3 ak (hr.mono DD) rfl T.af.m T.af.F.kp am .nil A8 (A2 (pv 1) (A2 B1 A4 E4) A1)) (A2 (B3 ak (hr.mono DD) rfl T.af.m T.af.F.kp am .nil A8 (A2 (pv 1) (A2 (pv 2) A4 A1) A1)) (A2 (C6 D6 (C6 D6 (pv 5) B1 (λ_ _=>rfl)) B1 (λ_ _=>rfl)) A4 A7) D7) D7) A7)) A4 D7))))))))
   (B5 (A2q (i:=16) T4.nd rfl (B9 rfl) (M2.old (N:=["_law_script", "_law_hand_here", "_law_many", "_law_scale_here", "_law_store_here", "_law_states", "_law_goals", "_law_keepers", "_law_third", "_law_deeds", "_law_told", "_law_k", "_law_at", "_law_deed_here", "_law_found", "_law_j", "_law_due", "_law_back", "_law_first"]) (osc:=B6 g4) (j:=13) KK) rfl (Z0 (pv 9)) (λ_=>d8) (λ_=>(B3 bm (hr.mono DD) rfl T.ah.m T.ah.F.kp bn .nil A8 (A2 (B3 ie (hr.mono DD) rfl T.cZ.m T.cZ.F.kp ig .nil A8 (A2 (pv 8) (A2 (Q0 (A2 (C6 X6 (pv 13) B1 (λ_ _=>rfl)) (A2 (B3 bm (hr.mono DD) rfl T.ah.m T.ah.F.kp bn .nil A8 (A2 (C6 X6 (pv 13) B1 (λ_ _=>rfl)) A4 A7)) A4 D7) A7)) A4 X8) A1)) A4 D7))))
   (B5 (J0 (G4 (J2 (A1m (O0 hr)) (pv 10) (pv 16) (D5 _))
   (C5 (F2 j9))
   G7))
   (B5 (C2 (i:=17) T4.nd rfl (B9 rfl) (A8q Q4 (B3 ak (hr.mono DD) rfl T.af.m T.af.F.kp am .nil A8 (A2 (pv 1) (A2 B1 A4 E4) A1)) B1 (D5 _)))
   (B5 (C2 (i:=18) T4.nd rfl (B9 rfl) (B3 fo (hr.mono DD) rfl T.bT.m T.bT.F.kp ft .nil A8 (A2 (C6 D6 (pv 7) B1 (λ_ _=>rfl)) (A2 (C6 D6 (pv 5) B1 (λ_ _=>rfl)) (A2 (pv 17) (A2 j9 A4 E4) A1) A7) A7)))
   (B5 (J0 (G4 (J2 (B9e (.inr rfl) (C18 hr)) (pv 18) (B3 fo (hr.mono DD) rfl T.bT.m T.bT.F.kp ft .nil A8 (A2 (pv 8) (A2 (C6 D6 (pv 5) B1 (λ_ _=>rfl)) (A2 (B1b (pv 17)) (A2 j9 A4 E4) A40) A7) A1)) (D5 _))
   (C5 (F2 j9))
   G7))
   (C5 (F2 (A8q (B9e (.inl rfl) (C18 hr)) (B3 fo (hr.mono DD) rfl T.bT.m T.bT.F.kp ft .nil A8 (A2 (C6 D6 (pv 7) B1 (λ_ _=>rfl)) (A2 (C6 D6 (pv 5) B1 (λ_ _=>rfl)) (A2 (pv 17) (A2 j9 A4 E4) A1) A7) A7)) (B3 fo (hr.mono DD) rfl T.bT.m T.bT.F.kp ft .nil A8 (A2 (C6 D6 (pv 7) B1 (λ_ _=>rfl)) (A2 (C6 D6 (pv 5) B1 (λ_ _=>rfl)) (A2 (B1b (pv 17)) (A2 j9 A4 E4) A40) A7) A7)) (D5 _))))))))))))))))))))),?_⟩
  try dsimp only[N1,Cx.nox]
  refine T7 λW hW=>?_
  refine⟨_,rfl,a,ns,rfl,hS,λhd hl H1 _ _ d1 _=>?_⟩
  have drw:∀(n:Int) (Hx:Hp) (Qv:VK),0 < n->n < 100000000000000000000000000000000000000->Hd Hx hd hl->(∀r Hy,0<=r->r < n->(∀b o,Hx b=some o->b≠hd->Hy b=some o)->Hd Hy hd hl->Qv (.int r) Hy)->spD [.hd,.sh] B4y [.ref hd,.int n] Hx Qv E0:=λn Hx Qv n0 n1 hx q=>
   A52 (E:=E0) (λd=>∃r:Int,(0<=r/\r < n)/\d=.int r) hx (.cons (.int _) .nil) ⟨n,rfl,n0,OO,λr r0 r1=>⟨r,⟨r0,r1⟩,rfl⟩⟩ λd v Hy hd' tv ky hy=>by
    obtain⟨r,⟨r0,r1⟩,rfl⟩:=hd'
    cases tv
    exact q r Hy r0 r1 (λb o e n=>ky b o e λq hq=>by cases hq;exact n) hy
  refine C3 W hW λW hW=>?_
  refine⟨_,rfl,drw 4 _ _ DD DD d1 λm0 H3 m00 m01 k3 d3=>?_⟩
  obtain⟨m,hm⟩:∃m:Nat,1 + m0=((m:Nat):Int):=⟨(1 + m0).toNat,OO⟩
  refine⟨_,_,rfl,rfl,?_⟩
  dsimp only
  rw[hm]
  refine C3 W hW λW hW=>?_
  refine⟨_,rfl,D18 (E:=E0) (λd=>∃r:Int,(1<=r/\r<=1000000000000000000)/\d=.int r) d3 ⟨_,rfl,λr r0 r1=>⟨r,⟨r0,r1⟩,rfl⟩⟩ λd v H4 hd' tv _ d4=>?_⟩
  obtain⟨sc,⟨sc0,sc1⟩,rfl⟩:=hd'
  cases tv
  refine C3 W hW λW hW=>?_
  refine⟨_,rfl,_,rfl,A52 (E:=E0) (λd=>∃r:Int,(0<=r/\r<=100000000000000000000)/\d=.int r) d4 (.cons (.int _) .nil) ⟨_,sc,rfl,OO,sc1,λr r0 r1=>⟨r,⟨r0,r1⟩,rfl⟩⟩ λd v H5 hd' tv _ d5=>?_⟩
  obtain⟨st,⟨st0,st1⟩,rfl⟩:=hd'
  cases tv
  refine C3 W hW λW hW=>?_
  refine⟨2,rfl,DD,DD,?_⟩
  refine B7k (n:=2) (λi ys Hn=>Hd Hn hd hl/\∃(as dc:Nat->Addr) (gs:Nat->Tb),ys=(G9 i).map (λj=>V.ref (as j))/\∀j,j < i->F7 m st (gs j)/\O8 (λb=>b≠hd) Hn (as j) (dc j) m st (gs j) []) (by rw[sizeLine_eq];decide) ⟨d5,λ_=>hd,λ_=>hd,λ_=>[],rfl,λj h=>absurd h (B56 _)⟩ (λi ys Hn _ h=>by
   obtain⟨_,as,dc,gs,rfl,_⟩:=h
   rw[C1,R6];exact E1 _) (λi ys Hn hi h ca=>?_) ?_
  ·obtain⟨dn,as,dc,gs,rfl,hs⟩:=h
   unfold b9
   refine F5 ⟨_,rfl,_,rfl,_,rfl,_,rfl,_,rfl,A52 (E:=E0) (λd=>∃t,F7 m st t/\d=.list (B8 t)) dn (.cons (.int _) (.cons (.int _) .nil)) ⟨_,m,st,rfl,OO,st0,OO,λt ht=>⟨t,ht,rfl⟩⟩ λd vg H6 hd' tg k6 d6=>?_⟩
   obtain⟨g,tg0,rfl⟩:=hd'
   refine⟨m,st,g,vg,rfl,tg.any,λa' dc' H7 sa ndc s7=>?_⟩
   have k6':∀b o,Hn b=some o->b≠hd->H6 b=some o:=λb o e n=>k6 b o e λq hq=>by cases hq;exact n
   refine⟨d6.same s7,upF as i a',upF dc i dc',upF gs i g,?_,λj hj=>?_⟩
   ·rw[A8j,P2]
    congr 1
    ·refine A6m λj hj=>?_
     rw[L7 (by have:=U7.mp hj;lia)]
    ·rw[C2o,M8]
   ·by_cases c:j=i
    ·subst c
     rw[M8,M8,M8]
     exact⟨tg0,sa.mv (λb o e _ _=>e) λb hb=>(d6.ne hb).1⟩
    ·rw[L7 c,L7 c,L7 c]
     obtain⟨h1,h2⟩:=hs j (OO)
     exact⟨h1,(D4b h2 dn k6').mv (λb o e _ _=>s7 _ _ e) λ_ z=>z⟩
  rintro ys H6 ⟨d6,as,dc,gs,rfl,hs⟩ ls hls
  have sl:=Same.upd (o:=.lst [V.ref (as 0),V.ref (as 1)]) hls
  obtain⟨H7,hH7⟩:∃H7,H7=upd H6 ls (.lst [V.ref (as 0),V.ref (as 1)]):=⟨_,rfl⟩
  have els:H7 ls=some (.lst [V.ref (as 0),V.ref (as 1)]):=by rw[hH7];exact B2
  have d7:Hd H7 hd hl:=by rw[hH7];exact d6.same sl
  have hs7:∀j,j < 2->F7 m st (gs j)/\O8 (λb=>b≠hd/\H7 b≠none/\b≠ls) H7 (as j) (dc j) m st (gs j) []:=λj hj=>by
   obtain⟨h1,h2⟩:=hs j hj
   obtain⟨⟨gl,ug,e1,f1,f2,e2,t2⟩,kvs,e3,kv⟩:=h2
   have n:∀{b:Addr} {o:HO},H6 b=some o->H7 b=some o/\b≠ls:=λ{b o} e=>⟨by rw[hH7];exact sl _ _ e,Q3 e hls⟩
   exact⟨h1,⟨gl,ug,(n e1).1,⟨f1,(λz=>by rw[(n e1).1] at z;cases z),(n e1).2⟩,⟨f2,(λz=>by rw[(n e2).1] at z;cases z),(n e2).2⟩,(n e2).1,E6 t2⟩,kvs,(n e3).1,kv.mv λb xs x=>(n x).1⟩
  have nlh:ls≠hd:=(d6.ne hls).1
  show W _ _ (upd H6 ls (.lst [V.ref (as 0),V.ref (as 1)]))
  rw[<-hH7]
  clear hH7 sl hls hs d6 d5 d4 d3 d1 k3
  try dsimp only[R7]
  refine C3 W hW λW hW=>?_
  refine⟨_,rfl,ls,rfl,⟨_,SqL.of els⟩,?_⟩
  refine A0a (xs:=[V.ref (as 0),V.ref (as 1)]) (λi ys Hn=>Same H7 Hn/\∃(lg:Nat->Addr) (us:Nat->List V),ys=(G9 i).map (λj=>V.ref (lg j))/\∀j,j < i->H7 (lg j)=none/\Hn (lg j)=some (.lst (us j))/\A9 TT0 Hn (us j) (B8 (gs j))) (by rw[sizeLine_eq];show 2 < 16777216;decide) ⟨Same.refl _,λ_=>hd,λ_=>[],rfl,λj h=>absurd h (B56 _)⟩ (λi ys Hn hi h=>by
   obtain⟨s,lg,us,rfl,_⟩:=h
   exact⟨by rw[C1,R6];exact E1 _,SqL.of (s _ _ els)⟩) (λi x ys Hn hx h ca=>?_) ?_
  ·obtain⟨s,lg,us,rfl,hg⟩:=h
   obtain⟨hi,rfl⟩:=C2b hx
   obtain⟨_,⟨gl,ug,e1,f1,f2,e2,t2⟩,_⟩:=hs7 i hi
   unfold b9
   refine F5 ⟨_,rfl,as i,_,_,_,rfl,rfl,SqL.of (s _ _ e1),rfl,gl,ug,rfl,.inl (SqL.of (s _ _ e2)),λl hl2=>?_⟩
   have s2:=Same.upd (o:=.lst ug) hl2
   refine⟨s.tr s2,upF lg i l,upF us i ug,?_,λj hj=>?_⟩
   ·rw[A8j,P2]
    congr 1
    ·refine A6m λj hj=>?_
     rw[L7 (by have:=U7.mp hj;lia)]
    ·rw[C2o,M8]
   ·by_cases c:j=i
    ·subst c
     rw[M8,M8]
     exact⟨s.early hl2,B2,E6 t2⟩
    ·rw[L7 c,L7 c]
     obtain⟨h1,h2,h3⟩:=hg j (OO)
     exact⟨h1,s2 _ _ h2,E6 h3⟩
  rintro ys H8 ⟨s8,lg,us,rfl,hg⟩ lgs hlgs
  have sg:=Same.upd (o:=.lst [V.ref (lg 0),V.ref (lg 1)]) hlgs
  obtain⟨H9,hH9⟩:∃H9,H9=upd H8 lgs (.lst [V.ref (lg 0),V.ref (lg 1)]):=⟨_,rfl⟩
  have elgs:H9 lgs=some (.lst [V.ref (lg 0),V.ref (lg 1)]):=by rw[hH9];exact B2
  have s79:Same H7 H9:=by rw[hH9];exact s8.tr sg
  have hg9:∀j,j < 2->H7 (lg j)=none/\H9 (lg j)=some (.lst (us j))/\lgs≠lg j:=λj hj=>by
   obtain⟨h1,h2,h3⟩:=hg j hj
   exact⟨h1,by rw[hH9];exact sg _ _ h2,λz=>by rw[z,h2] at hlgs;cases hlgs⟩
  have ht9:∀j,j < 2->A9 TT0 H9 (us j) (B8 (gs j)):=λj hj=>E6 (hg j hj).2.2
  show W _ _ (upd H8 lgs (.lst [V.ref (lg 0),V.ref (lg 1)]))
  rw[<-hH9]
  clear hH9 sg hlgs hg s8
  try dsimp only[R7]
  refine C3 W hW λW hW=>?_
  have ok0:∀j,j < 2->KOk m st (gs j) []:=λj hj=>⟨OO,OO,st0,st1,(hs7 j hj).1,j8,J7 _,λq hq=>by cases hq⟩
  refine⟨_,rfl,lgs,rfl,⟨_,SqL.of elgs⟩,?_⟩
  refine A0a (xs:=[V.ref (lg 0),V.ref (lg 1)]) (λi ys Hn=>Same H9 Hn/\∃(p d:Nat->Addr) (lo:Nat->Tb),ys=(G9 i).map (λj=>V.ref (p j))/\∀j,j < i->H9 (p j)=none/\H9 (d j)=none/\D1 (λb=>H9 b=none) T.ac Hn (p j) (d j) ⟨m,st,gs j,[],lo j⟩/\Y4 m st (gs j) [] (lo j)/\∀l,l < i->(p l=p j->l=j)/\(d l=d j->l=j)) (by rw[sizeLine_eq];show 2 < 16777216;decide) ⟨Same.refl _,λ_=>hd,λ_=>hd,λ_=>[],rfl,λj h=>absurd h (B56 _)⟩ (λi ys Hn hi h=>by
   obtain⟨s,p,d,lo,rfl,_⟩:=h
   exact⟨by rw[C1,R6];exact E1 _,SqL.of (s _ _ elgs)⟩) (λi x ys Hn hx h ca=>?_) ?_
  ·obtain⟨s,p,d,lo,rfl,hk⟩:=h
   obtain⟨hi,rfl⟩:=C2b hx
   unfold b9
   refine F5 ⟨_,rfl,_,rfl,_,rfl,?_⟩
   intro q dx hq hdx nq
   have sA:=Same.upd (o:=.own q) hdx
   have hq':upd Hn dx (.own q) q=none:=by rw[B4 (λz=>nq z.symm)];exact hq
   have sB:=Same.upd (o:=.ins T.ac dx []) hq'
   have sAB:=sA.tr sB
   refine⟨q,dx,m,st,gs i,.ref (lg i),rfl,B2,.lst trivial (sAB _ _ (s _ _ (hg9 i hi).2.1)) (E6 (ht9 i hi)),ok0 i hi,λd' low H' lr nd kp fr=>⟨rfl,?_⟩⟩
   have sH:Same Hn H':=λb o e=>fr _ _ (sAB _ _ e) λz=>by rw[z,hq] at e;cases e
   have kpn:∀l,l < i->p l≠q/\d l≠d':=λl hl=>by
    obtain⟨⟨dx',g',l',ug',ul',e1,_⟩,kw',e4,_⟩:=(hk l hl).2.2.1
    exact⟨(λz=>by rw[z,hq] at e1;cases e1),λz=>by rw[z,sAB.early nd] at e4;cases e4⟩
   refine⟨s.tr sH,upF p i q,upF d i d',upF lo i low,?_,λj hj=>?_⟩
   ·rw[A8j,P2]
    congr 1
    ·refine A6m λj hj=>?_
     rw[L7 (by have:=U7.mp hj;lia)]
    ·rw[C2o,M8]
   ·by_cases c:j=i
    ·subst c
     rw[M8,M8,M8]
     refine⟨s.early hq,s.early (sAB.early nd),b3 kp λb xs h _=>s.early (sAB.early h),lr,λl hl=>?_⟩
     by_cases c2:l=j
     ·exact⟨λ_=>c2,λ_=>c2⟩
     ·rw[L7 c2,L7 c2]
      exact⟨λz=>absurd z (kpn l OO).1,λz=>absurd z (kpn l OO).2⟩
    ·rw[L7 c,L7 c,L7 c]
     obtain⟨h1,h2,h3,h4,h5⟩:=hk j (OO)
     refine⟨h1,h2,h3.same sH,h4,λl hl=>?_⟩
     by_cases c2:l=i
     ·subst c2
      rw[M8,M8]
      exact⟨λz=>absurd z.symm (kpn j OO).1,λz=>absurd z.symm (kpn j OO).2⟩
     ·rw[L7 c2,L7 c2]
      exact h5 l (OO)
  rintro ys H10 ⟨s10,p,d,lo,rfl,hk⟩ lk hlk
  have sk:=Same.upd (o:=.lst [V.ref (p 0),V.ref (p 1)]) hlk
  obtain⟨H11,hH11⟩:∃H11,H11=upd H10 lk (.lst [V.ref (p 0),V.ref (p 1)]):=⟨_,rfl⟩
  have elk:H11 lk=some (.lst [V.ref (p 0),V.ref (p 1)]):=by rw[hH11];exact B2
  have s911:Same H9 H11:=by rw[hH11];exact s10.tr sk
  have hk11:∀j,j < 2->H9 (p j)=none/\H9 (d j)=none/\D1 (λb=>H9 b=none/\b≠lk) T.ac H11 (p j) (d j) ⟨m,st,gs j,[],lo j⟩/\Y4 m st (gs j) [] (lo j)/\∀l,l < 2->(p l=p j->l=j)/\(d l=d j->l=j):=λj hj=>by
   obtain⟨h1,h2,h3,h4,h5⟩:=hk j hj
   refine⟨h1,h2,?_,h4,h5⟩
   have h6:D1 (λb=>H9 b=none/\∃xs,H10 b=some (.lst xs)) T.ac H11 (p j) (d j) ⟨m,st,gs j,[],lo j⟩:=by rw[hH11];exact (A4g h3 h3.ex).same sk
   exact b3 h6 λb xs h _=>⟨h.1,λz=>by
    obtain⟨ys,y⟩:=h.2
    rw[z,hlk] at y;cases y⟩
  have hlk9:=s10.early hlk
  show W _ _ (upd H10 lk (.lst [V.ref (p 0),V.ref (p 1)]))
  rw[<-hH11]
  clear hH11 sk hlk hk s10
  try dsimp only[R7]
  refine C3 W hW λW hW=>?_
  have s711:=s79.tr s911
  obtain⟨⟨gl0,ug0,ea0,fa0,fg0,eg0,tg0⟩,_⟩:=(hs7 0 DD).2
  refine⟨_,rfl,_,rfl,_,rfl,ls,_,_,_,rfl,rfl,SqL.of (s711 _ _ els),rfl,as 0,_,_,_,rfl,rfl,SqL.of (s711 _ _ ea0),rfl,gl0,ug0,rfl,.inl (SqL.of (s711 _ _ eg0)),λlc hlc=>?_⟩
  have sC:=Same.upd (o:=.lst ug0) hlc
  intro q dx hq hdx nq
  obtain⟨H12,hH12⟩:∃H12,H12=upd H11 lc (.lst ug0):=⟨_,rfl⟩
  have elc:H12 lc=some (.lst ug0):=by rw[hH12];exact B2
  rw[<-hH12] at hq hdx sC ⊢
  clear hH12
  have sA:=Same.upd (o:=.own q) hdx
  have hq':upd H12 dx (.own q) q=none:=by rw[B4 (λz=>nq z.symm)];exact hq
  have sB:=Same.upd (o:=.ins T.ac dx []) hq'
  have sAB:=sA.tr sB
  refine⟨q,dx,m,st,gs 0,.ref lc,rfl,B2,.lst trivial (sAB _ _ elc) (E6 tg0),ok0 0 DD,λd2 lo2 H13 lr2 nd2 kp2 fr2=>⟨rfl,?_⟩⟩
  have sH:Same H12 H13:=λb o e=>fr2 _ _ (sAB _ _ e) λz=>by rw[z,hq] at e;cases e
  have s1113:=sC.tr sH
  cases lr2.uniq (hk11 0 DD).2.2.2.1
  try dsimp only
  rw[X3]
  try dsimp only[R7]
  refine C3 W hW λW hW=>?_
  have s13:=s711.tr s1113
  have d13:=d7.same s13
  obtain⟨⟨gl1,ug1,ea1,fa1,fg1,eg1,tg1⟩,_⟩:=(hs7 1 DD).2
  have l9:∀{b:Addr},(H9 b=none/\b≠lk)->b≠lg 0/\b≠lg 1:=λ{b} h=>⟨(λz=>by have:=(hg9 0 DD).2.1;rw[<-z,h.1] at this;cases this),λz=>by have:=(hg9 1 DD).2.1;rw[<-z,h.1] at this;cases this⟩
  have s913:=s911.tr s1113
  have elk13:=s1113 _ _ elk
  have n13:∀b,H13 b=none->H9 b=none/\b≠lk:=λb hb=>⟨s913.early hb,λz=>by rw[z,elk13] at hb;cases hb⟩
  refine⟨fun σ' H'=>σ'=[some (.ref a),some (.ref hd),some (.int ((m:Nat):Int)),some (.int sc),some (.int st),some (.ref ls),some (.ref lgs),some (.ref lk),some (.ref q),none,none,none,none,none,none,none,none,none,none]/\D1 (λb=>H9 b=none/\b≠lk) T.ac H' (p 1) (d 1) ⟨m,st,gs 1,[],lo 1⟩/\∀b o,H13 b=some o->b≠p 1->b≠d 1->b≠lg 0->b≠lg 1->H' b=some o,?_,?_⟩
  ·refine⟨_,rfl,lk,_,_,_,rfl,rfl,SqL.of elk13,rfl,_,rfl,_,rfl,?_⟩
   exact⟨λb=>H9 b=none/\b≠lk,p 1,d 1,ls,lgs,as 0,as 1,gl0,gl1,lg 0,lg 1,⟨m,st,gs 1,[],lo 1⟩,gs 0,_,_,_,_,_,_,ug0,ug1,us 0,us 1,rfl,n13,(λb h=>l9 h),(hk11 1 DD).2.2.1.same s1113,ok0 1 DD,by rw[(hs7 0 DD).1.len];lia,s13 _ _ els,s13 _ _ ea0,s13 _ _ ea1,s13 _ _ eg0,s13 _ _ eg1,s913 _ _ elgs,s913 _ _ (hg9 0 DD).2.1,s913 _ _ (hg9 1 DD).2.1,(hg9 0 DD).2.2,(hg9 1 DD).2.2,E6 tg0,E6 (ht9 0 DD),E6 tg1,E6 (ht9 1 DD),λH14 kp14 fr14=>⟨_,rfl,D0 ⟨rfl,kp14,fr14⟩⟩⟩
  rintro σ' H14 ⟨rfl,kp14,fr14⟩
  refine C3 W hW λW hW=>?_
  refine⟨by show 0<=sizeLine;decide,λle hle=>?_⟩
  try dsimp only
  rw[X3]
  try dsimp only[R7]
  refine C3 W hW λW hW=>?_
  refine⟨by show 0<=sizeLine;decide,λlt hlt=>?_⟩
  try dsimp only
  rw[X3]
  try dsimp only[R7]
  have se:=Same.upd (o:=.lst []) hle
  have st':=Same.upd (o:=.lst []) hlt
  have s1416:=se.tr st'
  obtain⟨H16,hH16⟩:∃H16,H16=upd (upd H14 le (.lst [])) lt (.lst []):=⟨_,rfl⟩
  have ele:H16 le=some (.lst []):=by rw[hH16];exact st' _ _ B2
  have elt:H16 lt=some (.lst []):=by rw[hH16];exact B2
  have nlt14:=se.early hlt
  have nle:le≠lt:=λz=>by rw[<-z,B2] at hlt;cases hlt
  rw[<-hH16] at s1416 ⊢
  clear hH16 st' se
  obtain⟨k0,hk0⟩:∃k0:Kst,k0=⟨m,st,gs 0,[],lo 0⟩:=⟨_,rfl⟩
  obtain⟨kf,hkf⟩:∃kf:Nat->Kst,kf=λj=>if j=1 then ⟨m,st,gs 1,[],lo 1⟩ else k0:=⟨_,rfl⟩
  have nm13:∀{b:Addr} {o:HO},H7 b=some o->b≠lg 0/\b≠lg 1:=λ{b o} e=>⟨(λz=>by rw[z,(hg9 0 DD).1] at e;cases e),λz=>by rw[z,(hg9 1 DD).1] at e;cases e⟩
  have kp1:=(hk11 1 DD).2.2.1.same s1113
  have lg13:∀j,j < 2->H13 (lg j)=some (.lst (us j)):=λj hj=>s913 _ _ (hg9 j hj).2.1
  have frK:∀b o,H13 b=some o->b≠p 1->b≠d 1->(∀xs,o=.lst xs->H9 b=none/\b≠lk)->H14 b=some o:=λb o e n1 n2 n3=>fr14 b o e n1 n2 (λz=>by
   have y:=lg13 0 (DD)
   rw[<-z,e] at y
   exact (l9 (n3 _ (Option.some.inj y))).1 z) λz=>by
   have y:=lg13 1 (DD)
   rw[<-z,e] at y
   exact (l9 (n3 _ (Option.some.inj y))).2 z
  have kp2':D1 (λb=>H9 b=none/\b≠lk) T.ac H13 q d2 ⟨m,st,gs 0,[],lo 0⟩:=b3 kp2 λb xs h _=>⟨s911.early (sC.early (sAB.early h)),λz=>by rw[z,sAB _ _ (sC _ _ elk)] at h;cases h⟩
  have nq1:q≠p 1/\d2≠d 1/\q≠p 0/\d2≠d 0:=by
   obtain⟨⟨dx',g',l',ug',ul',e1,_⟩,kw',e4,_⟩:=(hk11 1 DD).2.2.1
   obtain⟨⟨dy',g'',l'',ug'',ul'',y1,_⟩,kw'',y4,_⟩:=(hk11 0 DD).2.2.1
   exact⟨(λz=>by rw[<-z,sC.early hq] at e1;cases e1),(λz=>by rw[<-z,sC.early (sAB.early nd2)] at e4;cases e4),(λz=>by rw[<-z,sC.early hq] at y1;cases y1),λz=>by rw[<-z,sC.early (sAB.early nd2)] at y4;cases y4⟩
  have n01:p 0≠p 1/\d 0≠d 1:=⟨(λz=>absurd (((hk11 1 DD).2.2.2.2 0 DD).1 z) DD),λz=>absurd (((hk11 1 DD).2.2.2.2 0 DD).2 z) DD⟩
  have hk14:∀j,j < 3->D1 (λb=>H9 b=none/\b≠lk) T.ac H14 (upF p 2 q j) (upF d 2 d2 j) (kf j):=λj hj=>by
   subst hkf hk0
   rcases of3 hj with z | z | z <;> rw[z]
   ·exact B5p ((hk11 0 DD).2.2.1.same s1113) kp1 n01.1 n01.2 frK
   ·exact kp14
   ·exact B5p kp2' kp1 nq1.1 nq1.2.1 frK
  have up14:∀b o,H7 b=some o->H14 b=some o:=λb o e=>fr14 _ _ (s13 _ _ e) (λz=>by have:=(hk11 1 DD).1;rw[<-z,s79 _ _ e] at this;cases this) (λz=>by have:=(hk11 1 DD).2.1;rw[<-z,s79 _ _ e] at this;cases this) (nm13 e).1 (nm13 e).2
  have d14:Hd H14 hd hl:=by
   obtain⟨ns,p0,b,c,u,v,e1,h,e2⟩:=d7
   exact⟨ns,p0,b,c,u,v,up14 _ _ e1,h,up14 _ _ e2⟩
  have hdl:∃xs,H7 hd=some (.lst xs):=by
   obtain⟨_,_,_,_,_,_,_,_,e⟩:=d7
   exact⟨_,e⟩
  obtain⟨xhd,ehd⟩:=hdl
  have elk14:H14 lk=some (.lst [V.ref (p 0),V.ref (p 1)]):=fr14 _ _ elk13 (F6 kp1 elk13).1 (F6 kp1 elk13).2 (λz=>by have:=(hg9 0 DD).2.1;rw[<-z,hlk9] at this;cases this) λz=>by have:=(hg9 1 DD).2.1;rw[<-z,hlk9] at this;cases this
  have S:S95 T.ac hd hl ls lk le lt m (upF p 2 q) (upF d 2 d2) k0 as dc kf [] [] H16:=by
   have els14:=up14 _ _ els
   have hd14:=up14 _ _ ehd
   have nn:∀{b c:Addr} {o:HO},H14 b=some o->H14 c=none->b≠c:=λe h z=>by rw[z,h] at e;cases e
   have nlk7:H7 lk=none:=s79.early hlk9
   refine⟨⟨d14.same s1416,λb hb=>?_,D4,λj hj=>?_,λj hj=>?_,λi j hi hj z=>?_,λi j hi hj z=>?_,λi j hi hj=>?_,λj hj=>?_,λj hj=>?_,λj hj=>?_⟩,s1416 _ _ els14,s1416 _ _ elk14,⟨[],ele,.nil⟩,⟨[],elt,.nil⟩,by subst hkf;exact .nil,by subst hkf;rfl,λj hj=>?_,?_⟩
   ·simp only[J1,g9,or_false] at hb
    rcases hb with rfl | rfl | rfl | rfl | rfl
    ·exact⟨_,s1416 _ _ hd14⟩
    ·exact⟨_,s1416 _ _ els14⟩
    ·exact⟨_,s1416 _ _ elk14⟩
    ·exact⟨_,ele⟩
    ·exact⟨_,elt⟩
   ·have h1:=(hs7 j hj).2
    have ne1:dc j≠d 1:=λz=>by
     obtain⟨_,kvs,e3,_⟩:=h1
     have:=(hk11 1 DD).2.1
     rw[<-z,s79 _ _ e3] at this;cases this
    have h2:=C19 (H':=H14) (h1.mv (λb o e _ _=>s13 _ _ e) λ_ z=>z) kp1 ne1 λb o e n1 n2 n3=>fr14 b o e n1 n2 (λz=>by
     have y:=lg13 0 (DD)
     rw[<-z,e] at y
     have:=(n3 _ (Option.some.inj y)).2.1
     rw[z] at this
     exact this (hg9 0 DD).1) λz=>by
     have y:=lg13 1 (DD)
     rw[<-z,e] at y
     have:=(n3 _ (Option.some.inj y)).2.1
     rw[z] at this
     exact this (hg9 1 DD).1
    have h3:O8 (λb=>b∉[hd,ls,lk,le,lt]) H16 (as j) (dc j) m st (gs j) []:=h2.mv (λb o e _ _=>s1416 _ _ e) λb hb z=>by
     obtain⟨o,ho⟩:=Option.ne_none_iff_exists'.mp hb.2.1
     have hb14:=up14 _ _ ho
     simp only[J1,g9,or_false] at z
     rcases z with z | z | z | z | z
     ·exact hb.1 z
     ·exact hb.2.2 z
     ·exact hb.2.1 (z▸nlk7)
     ·exact nn hb14 hle z
     ·exact nn hb14 nlt14 z
    subst hkf hk0
    rcases (show j=0\/j=1 by lia) with z | z
    ·rw[z] at h3 ⊢;exact h3
    ·rw[z] at h3 ⊢;exact h3
   ·refine b3 ((A4g (hk14 j hj) (hk14 j hj).ex).same s1416) λb xs h _ z=>?_
    obtain⟨⟨h9,hlk'⟩,ys,y⟩:=h
    simp only[J1,g9,or_false] at z
    rcases z with z | z | z | z | z
    ·rw[z,s79 _ _ ehd] at h9;cases h9
    ·rw[z,s79 _ _ els] at h9;cases h9
    ·exact hlk' z
    ·exact nn y hle z
    ·exact nn y nlt14 z
   ·exact C2a (f:=upF p 2 q) n01.1 (λz=>nq1.2.2.1 z.symm) (λz=>nq1.1 z.symm) hi hj z
   ·exact C2a (f:=upF d 2 d2) n01.2 (λz=>nq1.2.2.2 z.symm) (λz=>nq1.2.1 z.symm) hi hj z
   ·obtain⟨_,kvs,e3,_⟩:=(hs7 i hi).2
    have hdn:∀j,j < 3->H9 (upF d 2 d2 j)=none:=lt3 (hk11 0 DD).2.1 (hk11 1 DD).2.1 (s911.early (sC.early (sAB.early nd2)))
    intro z
    have:=hdn j hj
    rw[<-z,s79 _ _ e3] at this;cases this
   ·subst hkf hk0
    rcases of3 hj with z | z | z <;> rw[z]
    ·exact ok0 0 (DD)
    ·exact ok0 1 (DD)
    ·exact ok0 0 (DD)
   ·subst hkf hk0
    rcases of3 hj with z | z | z <;> rw[z]
    ·exact (hk11 0 DD).2.2.2.1
    ·exact (hk11 1 DD).2.2.2.1
    ·exact (hk11 0 DD).2.2.2.1
   ·subst hkf hk0
    rcases of3 (show j < 3 by lia) with z | z | z <;> rw[z] <;> exact J7 _
   ·subst hkf hk0
    rcases of3 hj with z | z | z <;> rw[z] <;> rfl
   ·have n2:ls≠lk:=λz=>by rw[<-z,els] at nlk7;cases nlk7
    have n3:hd≠lk:=λz=>by rw[<-z,ehd] at nlk7;cases nlk7
    simp only[g8,J1,g9,or_false,not_or,not_false_eq_true,j8,and_true]
    exact⟨⟨λz=>nlh z.symm,n3,nn hd14 hle,nn hd14 nlt14⟩,⟨n2,nn els14 hle,nn els14 nlt14⟩,⟨nn elk14 hle,nn elk14 nlt14⟩,nle⟩
  obtain⟨Pf,hPf⟩:∃Pf,Pf=upF p 2 q:=⟨_,rfl⟩
  obtain⟨Df,hDf⟩:∃Df,Df=upF d 2 d2:=⟨_,rfl⟩
  have hq3:q=Pf 2:=by rw[hPf];exact M8.symm
  rw[<-hPf,<-hDf] at S
  rw[hq3]
  have nhl:hl≠le/\hl≠lt:=by
   obtain⟨_,_,_,_,_,_,e,_,_⟩:=d14
   exact⟨(λz=>by rw[z,hle] at e;cases e),λz=>by rw[z,nlt14] at e;cases e⟩
  clear hPf hDf hq3 d14 up14 elk14 ehd xhd hk14 n01 nq1 kp2' frK lg13 kp1 nm13 hkf hk0 elt ele nlt14 nle s1416 hle hlt kp14 fr14 n13 elk13 s913 l9 d13 s13 s1113 sH lr2 nd2 kp2 fr2 sAB sB sA hq' hq hdx nq elc sC hlc ea0 fa0 fg0 eg0 tg0 ea1 fa1 fg1 eg1 tg1 s711 hk11 hlk9 s911 elk ok0 ht9 hg9 s79 elgs nlh hs7 d7 els
  refine C3 W hW λW hW=>?_
  have m1:1<=m/\m<=4:=by lia
  try clear hm
  refine⟨_,rfl,drw 9 _ _ DD DD S.L.hnd λn H17 n0 n9 k17 d17=>?_⟩
  refine⟨_,rfl,OO,OO,?_⟩
  refine A8o (n:=n.toNat) (λi σ' H'=>∃(as dc:Nat->Addr) (k:Nat->Kst) (dds:List L6) (rs:List PyData) (x11 x12 x13 x14 x15:Option V),σ'=[some (.ref a),some (.ref hd),some (.int ((m:Nat):Int)),some (.int sc),some (.int st),some (.ref ls),some (.ref lgs),some (.ref lk),some (.ref (Pf 2)),some (.ref le),some (.ref lt),x11,x12,x13,x14,x15,none,none,none]/\S95 T.ac hd hl ls lk le lt m Pf Df k0 as dc k dds rs H'/\dds.length<=i) ⟨as,dc,kf,[],[],_,_,_,_,_,rfl,S.draw k17 d17,E1 _⟩ ?_ ?_
  ·clear S k17 d17
   rintro i σ' H0 hi ⟨as,dc,k,dds,rs,x11,x12,x13,x14,x15,rfl,S,hdl⟩
   rw[X3]
   try dsimp only[R7]
   refine T7 λW hW=>?_
   refine⟨2,rfl,DD,DD,?_⟩
   refine A8o (n:=2) (λj σ' H'=>∃(as dc:Nat->Addr) (k:Nat->Kst) (dds:List L6) (rs:List PyData) (x12 x13 x14:Option V),σ'=[some (.ref a),some (.ref hd),some (.int ((m:Nat):Int)),some (.int sc),some (.int st),some (.ref ls),some (.ref lgs),some (.ref lk),some (.ref (Pf 2)),some (.ref le),some (.ref lt),some (.int (0 + ((i:Nat):Int))),x12,x13,x14,x15,none,none,none]/\S95 T.ac hd hl ls lk le lt m Pf Df k0 as dc k dds rs H'/\dds.length<=i + j/\(j=2->dds.length<=i + 1)) ⟨as,dc,k,dds,rs,_,_,_,rfl,S,OO,λz=>by cases z⟩ ?_ ?_
   ·clear S hdl
    rintro j σ' H1 hj ⟨as,dc,k,dds,rs,x12,x13,x14,rfl,S,hdl,_⟩
    rw[X3]
    try dsimp only[R7]
    rw[show (0:Int) + ((j:Nat):Int)=((j:Nat):Int) from B07 _]
    refine T7 λW2 hW2=>?_
    have j3:j < 3:=by lia
    have ix2:∀f:Nat->Addr,atI [V.ref (f 0),V.ref (f 1)] ((j:Nat):Int)=some (.ref (f j)):=λf=>D58 f hj
    have nN:∀{b:Addr},b=hd\/b=ls\/b=lk\/b=le\/b=lt->b∈[hd,ls,lk,le,lt]:=λ{b} h=>by simpa using h
    have few:=S.L.few j hj
    refine⟨_,rfl,_,rfl,_,rfl,ls,_,_,_,rfl,rfl,SqL.of S.els,ix2 as,_,rfl,_,rfl,_,_,rfl,rfl,.inl ⟨DD,DD⟩,?_⟩
    refine⟨λb=>b∉[hd,ls,lk,le,lt],hd,hl,as j,dc j,k j,sc,4 * sc,rfl,S.L.hnd,(λb h z=>h (nN (.inl z))),S.L.sta j hj,S.L.ok j j3,⟨OO,sc1⟩,⟨OO,OO⟩,λdd v H2 dok il tv k2 d2=>?_⟩
    have S2:=S.draw k2 d2
    have tv2:ThV (FD Pf Df [hd,ls,lk,le,lt]) H2 v (A18 dd):=tv.mv λb o g e=>⟨S.L.new g,e⟩
    clear S k2 d2 tv
    try dsimp only
    rw[X3]
    try dsimp only[R7]
    refine C3 W2 hW2 λW2 hW2=>?_
    refine⟨_,rfl,_,rfl,ls,_,_,_,rfl,rfl,SqL.of S2.els,ix2 as,_,rfl,_,as j,dc j,k j,v,dd,rfl,S2.L.sta j hj,OO,tv2.any,dok,λa' dc' H3 sa ndc s3=>?_⟩
    have S3:=S2.keep s3
    have nls2:∀{b:Addr},H2 b=none->b≠ls:=λh z=>by rw[z,S2.els] at h;cases h
    refine⟨_,rfl,_,rfl,ls,_,_,j,rfl,rfl,S3.els,A36 (by show j < 2;exact hj),?_⟩
    obtain⟨H4,hH4⟩:∃H4,H4=upd H3 ls (.lst ([V.ref (as 0),V.ref (as 1)].set j (.ref a'))):=⟨_,rfl⟩
    have els4:H4 ls=some (.lst [.ref (upF as j a' 0),.ref (upF as j a' 1)]):=by
     rw[hH4,B2,D57 _ _ hj]
    have f34:∀b o,H3 b=some o->b≠ls->H4 b=some o:=λb o e n=>by rw[hH4,B4 n];exact e
    have n34:∀b,H4 b=none->H3 b=none:=λb h=>by rw[hH4] at h;exact (A1d h).2
    rw[<-hH4]
    clear hH4
    have nd5:=S3.ndN
    simp only[g8,J1,g9,or_false,not_or,not_false_eq_true,j8,and_true] at nd5
    obtain⟨⟨q1,q2,q3,q4⟩,⟨q5,q6,q7⟩,⟨q8,q9⟩,q10⟩:=nd5
    obtain⟨ve,ee3,te3⟩:=S3.ele
    obtain⟨vt,et3,tt3⟩:=S3.elt
    have fN34:∀b o,H3 b=some o->b∉[hd,ls,lk,le,lt]->H4 b=some o:=λb o e n=>f34 b o e λz=>n (nN (.inr (.inl z)))
    have hd4:Hd H4 hd hl:=by
     obtain⟨ns,p0,b,c,u,v,e1,h,e2⟩:=S3.L.hnd
     refine⟨ns,p0,b,c,u,v,f34 _ _ e1 λz=>?_,h,f34 _ _ e2 q1⟩
     rw[z,S3.els] at e1
     cases ns with
     | nil=>cases e1
     | cons x r=>cases e1
    have elk4:=f34 _ _ S3.elk λz=>q5 z.symm
    have ee4:=f34 _ _ ee3 λz=>q6 z.symm
    have et4:=f34 _ _ et3 λz=>q7 z.symm
    have nN4:∀b∈[hd,ls,lk,le,lt],∃xs,H4 b=some (.lst xs):=λb hb=>by
     simp only[J1,g9,or_false] at hb
     rcases hb with rfl | rfl | rfl | rfl | rfl
     ·obtain⟨_,_,_,_,_,_,_,_,e⟩:=hd4
      exact⟨_,e⟩
     ·exact⟨_,els4⟩
     ·exact⟨_,elk4⟩
     ·exact⟨_,ee4⟩
     ·exact⟨_,et4⟩
    have sa4:O8 (λb=>b∉[hd,ls,lk,le,lt]) H4 a' dc' (J3 (k j) dd).m (J3 (k j) dd).st (J3 (k j) dd).g (J3 (k j) dd).kws:=sa.mv (λb o e n _=>f34 b o e λz=>by
     rw[z,S3.els] at e
     exact nls2 (n _ (Option.some.inj e).symm) z) λb hb=>S2.L.hF b hb
    have L4:L95 T.ac hd hl [hd,ls,lk,le,lt] (upF as j a') (upF dc j dc') Pf Df (upF k j (J3 (k j) dd)) k H4:=(S3.L.mvN fN34 hd4 nN4).put hj sa4 λl hl z=>by
     obtain⟨_,kw,e4,_⟩:=S2.L.kp l hl
     rw[<-z,ndc] at e4;cases e4
    have te4:=B0w te3 fN34
    have tt4:=B0w tt3 fN34
    have tv4:ThV (FD Pf Df [hd,ls,lk,le,lt]) H4 v (A18 dd):=tv2.mv λb o g e=>⟨g,fN34 _ _ (s3 _ _ e) g.1⟩
    have hrun:=S3.run
    have hk2:=S3.k2
    have hkm:=S3.km
    have hnd':=S3.ndN
    clear S3 S2 tv2 sa ndc s3 te3 tt3 ee3 et3 f34 n34 fN34 nls2 sa4
    refine C3 W2 hW2 λW2 hW2=>?_
    refine⟨_,rfl,_,rfl,lk,_,_,_,rfl,rfl,SqL.of elk4,ix2 Pf,_,rfl,λb=>b∉[hd,ls,lk,le,lt],Pf j,Df j,k j,v,dd,rfl,L4.hF,L4.kp j j3,tv4.any,L4.ok j j3,(L4.low j j3).tab.len,dok,λr v5 k' H5 fp mo kp5 nw kn tv5 nd5 fr5=>?_⟩
    try dsimp only
    rw[X3]
    try dsimp only[R7]
    have mo':=mo
    obtain⟨bb,lb,hr',hk'⟩:=mo
    have e4k:k'.m=(J3 (k j) dd).m/\k'.st=(J3 (k j) dd).st/\k'.g=(J3 (k j) dd).g/\k'.kws=(J3 (k j) dd).kws/\k'.low=bb:=by subst hk';exact⟨rfl,rfl,rfl,rfl,rfl⟩
    have ok':KOk k'.m k'.st k'.g k'.kws:=by
     rw[e4k.1,e4k.2.1,e4k.2.2.1,e4k.2.2.2.1]
     exact A4c (L4.ok j j3) dok
    have low':Y4 k'.m k'.st k'.g k'.kws k'.low:=by
     rw[e4k.1,e4k.2.1,e4k.2.2.1,e4k.2.2.2.1,e4k.2.2.2.2]
     exact lb
    have few':k'.kws.length<=8:=by
     rw[e4k.2.2.2.1]
     exact D39 dok il few
    have km':k'.m=m:=by
     rw[e4k.1,show (J3 (k j) dd).m=(k j).m by cases dd <;> rfl]
     exact hkm j j3
    have skq:∀l,(upF k j (J3 (k j) dd) l).m=(upF k j k' l).m/\(upF k j (J3 (k j) dd) l).st=(upF k j k' l).st/\(upF k j (J3 (k j) dd) l).g=(upF k j k' l).g/\(upF k j (J3 (k j) dd) l).kws=(upF k j k' l).kws:=λl=>by
     by_cases c:l=j
     ·subst c
      rw[M8,M8]
      exact⟨e4k.1.symm,e4k.2.1.symm,e4k.2.2.1.symm,e4k.2.2.2.1.symm⟩
     ·rw[L7 c,L7 c]
      exact⟨rfl,rfl,rfl,rfl⟩
    have kms:∀l,l < 3->(upF k j k' l).m=m:=λl hl=>by
     by_cases c:l=j
     ·subst c;rw[M8];exact km'
     ·rw[L7 c];exact hkm l hl
    have k2s:upF k j k' 2=k0:=by rw[L7 (OO)];exact hk2
    have rdp:Dp 4 r:=by
     subst hr'
     have hl1:=(L4.low j j3).tab.len
     have hl2:=lb.tab.len
     have hm1:(J3 (k j) dd).m=m:=by rw[<-e4k.1];exact km'
     have hm2:=hkm j j3
     have nb:∀x y:Tb,x.length<=900->Dp 3 (.list (numL (A1e x y))):=λx y hx=>.lst (by
      rw[n8,C1h]
      exact T8 (A8a _ _) (by rw[R6];exact hx)) (B5j _)
     exact .tup (by show 2<=900;decide) (.cons (nb _ _ (by rw[hl2,hm1];lia)) (.cons (nb _ _ (by rw[hl1,hm2];lia)) .nil))
    have kpj:=L4.kp j j3
    have l45:∀{b:Addr} {xs:List V},H4 b=some (.lst xs)->H5 b=some (.lst xs):=λe=>fr5 _ _ e (F6 kpj e).1 (F6 kpj e).2
    have nN5:∀b∈[hd,ls,lk,le,lt],∃xs,H5 b=some (.lst xs):=λb hb=>by
     obtain⟨xs,x⟩:=nN4 b hb
     exact⟨xs,l45 x⟩
    have hd5:=C1i L4.hnd kpj fr5
    have L5:=L4.fr2 j3 kp5 (λb o e _ n1 n2=>fr5 b o e n1 n2) hd5 nN5 ok' low' λ_=>few'
    refine C3 W2 hW2 λW2 hW2=>?_
    refine⟨fun σ' H'=>σ'=[some (.ref a),some (.ref hd),some (.int ((m:Nat):Int)),some (.int sc),some (.int st),some (.ref ls),some (.ref lgs),some (.ref lk),some (.ref (Pf 2)),some (.ref le),some (.ref lt),some (.int (0 + ((i:Nat):Int))),some (.int ((j:Nat):Int)),some v,some v5,x15,none,none,none]/\H5=H',?_,?_⟩
    ·refine⟨_,rfl,rfl,_,rfl,?_⟩
     rw[A64 tv5.th,hr']
     exact D0 ⟨rfl,rfl⟩
    rintro σ' _ ⟨rfl,rfl⟩
    subst hW2
    refine⟨_,rfl,rfl,_,rfl,?_⟩
    rcases (show j=1\/j=0 by lia) with e | e
    ·subst e
     rw[show decide (V.int ((1:Nat):Int)=V.int 0)=false from decide_eq_false (DD)]
     refine D0 ⟨upF as 1 a',upF dc 1 dc',upF k 1 k',dds,rs,_,_,_,rfl,⟨L5.skq skq,l45 els4,l45 elk4,⟨ve,l45 ee4,B0x te4 DD fr5⟩,⟨vt,l45 et4,B0x tt4 DD fr5⟩,hrun,k2s,kms,hnd'⟩,OO,λ_=>hdl⟩
    ·subst e
     rw[show decide (V.int ((0:Nat):Int)=V.int 0)=true from decide_eq_true rfl]
     refine F5 ?_
     have lve:ve.length<=900:=by rw[te4.len,C1];lia
     have lvt:vt.length<=900:=by rw[tt4.len,<-hrun.len];lia
     refine⟨_,rfl,.inl ⟨rfl,ve,SqL.of (l45 ee4)⟩,_,rfl,le,ve,v,rfl,rfl,l45 ee4,by rw[sizeLine_eq];lia,?_⟩
     obtain⟨H6,hH6⟩:∃H6,H6=upd H5 le (.lst (ve++[v])):=⟨_,rfl⟩
     have e66:H6 le=some (.lst (ve++[v])):=by rw[hH6];exact B2
     have f56:∀b o,H5 b=some o->b≠le->H6 b=some o:=λb o e n=>by rw[hH6,B4 n];exact e
     have n56:∀b,H6 b=none->H5 b=none/\b≠le:=λb h=>by rw[hH6] at h;exact⟨(A1d h).2,(A1d h).1⟩
     have b65:∀b o,H6 b=some o->b≠le->H5 b=some o:=λb o e n=>by rw[hH6,B4 n] at e;exact e
     rw[<-hH6]
     clear hH6
     have nfe:∀{b c:Addr} {o:HO},b∈fp->H4 c=some o->b≠c:=λhb e z=>by rw[z] at hb;rw[nw _ hb] at e;cases e
     have tv6:FpV TT0 H6 v5 r fp:=tv5.mvm λb o g e h=>⟨trivial,f56 _ _ e (by
      rcases h with h | ⟨xs,rfl⟩
      ·exact nfe h ee4
      ·intro z;rw[z,l45 ee4] at e;cases e)⟩
     refine⟨_,rfl,.inl ⟨rfl,vt,SqL.of (f56 _ _ (l45 et4) λz=>q10 z.symm)⟩,_,rfl,v5,r,rfl,tv6.th.any,rdp,λv' H7 f7 t7 nd7 s7=>?_⟩
     have et7:=s7 _ _ (f56 _ _ (l45 et4) λz=>q10 z.symm)
     refine⟨lt,vt,v',rfl,rfl,et7,by rw[sizeLine_eq];lia,?_⟩
     obtain⟨H8,hH8⟩:∃H8,H8=upd H7 lt (.lst (vt++[v'])):=⟨_,rfl⟩
     have e88:H8 lt=some (.lst (vt++[v'])):=by rw[hH8];exact B2
     have f78:∀b o,H7 b=some o->b≠lt->H8 b=some o:=λb o e n=>by rw[hH8,B4 n];exact e
     have n78:∀b,H8 b=none->H7 b=none:=λb h=>by rw[hH8] at h;exact (A1d h).2
     rw[<-hH8]
     clear hH8
     have lfp:∀b∈fp,∃xs,H6 b=some (.lst xs):=λb hb=>(tv6.mem b hb).2
     have tv8:FpV TT0 H8 v5 r fp:=tv6.mvm λb o g e h=>⟨trivial,f78 _ _ (s7 _ _ e) (by
      rcases h with h | ⟨xs,rfl⟩
      ·exact nfe h et4
      ·intro z;rw[z,f56 _ _ (l45 et4) (λz=>q10 z.symm)] at e;cases e)⟩
     have lf8:∀b∈fp,∃xs,H8 b=some (.lst xs):=λb hb=>(tv8.mem b hb).2
     refine⟨_,rfl,v5,r,fp,rfl,tv8,nd5,rdp,λH9 f9=>?_⟩
     have f59:∀b o,H5 b=some o->b≠le->b≠lt->b∉fp->H9 b=some o:=λb o e n1 n2 n3=>f9.1 _ _ (f78 _ _ (s7 _ _ (f56 _ _ e n1)) n2) n3
     have ff:∀{b:Addr} {o:HO},H4 b=some o->b∉fp:=λe z=>by rw[nw _ z] at e;cases e
     have f49:∀b o,H4 b=some o->b∉[hd,ls,lk,le,lt]->b≠Pf 0->b≠Df 0->H9 b=some o:=λb o e n n1 n2=>f59 _ _ (fr5 _ _ e n1 n2) (λz=>n (nN (.inr (.inr (.inr (.inl z)))))) (λz=>n (nN (.inr (.inr (.inr (.inr z)))))) (ff e)
     have l49:∀{b:Addr} {xs:List V},H4 b=some (.lst xs)->b≠le->b≠lt->H9 b=some (.lst xs):=λe n1 n2=>f59 _ _ (l45 e) n1 n2 (ff e)
     have ee9:H9 le=some (.lst (ve++[v])):=f9.1 _ _ (f78 _ _ (s7 _ _ e66) q10) (ff ee4)
     have et9:H9 lt=some (.lst (vt++[v'])):=f9.1 _ _ e88 (ff et4)
     have els9:=l49 els4 q6 q7
     have elk9:=l49 elk4 q8 q9
     have hd9:Hd H9 hd hl:=by
      obtain⟨_,_,_,_,_,_,g1,_,g2⟩:=hd4
      obtain⟨ns',p0,b',c',u',v',e1,h',e2⟩:=hd5
      exact⟨ns',p0,b',c',u',v',f59 _ _ e1 nhl.1 nhl.2 (ff g1),h',f59 _ _ e2 q3 q4 (ff g2)⟩
     have nN9:∀b∈[hd,ls,lk,le,lt],∃xs,H9 b=some (.lst xs):=λb hb=>by
      simp only[J1,g9,or_false] at hb
      rcases hb with rfl | rfl | rfl | rfl | rfl
      ·obtain⟨_,_,_,_,_,_,_,_,e⟩:=hd9
       exact⟨_,e⟩
      ·exact⟨_,els9⟩
      ·exact⟨_,elk9⟩
      ·exact⟨_,ee9⟩
      ·exact⟨_,et9⟩
     have nfN:∀{b:Addr},b∈fp->b∉[hd,ls,lk,le,lt]:=λhb z=>by
      obtain⟨xs,x⟩:=nN4 _ z
      exact ff x hb
     have kp9:D1 (λb=>b∉[hd,ls,lk,le,lt]) T.ac H9 (Pf 0) (Df 0) k':=by
      have h1:=A4g kp5 kn
      have h2:D1 (λb=>b∉[hd,ls,lk,le,lt]/\b∉fp) T.ac H8 (Pf 0) (Df 0) k':=h1.mv (λb o e n=>by
       have nb:b≠le/\b≠lt:=⟨λz=>by
        rw[z,l45 ee4] at e
        exact (n _ (Option.some.inj e).symm).1 (by rw[z];exact nN (.inr (.inr (.inr (.inl rfl))))),λz=>by
        rw[z,l45 et4] at e
        exact (n _ (Option.some.inj e).symm).1 (by rw[z];exact nN (.inr (.inr (.inr (.inr rfl)))))⟩
       exact f78 _ _ (s7 _ _ (f56 _ _ e nb.1)) nb.2) λ_ h=>h
      exact A77 h2 f9 lf8 (λb g=>g.2) λb g=>g.1
     have L9:=(L4.fr2 j3 kp9 f49 hd9 nN9 ok' low' λ_=>few').skq skq
     have te9:A9 (FD Pf Df [hd,ls,lk,le,lt]) H9 (ve++[v]) ((dds++[dd]).map A18):=by
      rw[P2]
      have mv:∀b o,FD Pf Df [hd,ls,lk,le,lt] b->H4 b=some o->FD Pf Df [hd,ls,lk,le,lt] b/\H9 b=some o:=λb o g e=>⟨g,f49 b o e g.1 (g.2 0 DD).1 (g.2 0 DD).2⟩
      exact (te4.mv mv).append (.cons (tv4.mv mv) .nil)
     have tt9:A9 (FD Pf Df [hd,ls,lk,le,lt]) H9 (vt++[v']) (rs++[r]):=by
      have mv:∀b o,FD Pf Df [hd,ls,lk,le,lt] b->H4 b=some o->FD Pf Df [hd,ls,lk,le,lt] b/\H9 b=some o:=λb o g e=>⟨g,f49 b o e g.1 (g.2 0 DD).1 (g.2 0 DD).2⟩
      refine (tt4.mv mv).append (.cons ?_ .nil)
      have fd5:∀b,F9 H6 b->FD Pf Df [hd,ls,lk,le,lt] b:=λb h=>L5.new (by
       rcases h with h | ⟨xs,h⟩
       ·exact .inl (n56 b h).1
       ·exact .inr ⟨xs,b65 _ _ h λz=>by rw[z,e66] at h;cases h⟩)
      refine (t7.mvm λb o g e h=>⟨fd5 b g,f9.1 _ _ (f78 _ _ e λz=>(fd5 b g).1 (nN (.inr (.inr (.inr (.inr z)))))) λz=>?_⟩).th
      obtain⟨ys,y⟩:=lfp b z
      rcases h with h | ⟨xs,rfl⟩
      ·obtain⟨g',xs,x⟩:=t7.mem b h
       rw[A1c s7 g' x] at y;cases y
      ·rw[s7 _ _ y] at e;cases e
     exact⟨upF as 0 a',upF dc 0 dc',upF k 0 k',dds++[dd],rs++[r],_,_,_,rfl,⟨L9,els9,elk9,⟨_,ee9,te9⟩,⟨_,et9,tt9⟩,hrun.snoc dok mo',k2s,kms,hnd'⟩,by rw[P0];show dds.length + 1<=i + 1;lia,λz=>OO⟩
   ·rintro σ' H1 ⟨as,dc,k,dds,rs,x12,x13,x14,rfl,S,_,hdl⟩
    have hdl:=hdl rfl
    subst hW
    refine⟨_,rfl,drw 3 _ _ DD DD S.L.hnd λn2 H2 n20 n23 k2 d2=>?_⟩
    refine⟨_,rfl,OO,OO,?_⟩
    refine A8o (n:=n2.toNat) (λj σ' H'=>(∃x15,σ'=[some (.ref a),some (.ref hd),some (.int ((m:Nat):Int)),some (.int sc),some (.int st),some (.ref ls),some (.ref lgs),some (.ref lk),some (.ref (Pf 2)),some (.ref le),some (.ref lt),some (.int (0 + ((i:Nat):Int))),x12,x13,x14,x15,none,none,none])/\S95 T.ac hd hl ls lk le lt m Pf Df k0 as dc k dds rs H') ⟨⟨_,rfl⟩,S.draw k2 d2⟩ ?_ ?_
    ·clear S k2 d2
     rintro j σ' H3 hj ⟨⟨x15,rfl⟩,S⟩
     rw[X3]
     try dsimp only[R7]
     refine⟨_,rfl,lk,_,_,_,rfl,rfl,SqL.of S.elk,rfl,_,rfl,drw 8 _ _ DD DD S.L.hnd λw1 H4 w10 w18 k4 d4=>?_⟩
     have S4:=S.draw k4 d4
     refine⟨_,rfl,_,rfl,drw ((m:Nat):Int) _ _ OO OO d4 λpl H5 pl0 plm k5 d5=>?_⟩
     have S5:=S4.draw k5 d5
     obtain⟨w2,rfl⟩:∃w2:Nat,w1=((w2:Nat):Int):=⟨w1.toNat,OO⟩
     obtain⟨pn,rfl⟩:∃pn:Nat,pl=((pn:Nat):Int):=⟨pl.toNat,OO⟩
     obtain⟨⟨gl,ug,e1,f1,f2,e2,t2⟩,_⟩:=S5.L.sta 0 (DD)
     have okk:=S5.L.ok 0 (DD)
     refine⟨_,rfl,ls,_,_,_,rfl,rfl,SqL.of S5.els,rfl,as 0,_,_,_,rfl,rfl,SqL.of e1,rfl,?_⟩
     refine⟨λb=>b∉[hd,ls,lk,le,lt],Pf 0,Df 0,k 0,w2,pn,_,(k 0).g,rfl,S5.L.hF,S5.L.kp 0 DD,OO,by rw[S5.km 0 (DD)];lia,.lst trivial e2 (E6 t2),okk.gt,okk,λr v H6 fp ar kp6 nw kn tv nd fr=>?_⟩
     refine⟨v,r,fp,rfl,tv,nd,B5l okk (S5.L.low 0 DD).tab.len ar,λH7 f7=>⟨⟨_,rfl⟩,?_⟩⟩
     exact S5.ask DD (A77 (A4g kp6 kn) f7 (λb hb=>(tv.mem b hb).2) (λb g=>g.2) λb g=>g.1) λb o e n1 n2=>f7.1 _ _ (fr _ _ e n1 n2) λz=>by rw[nw b z] at e;cases e
    ·rintro σ' H3 ⟨⟨x15,rfl⟩,S⟩
     exact⟨as,dc,k,dds,rs,_,_,_,_,_,rfl,S,hdl⟩
  rintro σ' H18 ⟨as,dc,k,dds,rs,x11,x12,x13,x14,x15,rfl,S,hdl⟩
  have hdl9:dds.length<=9:=by lia
  clear hdl
  have hN5:=S.ndN
  refine C3 W hW λW hW=>?_
  obtain⟨ve,ele,tle⟩:=S.ele
  obtain⟨vt,elt,tlt⟩:=S.elt
  have hrl:=S.run.len
  have hve:ve.length=dds.length:=by rw[tle.len,C1]
  have l18:∀{Hn:Hp} {b:Addr} {xs:List V},Frp (Pf 2) (Df 2) H18 Hn->H18 b=some (.lst xs)->Hn b=some (.lst xs):=λf e=>f _ _ e (F6 (S.L.kp 2 DD) e).1 (F6 (S.L.kp 2 DD) e).2
  refine⟨_,rfl,le,rfl,⟨_,SqL.of ele⟩,?_⟩
  refine A0a (xs:=ve) (λi ys Hn=>Frp (Pf 2) (Df 2) H18 Hn/\∃kc fps,D1 (λb=>b∉[hd,ls,lk,le,lt]) T.ac Hn (Pf 2) (Df 2) kc/\KOk kc.m kc.st kc.g kc.kws/\Y4 kc.m kc.st kc.g kc.kws kc.low/\kc.m=m/\Run kc (dds.drop i) (rs.drop i) (k 0)/\E7 TT0 Hn ys (rs.take i) fps) (by rw[sizeLine_eq];lia) ⟨λb o e _ _=>e,k 2,[],S.L.kp 2 DD,S.L.ok 2 DD,S.L.low 2 DD,S.km 2 DD,by rw[S.k2];exact S.run,.nil⟩ (λi ys Hn hi h=>by
   obtain⟨f,kc,fps,_,_,_,_,_,t⟩:=h
   exact⟨by rw[t.len,b4];lia,SqL.of (l18 f ele)⟩) (λi x ys Hn hx h ca=>?_) ?_
  ·obtain⟨f,kc,fps,kpc,okc,lwc,kmc,run,tys⟩:=h
   have hi:i < ve.length:=(V9.mp hx).1
   obtain⟨dt,hdt,tx⟩:=tle.get hx
   rw[L8] at hdt
   obtain⟨dd,hdd,rfl⟩:=A0v.mp hdt
   have hi2:i < dds.length:=by lia
   have hdd2:dds[i]=dd:=(V9.mp hdd).2
   rw[A6h hi2,hdd2,A6h (show i < rs.length by lia)] at run
   cases run with
   | @cons _ _ _ k1 _ _ _ dok mo run=>
   have hrt:rs.take (i + 1)=rs.take i++[rs[i]]:=List.take_succ_eq_append_getElem (OO)
   rw[hrt]
   obtain⟨tx',ut,rfl,gx,ex,tux⟩:=V5 tx
   obtain⟨v1,v2,rfl,tv1,tv2⟩:=Q1 tux
   have exn:=f _ _ ex (O1 (S.L.kp 2 DD) ex).1 (O1 (S.L.kp 2 DD) ex).2
   cases (show ThV _ H18 v1 (.str dd.word) from tv1)
   have tv2n:ThV TT0 Hn v2 (.list dd.args):=(tv2.mv λb o g e=>⟨g,f b o e (g.2 2 DD).1 (g.2 2 DD).2⟩).any
   have nNn:∀b,b∈[hd,ls,lk,le,lt]->∃xs,Hn b=some (.lst xs):=λb hb=>by
    obtain⟨xs,y⟩:=S.L.nN b hb
    exact⟨xs,l18 f y⟩
   unfold b9
   refine F5 ⟨_,rfl,_,rfl,.inr (.inl ⟨tx',_,0,_,rfl,rfl,SqT.of exn,rfl,?_⟩)⟩
   refine⟨_,rfl,.inr (.inl ⟨tx',_,1,v2,rfl,rfl,SqT.of exn,rfl,?_⟩)⟩
   refine⟨v2,_,rfl,tv2n,C1z kc dok okc.m2,λva H3 fa ta nda s3=>⟨by show 2<=sizeLine;decide,λt ht=>?_⟩⟩
   have s4:=Same.upd (o:=.tup [.str dd.word,va]) ht
   have s34:=s3.tr s4
   refine⟨λb=>b∉[hd,ls,lk,le,lt],Pf 2,Df 2,kc,.ref t,dd,rfl,(λb hb z=>by
    obtain⟨xs,y⟩:=nNn b z
    rw[s34 _ _ y] at hb;cases hb),kpc.same s34,.tup trivial B2 (.cons (.str _) (.cons (ta.th.any.keep s4) .nil)),okc,lwc.tab.len,dok,λr' v5 k5 H5 mo5 kp5 tv5 fr5 ap5=>?_⟩
   obtain⟨er,ek⟩:=D54 mo mo5
   obtain⟨bb,lb,hr',hk'⟩:=mo
   have hm1:(J3 kc dd).m=m:=by rw[show (J3 kc dd).m=kc.m by cases dd <;> rfl];exact kmc
   have rdp:Dp 4 r':=by
    rw[<-er,hr']
    have nb:∀x y:Tb,x.length<=900->Dp 3 (.list (numL (A1e x y))):=λx y hx=>.lst (by
     rw[n8,C1h]
     exact T8 (A8a _ _) (by rw[R6];exact hx)) (B5j _)
    exact .tup (by show 2<=900;decide) (.cons (nb _ _ (by rw[lb.tab.len,hm1];lia)) (.cons (nb _ _ (by rw[lwc.tab.len,kmc];lia)) .nil))
   refine⟨v5,r',rfl,tv5.any,rdp,λv6 H6 f6 t6 nd6 s6=>⟨λb o e n1 n2=>s6 _ _ (fr5 _ _ (s34 _ _ (f _ _ e n1 n2)) n1 n2),k5,fps++(f6++[]),kp5.same s6,?_,?_,?_,?_,?_⟩⟩
   ·rw[<-ek,hk']
    exact A4c okc dok
   ·rw[<-ek,hk']
    exact lb
   ·rw[<-ek,hk']
    exact hm1
   ·rw[<-ek];exact run
   ·rw[er]
    refine E7.append (tys.mvm λb o g e h=>⟨trivial,s6 _ _ ?_⟩) (.cons (t6.mvm λb o g e _=>⟨trivial,e⟩) .nil)
    have kq:=kpc.same s34
    rcases h with h | ⟨xs,rfl⟩
    ·obtain⟨_,xs,y⟩:=tys.mem b h
     rw[e] at y
     have e':=s34 _ _ e
     rw[Option.some.inj y] at e' ⊢
     exact fr5 _ _ e' (F6 kq e').1 (F6 kq e').2
    ·have e':=s34 _ _ e
     exact fr5 _ _ e' (O1 kq e').1 (O1 kq e').2
  rintro ys H19 ⟨f19,kc,fps,kpc,okc,lwc,kmc,run,tys⟩ ld hld
  rw[hve,B50,hrl,B50] at run
  rw[hve,hrl,A2j] at tys
  have ekc:kc=k 0:=by cases run;rfl
  subst ekc
  try dsimp only[R7]
  have sd:=Same.upd (o:=.lst ys) hld
  obtain⟨H20,hH20⟩:∃H20,H20=upd H19 ld (.lst ys):=⟨_,rfl⟩
  have eld:H20 ld=some (.lst ys):=by rw[hH20];exact B2
  rw[<-hH20] at sd ⊢
  clear hH20 hld
  have kp18:=S.L.kp 2 (DD)
  have L20:L95 T.ac hd hl [hd,ls,lk,le,lt] as dc Pf Df k (upF k 2 (k 0)) H20:=by
   have h:=S.L.fr (i:=2) DD kpc f19 okc lwc (λz=>absurd z DD)
   exact h.keep sd
  have els20:=sd _ _ (l18 f19 S.els)
  have elk20:=sd _ _ (l18 f19 S.elk)
  have elt20:=sd _ _ (l18 f19 elt)
  have LR:F4 3 (.list rs):=F4.lst (D56 S.run)
  have tlt20:A9 TT0 H20 vt rs:=(tlt.mv λb o g e=>⟨g,sd _ _ (f19 b o e (g.2 2 DD).1 (g.2 2 DD).2)⟩).any
  have tld20:A9 TT0 H20 ys rs:=tys.th.keep sd
  have kmm:=S.km 0 (DD)
  clear tys tlt S f19 sd kp18 run hve hrl tle ele elt l18 kpc
  have al:∀(i:Nat),i=0\/i=2->∀(bk tr:Bool) (Hx:Hp) (Qv:VK),L95 T.ac hd hl [hd,ls,lk,le,lt] as dc Pf Df k (upF k 2 (k 0)) Hx->Hx ls=some (.lst [.ref (as 0),.ref (as 1)])->Hx lk=some (.lst [.ref (Pf 0),.ref (Pf 1)])->(∀e H',L95 T.ac hd hl [hd,ls,lk,le,lt] as dc Pf Df k (upF k 2 (k 0)) H'->H' ls=some (.lst [.ref (as 0),.ref (as 1)])->H' lk=some (.lst [.ref (Pf 0),.ref (Pf 1)])->A57 H' e (k 0) tr (ksF bk (k 0).m)->(∀e0 tr0 b0,A57 Hx e0 (k 0) tr0 (ksF b0 (k 0).m)->A57 H' e0 (k 0) tr0 (ksF b0 (k 0).m))->Qv (.ref e) H')->C12 T.ac [.ref (Pf i),.ref (as 0),.bl bk,.bl tr] Hx Qv E0:=λi hi bk tr Hx Qv L els elk q=>by
   have i3:i < 3:=by lia
   have ki:upF k 2 (k 0) i=k 0:=by rcases hi with rfl | rfl <;> rfl
   have kpi:=L.kp i i3
   rw[ki] at kpi
   obtain⟨⟨gl,ug,e1,f1,f2,e2,t2⟩,_⟩:=L.sta 0 (DD)
   refine⟨λb=>b∉[hd,ls,lk,le,lt],Pf i,Df i,as 0,gl,k 0,_,ug,bk,tr,rfl,L.hF,kpi,(L.low 0 DD).tab.len,e1,e2,by rw[t2.len,Y2];exact okc.gt.len,okc,λe H' kp' fa ne fr=>?_⟩
   refine q e H' (L.same_k i3 (by rw[ki];exact kp') fr) (fr _ _ els (F6 kpi els).1 (F6 kpi els).2) (fr _ _ elk (F6 kpi elk).1 (F6 kpi elk).2) fa λe0 tr0 b0 hf=>?_
   obtain⟨kvs,h1,h2⟩:=hf
   refine⟨kvs,fr _ _ h1 (B5m kpi h1).1 (B5m kpi h1).2,h2.mv λb o x hx=>?_⟩
   rcases hx with ⟨xs,rfl⟩ | ⟨xs,rfl⟩
   ·exact fr _ _ x (F6 kpi x).1 (F6 kpi x).2
   ·exact fr _ _ x (O1 kpi x).1 (O1 kpi x).2
  have hlow:=lwc.tab.len
  refine C3 W hW λW hW=>?_
  refine⟨fun σ' H'=>σ'=[some (.ref a),some (.ref hd),some (.int ((m:Nat):Int)),some (.int sc),some (.int st),some (.ref ls),some (.ref lgs),some (.ref lk),some (.ref (Pf 2)),some (.ref le),some (.ref lt),x11,x12,x13,x14,x15,some (.ref ld),none,none]/\H20=H',?_,?_⟩
  ·refine⟨_,rfl,_,rfl,_,_,ThV.dat (F:=TT0) (.lst trivial elt20 tlt20) LR.1,ThV.dat (F:=TT0) (.lst trivial eld tld20) LR.1,LR.1,LR.1,LR.dep DD _,?_⟩
   rw[LR.same]
   exact⟨_,rfl,D0 ⟨rfl,rfl⟩⟩
  rintro σ' _ ⟨rfl,rfl⟩
  clear tlt20 tld20 elt20 eld
  refine C3 W hW λW hW=>?_
  refine⟨_,rfl,drw 2 _ _ DD DD L20.hnd λrb H21 _ _ k21 d21=>⟨rfl,?_⟩⟩
  have nd5:=hN5
  simp only[g8,J1,g9,or_false,not_or,not_false_eq_true,j8,and_true] at nd5
  obtain⟨⟨q1,q2,q3,q4⟩,_⟩:=nd5
  have L21:=L20.draw k21 d21
  have els21:=k21 _ _ els20 λz=>q1 z.symm
  have elk21:=k21 _ _ elk20 λz=>q2 z.symm
  clear L20 k21 d21 els20 elk20
  generalize decide (V.int rb=V.int 0)=back
  try dsimp only
  rw[X3]
  try dsimp only[R7]
  refine C3 W hW λW hW=>?_
  refine⟨_,rfl,lk,_,_,_,rfl,rfl,SqL.of elk21,rfl,_,rfl,ls,_,_,_,rfl,rfl,SqL.of els21,rfl,_,rfl,?_⟩
  dsimp only[W6,tC,V1,Y6,A0t,T9]
  refine al 0 (.inl rfl) back false _ _ L21 els21 elk21 λe1 H22 L22 els22 elk22 fa1 _=>?_
  clear L21 els21 elk21
  try dsimp only
  rw[X3]
  try dsimp only[R7]
  refine C3 W hW λW hW=>?_
  refine⟨fun σ' H'=>σ'=[some (.ref a),some (.ref hd),some (.int ((m:Nat):Int)),some (.int sc),some (.int st),some (.ref ls),some (.ref lgs),some (.ref lk),some (.ref (Pf 2)),some (.ref le),some (.ref lt),x11,x12,x13,x14,x15,some (.ref ld),some (.bl back),some (.ref e1)]/\L95 T.ac hd hl [hd,ls,lk,le,lt] as dc Pf Df k (upF k 2 (k 0)) H'/\H' ls=some (.lst [.ref (as 0),.ref (as 1)])/\H' lk=some (.lst [.ref (Pf 0),.ref (Pf 1)]),?_,?_⟩
  ·refine⟨_,rfl,_,rfl,_,rfl,ls,_,_,_,rfl,rfl,SqL.of els22,rfl,_,rfl,back,rfl,?_⟩
   dsimp only[W6,tC,V1,Y6,A0t,T9]
   refine al 2 (.inr rfl) (!back) false _ _ L22 els22 elk22 λe2 H23 L23 els23 elk23 fa2 mv=>?_
   try dsimp only
   refine C17 okc hlow (mv _ _ _ fa1) fa2 ?_
   exact⟨false,rfl,D0 ⟨rfl,L23,els23,elk23⟩⟩
  rintro σ' H23 ⟨rfl,L23,els23,elk23⟩
  subst hW
  refine⟨_,rfl,lk,_,_,_,rfl,rfl,SqL.of elk23,rfl,_,rfl,ls,_,_,_,rfl,rfl,SqL.of els23,rfl,_,rfl,?_⟩
  dsimp only[W6,tC,V1,Y6,A0t,T9]
  refine al 0 (.inl rfl) back true _ _ L23 els23 elk23 λe3 H24 L24 els24 elk24 fa3 _=>?_
  try dsimp only
  refine⟨_,rfl,lk,_,_,_,rfl,rfl,SqL.of elk24,rfl,_,rfl,ls,_,_,_,rfl,rfl,SqL.of els24,rfl,_,rfl,back,rfl,?_⟩
  try dsimp only[W6,tC,V1,Y6,A0t,T9]
  refine al 0 (.inl rfl) (!back) true _ _ L24 els24 elk24 λe4 H25 L25 _ _ fa4 mv=>?_
  try dsimp only
  refine C17 okc hlow (mv _ _ _ fa3) fa4 ?_
  exact told H25
theorem all_mk {l:PySem.W.OpenLaw} {w:World} {K:B0} {h:Heap} {mg:Str->Option Value} {fa:Addr} (X:K.In h) (G:h.Ns mainGlobals mg) (hfa:mg "law" = some (.ref fa))
  (h0:FH K "is_whole" B25)
  (h1:FH K "is_store" B26)
  (h2:FH K "is_level" B27)
  (h3:FH K "stepped" B28)
  (h4:FH K "levels_along" B29)
  (h5:FH K "is_place" B3a)
  (h6:FH K "is_change" B3b)
  (h7:FH K "is_way" B3c)
  (h8:FH K "turned_land" A9q)
  (h9:FH K "changes_of" A9r)
  (h10:FH K "most_taken" A9s)
  (h11:FH K "is_table" A9t)
  (h12:FH K "is_more" B3d)
  (h13:FH K "behind_way" B3e)
  (h14:FH K "is_within" B3f)
  (h15:FH K "effect_of_none" B3g)
  (h16:FH K "effect_of_one" B3h)
  (h17:FH K "effect_of" B3i)
  (h18:FH K "passed" B3j)
  (h19:FH K "joined" B3k)
  (h20:FH K "first_row" B3l)
  (h21:FH K "row_behind" B3m)
  (h22:FH K "walk_to" B3n)
  (h23:FH K "behind_ways" B3o)
  (h24:FH K "behind_part" B3p)
  (h25:FH K "end_of" B3q)
  (h26:FH K "backward" A9u)
  (h27:FH K "rows_from" B3r)
  (h28:FH K "still_rises" B3s)
  (h29:FH K "rising_walk" A9v)
  (h30:FH K "parted_at_round" A9w)
  (h31:FH K "parts_by" B3t)
  (h32:FH K "filling_parts" B3u)
  (h33:FH K "settled" A9x)
  (h34:FH K "highest" B3v)
  (h35:FH K "trip_to" A9y)
  (h36:FH K "trips_to" A9z)
  (h37:FH K "lacking" A90)
  (h38:FH K "least" B3w)
  (h39:FH K "trips_on" A91)
  (h40:FH K "base_at" B3x)
  (h41:FH K "has_enough" B3y)
  (h42:FH K "comes_through" B3z)
  (h43:FH K "store_enough" B30)
  (h44:FH K "least_store" B31)
  (h45:FH K "is_label" B32)
  (h46:FH K "places_below" A92)
  (h47:FH K "_law_hand" B4h)
  (h48:FH K "_law_next" B4i)
  (h49:FH K "_law_take" B4j)
  (h50:FH K "_law_draw" B4k)
  (h51:FH K "_law_scale" B4l)
  (h52:FH K "_law_change" B4m)
  (h53:FH K "_law_store" B4n)
  (h54:FH K "_law_table" A95)
  (h55:FH K "_law_state" B4o)
  (h56:FH K "_law_deed" A96)
  (h57:FH K "_law_after" B4p)
  (h58:FH K "_law_do" B4q)
  (h59:FH K "_law_spoil" B4r)
  (h60:FH K "_law_copied" A7n)
  (h61:FH K "_law_ask" B4s)
  (h62:FH K "_law_handed" B4t)
  (h63:FH K "_law_all" A97)
  (h64:FH K "_law_begun" A98)
  {f65:Addr} {od65 an65:Option Addr} {sl65:Array (Option Value)} {oc65 kV65 dc65 pm65 cd65 ct65:Value} (a65:A6k K mainGlobals "law" = some (some (.ref f65))) (l65:K.lookup f65=some ⟨oc65,od65,.func (A2d "law" "law" (A2p g4) (A00 g4) (B6 g4) .none kV65 dc65 pm65 an65 cd65 ct65),sl65⟩) (c65:B5x K cd65 "law" = true) (k65:A6a K (.ref f65)=true)
  (q_MANY:CH K "MANY" (.int 0))
  (q_WAYS:CH K "WAYS" (.int 1))
  (q_START:CH K "START" (.int 0))
  (q_END:CH K "END" (.int 1))
  (q_CHANGE:CH K "CHANGE" (.int 2))
  (q_MOST_WAYS:CH K "MOST_WAYS" (.int 40))
  (q_LEAST:CH K "LEAST" (.int 0))
  (q_GAIN:CH K "GAIN" (.int 1))
  (q_TOP:CH K "TOP" (.int 2))
  (q_TABLE:CH K "TABLE" (.int 0))
  (q_RISEN:CH K "RISEN" (.int 1))
  (q_FROM:CH K "FROM" (.int 0))
  (q_BY:CH K "BY" (.int 1))
  (q_NUMBERS:CH K "NUMBERS" (.int 0))
  (q_TIMES:CH K "TIMES" (.int 1))
  (q_PLACE:CH K "PLACE" (.int 0))
  (q_LEVEL:CH K "LEVEL" (.int 1))
  (zz:BN K ["abs", "all", "bool", "dict", "enumerate", "int", "isinstance", "len", "list", "max", "min", "range", "reversed", "sorted", "tuple"])
  (qal_highest_highest:AH K "highest" "highest_highest")
  (qal_least_least:AH K "least" "least_least")
  (qal_least_store_stores:AH K "least_store" "least_store_stores")
  {ac:Addr} (xa_Keeper:A6k K mainGlobals "Keeper" = some (some (.ref ac))) (kh:KH K ac) (kn:NN K ac ["many", "full", "wanted", "laid", "lowest"])
  (fK:MH K ac "__init__" "Keeper.__init__" A93)
  (fX:MH K ac "lay" "Keeper.lay" B33)
  (fL:MH K ac "lift" "Keeper.lift" B34)
  (fM:MH K ac "turn" "Keeper.turn" B35)
  (eE:MH K ac "refill" "Keeper.refill" B36)
  (fY:MH K ac "aim" "Keeper.aim" B37)
  (eN:MH K ac "found" "Keeper.found" B38)
  (eO:MH K ac "moved" "Keeper.moved" B39)
  (fN:MH K ac "ways" "Keeper.ways" B4a)
  (eQ:MH K ac "store" "Keeper.store" B4b)
  (fO:MH K ac "goal" "Keeper.goal" B4c)
  (fP:MH K ac "land" "Keeper.land" A94)
  (eR:MH K ac "least" "Keeper.least" B4d)
  (dA:MH K ac "trip_from" "Keeper.trip_from" B4e)
  (dW:MH K ac "highest" "Keeper.highest" B4f)
  (cX:MH K ac "least_store" "Keeper.least_store" B4g) :
  ∃fd:FuncData,(∀(s:Shared) (v:Value),BindsTo s fd ⟨[v],[]⟩ [("_law_script",v)])/\∀base:Heap,K.In base->base.Ns mainGlobals mg->C0 l.prog w K mg base CX0 14 fa fd ["_law_script"] (B0y K):=by
 have e:=hfa.symm.trans (A8b X G a65)
 cases e
 let ti:MT K ac "__init__" "Keeper.__init__" A93 ["self", "many", "store", "goal"]:=MT.c fK
 have Fl:=C44 (st:=g4) l65 c65 k65
 let T:Txt K mg:={
  ai:=FT.c X G h0,
  bD:=FT.c X G h1,
  bE:=FT.c X G h2,
  ba:=FT.c X G h3,
  ay:=FT.c X G h4,
  aC:=FT.c X G h5,
  aF:=FT.c X G h6,
  bW:=FT.c X G h7,
  ax:=FT.c X G h8,
  av:=FT.c X G h9,
  bg:=FT.c X G h10,
  aM:=FT.c X G h11,
  bP:=FT.c X G h12,
  bh:=FT.c X G h13,
  bx:=FT.c X G h14,
  aE:=FT.c X G h15,
  aI:=FT.c X G h16,
  bz:=FT.c X G h17,
  bX:=FT.c X G h18,
  bY:=FT.c X G h19,
  bA:=FT.c X G h20,
  bi:=FT.c X G h21,
  bc:=FT.c X G h22,
  aQ:=FT.c X G h23,
  aR:=FT.c X G h24,
  bZ:=FT.c X G h25,
  bF:=FT.c X G h26,
  aN:=FT.c X G h27,
  aT:=FT.c X G h28,
  aU:=FT.c X G h29,
  aA:=FT.c X G h30,
  aD:=FT.c X G h31,
  aJ:=FT.c X G h32,
  be:=FT.c X G h33,
  aw:=FT.c X G h34,
  bQ:=FT.c X G h35,
  bG:=FT.c X G h36,
  aK:=FT.c X G h37,
  bL:=FT.c X G h38,
  bH:=FT.c X G h39,
  bR:=FT.c X G h40,
  bj:=FT.c X G h41,
  aq:=FT.c X G h42,
  aL:=FT.c X G h43,
  aW:=FT.c X G h44,
  aO:=FT.c X G h45,
  az:=FT.c X G h46,
  cN:=FT.c X G h47,
  br:=FT.c X G h48,
  cO:=FT.c X G h49,
  af:=FT.c X G h50,
  cu:=FT.c X G h51,
  bI:=FT.c X G h52,
  cw:=FT.c X G h53,
  bM:=FT.c X G h54,
  cx:=FT.c X G h55,
  cP:=FT.c X G h56,
  cy:=FT.c X G h57,
  cZ:=FT.c X G h58,
  aj:=FT.c X G h59,
  ah:=FT.c X G h60,
  cB:=FT.c X G h61,
  cb:=FT.c X G h62,
  bT:=FT.c X G h63,
  cz:=FT.c X G h64,
  g_MANY:=CT.c X G q_MANY,
  g_WAYS:=CT.c X G q_WAYS,
  g_START:=CT.c X G q_START,
  g_END:=CT.c X G q_END,
  g_CHANGE:=CT.c X G q_CHANGE,
  g_MOST_WAYS:=CT.c X G q_MOST_WAYS,
  g_LEAST:=CT.c X G q_LEAST,
  g_GAIN:=CT.c X G q_GAIN,
  g_TOP:=CT.c X G q_TOP,
  g_TABLE:=CT.c X G q_TABLE,
  g_RISEN:=CT.c X G q_RISEN,
  g_FROM:=CT.c X G q_FROM,
  g_BY:=CT.c X G q_BY,
  g_NUMBERS:=CT.c X G q_NUMBERS,
  g_TIMES:=CT.c X G q_TIMES,
  g_PLACE:=CT.c X G q_PLACE,
  g_LEVEL:=CT.c X G q_LEVEL,
  fZ:=b6 X G zz.1,
  ik:=b6 X G zz.2.1,
  gC:=b6 X G zz.2.2.1,
  gD:=b6 X G zz.2.2.2.1,
  cY:=b6 X G zz.2.2.2.2.1,
  gc:=b6 X G zz.2.2.2.2.2.1,
  aG:=b6 X G zz.2.2.2.2.2.2.1,
  bC:=b6 X G zz.2.2.2.2.2.2.2.1,
  au:=b6 X G zz.2.2.2.2.2.2.2.2.1,
  cS:=b6 X G zz.2.2.2.2.2.2.2.2.2.1,
  dZ:=b6 X G zz.2.2.2.2.2.2.2.2.2.2.1,
  bp:=b6 X G zz.2.2.2.2.2.2.2.2.2.2.2.1,
  cj:=b6 X G zz.2.2.2.2.2.2.2.2.2.2.2.2.1,
  du:=b6 X G zz.2.2.2.2.2.2.2.2.2.2.2.2.2.1,
  dj:=b6 X G zz.2.2.2.2.2.2.2.2.2.2.2.2.2.2.1,
  bu:=AH.of X G qal_highest_highest,
  cA:=AH.of X G qal_least_least,
  ci:=AH.of X G qal_least_store_stores,
  ac:=ac,dB:=A8b X G xa_Keeper,ae:=kh.1,cK:=kn.1,cc:=kn.2.1,bN:=kn.2.2.1,bf:=kn.2.2.2.1,bO:=kn.2.2.2.2.1,
  ck:=ti,dD:=⟨kh.2.1,ti.m.1,ti.m.2,kh.2.2⟩,
  cL:=MT.c fX,
  cm:=MT.c fL,
  cp:=MT.c fM,
  bS:=MT.c eE,
  cM:=MT.c fY,
  bB:=MT.c eN,
  aB:=MT.c eO,
  cq:=MT.c fN,
  cf:=MT.c eQ,
  cr:=MT.c fO,
  aH:=MT.c fP,
  cg:=MT.c eR,
  bq:=MT.c dA,
  aZ:=MT.c dW,
  aP:=MT.c cX,
  fm:=⟨fa,_,Fl,hfa,Fl.binds (λ_ _ _ _ _ _ us hl=>by obtain⟨_,rfl⟩:=B24 hl;rfl)⟩ }
 exact⟨A2d "law" "law" (A2p g4) (A00 g4) (B6 g4) .none kV65 dc65 pm65 an65 cd65 ct65,λs v=>.of_eq rfl,λbase _ _=>D59 T⟩
theorem walk {l:PySem.W.OpenLaw} {q:Program} {loose:List Str} {XP:(Str->Option Value)->Heap->Prop} {YP:World->Heap->Prop} {d:DefRec} {K:Params->B0} (hn:l.most=some 63) (hdf:d.params.defaults=[])
  (hY:∀(w:World) (h:Heap),YP w h->(K w.params).In h)
  (F:∀(w:World) (mg:Str->Option Value) (fa:Addr) (h:Heap),(K w.params).In h->h.Ns mainGlobals mg->mg d.name=some (.ref fa)->
   ∃fd:FuncData,(∀(s:Shared) (u:Value),BindsTo s fd ⟨[u],[]⟩ [("_law_script",u)])/\∀base:Heap,(K w.params).In base->base.Ns mainGlobals mg->C0 l.prog w (K w.params) mg base CX0 14 fa fd ["_law_script"] (B0y (K w.params))) :
  PySem.W.WalkO q loose XP YP l.row.toRowW d [] (λf vs=>PySem.call f vs):=
 L2.walk_of (n:=63) (k:=14) (x:= "_law_script") (CX:=λ_=>CX0) (sp:=λw=>B0y (K w.params)) hn DD hdf ⟨rfl,DD,DD,rfl⟩ hY F (λ_ _ a ns hl _ hS=>⟨a,ns,rfl,hS,hl,λ_=>rfl⟩) λ_ _ _ _ _ z=>z
end My
open Lean in
local macro_rules|`(command|init_quot)=>do
 let mut b:Array Name:=#[`PySem.Challenge.pw_trudge_k95_two_keepers,`PySem.Challenge.rw_trudge_k95_two_keepers]
 for (s,x,n) in [("env_",41,1),("heap_",39,1),("heap_",46,1),("heap_",867,1),("o_",43,824),("sts_",49,1),("sts_",64,1),("sts_",86,1),("sts_",101,1),("sts_",123,1),("sts_",138,1),("sts_",160,1),("sts_",182,1),("sts_",197,1),("sts_",247,1),("sts_",311,1),("sts_",383,1),("sts_",457,1),("sts_",523,1),("sts_",737,1),("sts_",824,1),("tree_",47,1),("tree_",63,1),("tree_",85,1),("tree_",100,1),("tree_",122,1),("tree_",137,1),("tree_",159,1),("tree_",181,1),("tree_",196,1),("tree_",246,1),("tree_",310,1),("tree_",382,1),("tree_",456,1),("tree_",522,1),("tree_",648,1),("tree_",733,1),("tree_",823,1),("tree_",866,1),("view_",39,1)] do
  for i in [x:x+n] do
   b:=b.push ((`PySem.Challenge.cw_trudge_k95_two_keepers_holds).str (s++toString i))
 let a<-b.mapM fun c=>`(command|theorem $(mkIdent ((`PySem.W.Fast).str ("tw"++toString c.hash))):ident:True:=trivial)
 return mkNullNode a
init_quot
open PySem PySem.W PyProof.Rows
set_option maxRecDepth 100000 in
set_option maxHeartbeats 0 in
theorem PySem.Challenge.cw_trudge_k95_two_keepers_holds : PySem.Challenge.rw_trudge_k95_two_keepers.Holds := by
 w_on;o_law;k_head;(case hw=>w_witness2)
 k_fill
 refine My.walk (l:=PySem.Challenge.rw_trudge_k95_two_keepers) rfl rfl (λw h Y=>PySem.W.kIn_of Y) ?F
 case F=>
  intro w mg fa h KX G hmg
  refine' My.all_mk KX G hmg ?h0 ?h1 ?h2 ?h3 ?h4 ?h5 ?h6 ?h7 ?h8 ?h9 ?h10 ?h11 ?h12 ?h13 ?h14 ?h15 ?h16 ?h17 ?h18 ?h19 ?h20 ?h21 ?h22 ?h23 ?h24 ?h25 ?h26 ?h27 ?h28 ?h29 ?h30 ?h31 ?h32 ?h33 ?h34 ?h35 ?h36 ?h37 ?h38 ?h39 ?h40 ?h41 ?h42 ?h43 ?h44 ?h45 ?h46 ?h47 ?h48 ?h49 ?h50 ?h51 ?h52 ?h53 ?h54 ?h55 ?h56 ?h57 ?h58 ?h59 ?h60 ?h61 ?h62 ?h63 ?h64 ?a65 ?l65 ?c65 ?k65 ?q_MANY ?q_WAYS ?q_START ?q_END ?q_CHANGE ?q_MOST_WAYS ?q_LEAST ?q_GAIN ?q_TOP ?q_TABLE ?q_RISEN ?q_FROM ?q_BY ?q_NUMBERS ?q_TIMES ?q_PLACE ?q_LEVEL ?zz ?qal_highest_highest ?qal_least_least ?qal_least_store_stores ?xa_Keeper ?kh ?kn ?fK ?fX ?fL ?fM ?eE ?fY ?eN ?eO ?fN ?eQ ?fO ?fP ?eR ?dA ?dW ?cX
  (case a65=>k_is);(case l65=>k_is);(case c65=>k_is);(case k65=>k_is)
  (case q_MANY=>exact⟨_,by k_is⟩);(case q_WAYS=>exact⟨_,by k_is⟩);(case q_START=>exact⟨_,by k_is⟩);(case q_END=>exact⟨_,by k_is⟩);(case q_CHANGE=>exact⟨_,by k_is⟩);(case q_MOST_WAYS=>exact⟨_,by k_is⟩);(case q_LEAST=>exact⟨_,by k_is⟩);(case q_GAIN=>exact⟨_,by k_is⟩);(case q_TOP=>exact⟨_,by k_is⟩);(case q_TABLE=>exact⟨_,by k_is⟩);(case q_RISEN=>exact⟨_,by k_is⟩);(case q_FROM=>exact⟨_,by k_is⟩);(case q_BY=>exact⟨_,by k_is⟩);(case q_NUMBERS=>exact⟨_,by k_is⟩);(case q_TIMES=>exact⟨_,by k_is⟩);(case q_PLACE=>exact⟨_,by k_is⟩);(case q_LEVEL=>exact⟨_,by k_is⟩)
  (case zz=>exact⟨by k_is,by k_is,by k_is,by k_is,by k_is,by k_is,by k_is,by k_is,by k_is,by k_is,by k_is,by k_is,by k_is,by k_is,by k_is,trivial⟩)
  (case qal_highest_highest=>exact⟨_,by k_is,by k_is⟩)
  (case qal_least_least=>exact⟨_,by k_is,by k_is⟩)
  (case qal_least_store_stores=>exact⟨_,by k_is,by k_is⟩)
  (case xa_Keeper=>k_is);(case kh=>exact⟨⟨by k_is,by k_is,by k_is,by k_is⟩,by k_is,by k_is⟩);(case kn=>exact⟨by k_is,by k_is,by k_is,by k_is,by k_is,trivial⟩)
  all_goals try (exact⟨_,by k_is,by k_is,_,⟨_,_,_,_,_,_,_,_,_,rfl,by k_is,by k_is⟩,by k_is⟩)
  all_goals (exact⟨_,by k_is,_,⟨_,_,_,_,_,_,_,_,_,rfl,by k_is,by k_is⟩,by k_is⟩)
