import PyProof.Rows.All
import Wide.All
import OpenK.AllK
import Wide.FinOn
import Lean
import PyProof.EqAt
import PyProof.EqKinds
import PyProof.NeData
import PyProof.TupleCall
import KE.KRevIter
import KE.KRevSl
import PyProof.MinMaxWalk
import PyProof.ZipIter
import PyProof.Rows.Range3
import PyProof.Rows.CallKwBuiltin
import PyProof.DictWalks
import PyProof.ReprRoads
import PyProof.ReprLen
import PyProof.CallFns
import KE.KEqDict
import PyProof.P3In
import PyProof.MeetsDictList
import PyProof.Cells
import KE.KDictSum
import KE.KDictOf
import PyProof.Rows.SortWalk
import PyProof.StrLawsJoin
import PyProof.MeetsStr
import PyProof.MeetsStr2
import PyProof.FString
import KE.KIntText
import PyProof.StrWalks
import PyProof.StrBlockI
import PyProof.StrLawsTight
import PyProof.StrLawsChain
import PyProof.StrLawsIdx
import PySem.Challenge.RW_trudge_k96_rows_and_functions
set_option Elab.async false
set_option compiler.extract_closed false
set_option bootstrap.genMatcherCode false
set_option linter.all false
set_option maxRecDepth 100000
set_option tactic.hygienic false
theorem KK{p:Prop}(h:p:=by decide +kernel):p:=h
theorem DD{p:Prop}(h:p:=by decide):p:=h
theorem HH{p:Prop}(h:p:=by with_reducible assumption):p:=h
theorem LL{a b c:Int}(h:b<=c)(k:a<=b):a<=c:=Int.le_trans k h
theorem LM{a b c:Int}(h:b<=c)(k:a<b):a<c:=Int.lt_of_lt_of_le k h
theorem LN{a b c:Nat}(h:b<=c)(k:a<b):a<c:=Nat.lt_of_lt_of_le k h
theorem OO{p:Prop}(h:p:=by first|exact HH|exact Int.le_trans HH DD|exact Nat.le_trans HH DD|exact LL HH DD|exact LM HH DD|exact LN HH DD|exact Int.lt_of_le_of_lt HH DD|exact Nat.lt_of_le_of_lt HH DD|with_reducible exact Int.natCast_nonneg _|exact Nat.le_of_lt HH|exact Int.le_of_lt HH|lia -abstractProof):p:=h
theorem SZ{n:Nat}(h:n<=100:=by decide):n<=PySem.sizeLine:=Nat.le_trans h (by decide)
local macro_rules|`(tactic|omega)=>`(tactic|exact OO)
local macro_rules|`(∅)=>`(1000000000000000000)
theorem IRP{p:Prop}(h:p:=by exact λJ J=>rfl):p:=h
theorem ILP{p:Prop}(h:p:=by exact .inl rfl):p:=h
theorem A0P{p:Prop}(h:p:=by first | exact .inl rfl | exact .inr rfl | assumption):p:=h
theorem A2P{p:Prop}(h:p:=by intro _;rfl):p:=h
theorem RF{p:Prop}(h:p:=by rfl):p:=h
theorem A4P{p:Prop}(h:p:=by with_unfolding_all rfl):p:=h
set_option genInjectivity false
set_option genSizeOf false
open _root_.PySem.W renaming Frag->A8,mg_none_of->w5,kitOne->A0y,findIn->A1k,kia_one->A1l,nsIn->A1o,mg_of->A2a,emptyDict->A4j,fnOf->A4k,instObj->A6o,keepIn->A6p,kitCls->A6s,lookIn->B9g,plainGet->B9h,callWith_K->B9i,codeIn->B9k,plainGet_of->C65
open _root_.Or renaming inl->B2
open _root_.List renaming length_map->B6,mem_cons_of_mem->C8,mem_cons_self->D6,replicate->F2,mem_cons->G1,set->J5,length_cons->K4,map_cons->K9,mem_map->M9,map_map->N6,nil_append->O1,getElem?_map->P6,getElem?_eq_getElem->P7,size_toArray->Q2,map_append->Q3,mem_of_getElem?->R6,length_set->S3,length_append->S8,range->T5,cons_append->T6,not_mem_nil->W5,append_nil->X5,mem_append_right->Y8,length_take->Z9,length_replicate->a8,cons->a9,getElem?_append_right->k0,append_assoc->m5,getElem?_set_ne->v8,length_range->w4,getElem?_eq_some_iff->A0h,mem_range->A0x,replicate_succ->A00,mem_append->A1j,lookup_cons->A1m,map_take->A19,getElem?_append_left->A26,take_add_one->A27,eq_nil_of_length_eq_zero->A29,map_nil->A4l,any_cons->A4m,flatten_cons->A4n,getElem?_set->A4o,getElem?_eq_none->A4p,find?_cons->A4q,take_length->A4r,length_reverse->A6t,mem_singleton->A6u,length_nil->A6v,lookup->A8t,mem_iff_getElem->A8w,take_of_length_le->A8x,getElem?_cons_succ->A8y,tail_cons->A8z,mem_filter->B0n,mem_filterMap->B0o,set_append_right->B0p,tail_nil->B0q,getElem?_cons_zero->B0r,set_cons_zero->B0s,set_cons_succ->B0t,map_congr_left->B0z,nodup_cons->B3r,length->B3s,idxOf_lt_length_iff->B3u,drop_zero->B3w,mem_append_left->B9f,getElem?_replicate->B9j,all_eq_true->B9m,reverse_cons->B9p,filter_cons_of_pos->B9r,filter_cons_of_neg->B9s,sum_cons->B9t,range_succ->B9u,length_filter_le->B9v,map_eq_nil_iff->B9w,filterMap_cons->C64,length_singleton->C66,getElem_idxOf->C68,length_pos_iff->C69,getElem?_range->C7a,drop_eq_getElem_cons->C7b,mem_zipIdx_iff_getElem?->C7c,getElem?_of_mem->C7j,map_replicate->C7k
open _root_.Nat renaming le_refl->E8,le_trans->J1,ne_of_lt->O0,zero_le->P5,lt_of_lt_of_le->Q7,toDigits->X7,lt_irrefl->Z8,lt_of_le_of_lt->A0i,le_succ->A0z,le_of_lt->A24,ne_of_gt->A8s,lt_succ_self->B3q,min_eq_left->B3x,toDigits_of_lt_base->B3z,lt_succ_of_lt->B9o,min_le_left->B9y,add_le_add->B9z,toDigits_append_toDigits->C7g
open _root_.PySem.Heap renaming lt_size->G6,get?_push_of_some->M5,get?_push_size->R9,get?_update_other->A6r,size_push->B3p,get?_update_self->B9l
open _root_.Bool renaming false_ne_true->P4,and_eq_true->X6,eq_iff_iff->A25,false_eq_true->A8u,or_eq_true->A8v,not_true->B0v,not_false->B0w,not_eq_true'->B9n,and_eq_true_iff->C7f
open _root_.Int renaming toNat->W6,le_trans->A01,le_refl->A1n,eq_ofNat_of_zero_le->B3v,emod_nonneg->B9x,emod_lt_of_pos->C7i
open _root_.PySem.PassesOwn renaming never->m6
open _root_.Char renaming toNat->A2b
open _root_.Option renaming map_eq_some_iff->A28,map_some->A6w,bind_some->B0u
open _root_.PySem.Obj renaming mapSeq->A6q
open _root_.PySem.F renaming plainAttrs_list->A6x,plainAttrs_str->A6y,slot_list_append->B0x,type_list_append->B0y,slot_str_split->B3y,slot_str_join->B30,type_str_join->B31,slot_list_index->C67,entry_str_split->C7d,args_str_split_2->C7e
open _root_.Array renaming length_toList->A8r,getElem?_toList->B9q
open _root_.PySem renaming mem_of_lookup->B3t
open _root_.PySem.W.KIN renaming val_back->C7h
def mqB:String:="A52 A1a A3t A3u dOp A3k A55 dT A54 dCb A5j A5i dC dF A5l A5k A5a A43 A45 dOr A47 A48 A49 dBV dIf A2n dIx A5m A5n A5t A5u dSl A5v A5x A5y A51 A5z aV aS X0 arD A2p U9 A74 ixD lenD T3 A3p gI gI0 A5b A5c A5d A5e A5f gLt gLe gGt gGe gEq A1v isN A3m A5p A5q gI2 A3n A3o A5s A53 A58 A3w A56 gN gT2 A1y A57 gIn oN oS A0m r8 A7s A7t A7u A7v A7w A7x A0b tyD A8z B0q B0r A8y B0s B0t K4 A6v B0u A6w T6 O1 A7y A7z A70 A71 A72 A73 B0v B0w A6e A30"
def mqT(s:String):Lean.MacroM (Lean.TSyntax `tactic):=do
 let a:=((s++mqB).splitOn " ").toArray.map λx=>Lean.mkIdent x.toName
 `(tactic|try dsimp only[$[$a:ident],*])
def sP(s:Lean.Syntax):=
 let s:=s.rewriteBottomUp λx=>x.setInfo .none
 if s[1].getKind∈[``Lean.Parser.Command.definition,``Lean.Parser.Command.abbrev]&&s[0][4].getNumArgs==0 then s.modifyArg 0 λm=>m.setArg 4 (Lean.mkNullNode #[.node .none ``Lean.Parser.Command.noncomputable #[.atom .none "noncomputable"]]) else s
local macro_rules(kind:=Lean.Parser.Command.declaration)|s=>if s.getPos?.isSome then pure (sP s) else throw .unsupportedSyntax
namespace Lake
open PySem PySem.Spec PyProof.Rows
theorem el3 {α β γ:Type}{R T K:α->β->γ->Prop}{p:Prop}(h:∃a b c,R a b c/\T a b c/\K a b c)(f:∀a b c,R a b c->T a b c->K a b c->p):p:=h.elim λa h=>h.elim λb h=>h.elim λc h=>f a b c h.1 h.2.1 h.2.2
theorem el5 {α β:Type}{R T K:α->β->Prop}{p:Prop}(h:∃a b,R a b/\T a b/\K a b)(f:∀a b,R a b->T a b->K a b->p):p:=h.elim λa h=>h.elim λb h=>f a b h.1 h.2.1 h.2.2
theorem el2 {α:Type}{A B:α->Prop}{p:Prop}(h:∃a,A a/\B a)(f:∀a,A a->B a->p):p:=h.elim λa h=>f a h.1 h.2
abbrev Key:=Sum Int Str
def A3a:Key->Value->Bool
 | .inl k,v=>Value.isInt k v
 | .inr x,v=>Value.isStrOf x v
def C7l (w:World):Key->Int
 | .inl k=>hashInt k
 | .inr x=>hashStr w x
theorem A1p:∀{k:Key}{v:Value},A3a k v=true->(∃i t,k=Sum.inl i/\v=Value.int i t)\/(∃x t,k=Sum.inr x/\v=Value.str x t)
 | .inl i,v,h=>by
  obtain⟨t,e⟩:=Value.isInt_shape (k:=i) (v:=v) h;exact .inl ⟨i,t,rfl,e⟩
 | .inr x,v,h=>by
  obtain⟨t,e⟩:=Value.isStrOf_shape (x:=x) (v:=v) h;exact .inr ⟨x,t,rfl,e⟩
theorem C7m (i:Int)(t:Tok):A3a (.inl i) (.int i t)=true:=by simp [A3a,Value.isInt]
theorem C7n (x:Str)(t:Tok):A3a (.inr x) (.str x t)=true:=by simp [A3a,Value.isStrOf]
theorem C7o (a b:Int):decide ((Sum.inl a:Key)=Sum.inl b)=(a == b):=by
 by_cases e:a=b
 ·subst e;simp
 ·have h:¬ (Sum.inl a:Key)=Sum.inl b:=λq=>e (Sum.inl.inj q);rw[decide_eq_false h];exact (beq_eq_false_iff_ne.mpr e).symm
theorem C7p (a b:Str):decide ((Sum.inr a:Key)=Sum.inr b)=decide (a=b):=by
 by_cases e:a=b
 ·subst e;simp
 ·have h:¬ (Sum.inr a:Key)=Sum.inr b:=λq=>e (Sum.inr.inj q);rw[decide_eq_false h,decide_eq_false e]
theorem C7q (a:Int)(b:Str):decide ((Sum.inl a:Key)=Sum.inr b)=false:=decide_eq_false (λq=>nomatch q)
theorem C7r (a:Str)(b:Int):decide ((Sum.inr a:Key)=Sum.inl b)=false:=decide_eq_false (λq=>nomatch q)
def S9 (prog:Program)(w:World):PySem.KeyKind prog w Key where
 is:=A3a
 hash:=C7l w
 inj:=λv a b ha hb=>by
  rcases A1p ha with ⟨i,t,rfl,rfl⟩ | ⟨x,t,rfl,rfl⟩
  ·rcases A1p hb with ⟨j,u,rfl,e⟩ | ⟨y,u,rfl,e⟩
   ·injection e with e1 _;rw[e1]
   ·exact nomatch e
  ·rcases A1p hb with ⟨j,u,rfl,e⟩ | ⟨y,u,rfl,e⟩
   ·exact nomatch e
   ·injection e with e1 _;rw[e1]
 byValue:=λk v h=>by
  rcases A1p h with ⟨i,t,rfl,rfl⟩ | ⟨x,t,rfl,rfl⟩ <;> rfl
 pyHash:=λhv h=>by
  rcases A1p hv with ⟨i,t,rfl,rfl⟩ | ⟨x,t,rfl,rfl⟩
  ·exact wpAny_pyHash_int h
  ·exact wpAny_pyHash_str h
 eqBool:=λhu hv h=>by
  rcases A1p hu with ⟨i,t,rfl,rfl⟩ | ⟨x,t,rfl,rfl⟩
  ·rcases A1p hv with ⟨j,u,rfl,rfl⟩ | ⟨y,u,rfl,rfl⟩
   ·rw[C7o] at h;exact wpAny_eqBool_int h
   ·rw[C7q] at h;exact SeqAt.EqAt.int_str i t y u _ _ _ _ h
  ·rcases A1p hv with ⟨j,u,rfl,rfl⟩ | ⟨y,u,rfl,rfl⟩
   ·rw[C7r] at h;exact SeqAt.EqAt.str_int x t j u _ _ _ _ h
   ·rw[C7p] at h;exact wpAny_eqBool_str h
 «strs»:=λk x t v h=>by
  rcases A1p h with ⟨i,u,rfl,e⟩ | ⟨y,u,rfl,e⟩
  ·exact nomatch e
  ·injection e with e1 _
   subst e1;cases v <;> rfl
theorem C7s (prog:Program)(w:World)(k:Key)(v:Value):(S9 prog w).is k v=A3a k v:=rfl
theorem C7t (prog:Program)(w:World)(i:Int)(t:Tok):(S9 prog w).is (.inl i) (.int i t)=true:=C7m i t
theorem B32 (prog:Program)(w:World)(x:Str)(t:Tok):(S9 prog w).is (.inr x) (.str x t)=true:=C7n x t
set_option genInjectivity true in
inductive V where
 | non | bl (b:Bool) | int (i:Int) | str (x:Str) | byt (b:Array UInt8) | flt (b:UInt64) | ref (a:Addr) | ty (n:String)
 deriving DecidableEq
def E1:V->Value->Prop
 | .non,u=>u=Value.none
 | .bl b,u=>u=Value.bool b
 | .int i,u=>∃t,u=Value.int i t
 | .str x,u=>∃t,u=Value.str x t
 | .byt b,u=>∃t,u=Value.bytes b t
 | .flt b,u=>∃t,u=Value.float b t
 | .ref a,u=>u=Value.ref a
 | .ty n,u=>u=Value.type n
abbrev C6:List V->List Value->Prop:=Paired E1
theorem C6.length {xs:List V}{us:List Value}(r:C6 xs us):xs.length=us.length:=Paired.length r
theorem C6.get:∀{xs:List V}{us:List Value}{i:Nat}{x:V},C6 xs us->xs[i]?=some x->∃u,us[i]?=some u/\E1 x u
 | _,_,_,_,.nil,e=>by simp at e
 | _,_,0,_,.cons r _,e=>by simp at e;subst e;exact⟨_,rfl,r⟩
 | _,_,i+1,x,.cons _ t,e=>by
  obtain⟨u,h1,h2⟩:=C6.get (i:=i) (x:=x) t (by simpa using e);exact⟨u,by simpa using h1,h2⟩
theorem C6.set {x:V}{u:Value}(r:E1 x u):∀{xs:List V}{us:List Value}(i:Nat),C6 xs us->C6 (xs.set i x) (us.set i u)
 | _,_,_,.nil=>.nil
 | _,_,0,.cons _ t=>.cons r t
 | _,_,i+1,.cons q t=>.cons q (C6.set r i t)
theorem C6.append {xs ys:List V}{us ws:List Value}(h:C6 xs us)(s:C6 ys ws):C6 (xs++ys) (us++ws):=by
 induction h with
 | nil=>exact s
 | cons r t ih=>exact .cons r ih
theorem C6.take:∀{xs:List V}{us:List Value}(n:Nat),C6 xs us->C6 (xs.take n) (us.take n)
 | _,_,0,_=>.nil
 | _,_,_+1,.nil=>.nil
 | _,_,n+1,.cons r t=>.cons r (C6.take n t)
theorem C6.drop:∀{xs:List V}{us:List Value}(n:Nat),C6 xs us->C6 (xs.drop n) (us.drop n)
 | _,_,0,r=>r
 | _,_,_+1,.nil=>.nil
 | _,_,n+1,.cons _ t=>C6.drop n t
def U3:Option V->Option Value->Prop
 | some v,some u=>E1 v u
 | none,none=>True
 | _,_=>False
def KV {κ:Type}:List (κ×V)->List (κ×Value)->Prop:=Paired λ(p:κ×V) (q:κ×Value)=>p.1=q.1/\E1 p.2 q.2
def kV:Key->V
 | .inl i=>.int i
 | .inr x=>.str x
inductive HO where
 | lst (xs:List V)
 | tup (xs:List V)
 | dK (kvs:List (Key×V)) | dT (kvs:List (List Key×V))
 | set (S:Int->Bool) (n:Nat)
 | ins (C dx:Addr) (fs:List (Str×V))
 | own (x:Addr)
 | xd (fs:List (Str×V))
 | met (f x:Addr)
 | rng (lo hi:Int)
 | frz (o:Obj) (u:HO)
 | tbl (ps:Array Value)
 | ext (φ:Heap->Prop)
abbrev Hp:=Addr->Option HO
def upd (H:Hp)(a:Addr)(o:HO):Hp:=λb=>if b=a then some o else H b
theorem B3 {H:Hp}{a:Addr}{o:HO}:upd H a o a=some o:=by unfold upd;rw[if_pos rfl]
theorem B7 {H:Hp}{a b:Addr}{o:HO}(h:b≠a):upd H a o b=H b:=by unfold upd;rw[if_neg h]
theorem B90 {H:Hp}{a b:Addr}{o u:HO}(h:H a=some o)(h':H b=some u)(d:o≠u):a≠b:=by
 intro e;subst e;rw[h] at h';exact d (Option.some.inj h')
theorem w6 {H:Hp}{a b:Addr}{o:HO}(h:H a=some o)(h':H b=none):a≠b:=by
 intro e;subst e;rw[h] at h';cases h'
section
variable (P:Program)(w:World)
def O7 (H:Hp)(h:Heap)(a:Addr):HO->Prop
 | .lst xs=>xs.length<=sizeLine/\∃(its:List Value)(n:Nat),C6 xs its/\h.get? a=some { cls:=.type "list",data:=.seq its.toArray n }
 | .tup xs=>xs.length<=sizeLine/\∃its:List Value,C6 xs its/\IsTup h a its.toArray
 | .dK kvs=>kvs.length<=sizeLine/\(a == sysModules)=false/\∃vs,KV kvs vs/\h.DictOf (S9 P w) a vs
 | .dT kvs=>kvs.length<=sizeLine/\(a == sysModules)=false/\∃xs:List (List Key×Addr×Value),
   Paired (λ(p:List Key×V) (q:List Key×Addr×Value)=>p.1=q.1/\H q.2.1=some (.tup (p.1.map kV))/\E1 p.2 q.2.2) kvs xs/\
   ∃o es ep,h.get? a=some o/\o.ExactDict/\o.data=.dict es ep/\es.toList=xs.map (entryOfKey (tupleKind (S9 P w)))/\(xs.map (·.1)).Nodup
 | .set S n=>h.SetOf (intKind P w) a S n
 | .ins C dx fs=>H dx=some (.own a)/\fs.length<=1000/\dx≠a/\h.get? a=some (A6o C dx)/\
   ∃mA,h.Ns1 dx mA/\(∀f,U3 (fs.lookup f) (mA f))/\PySem.Within mA (fs.map (·.1))
 | .own _=>∃o,h.get? a=some o
 | .xd fs=>∃mA,h.Ns1 a mA/\∀f,U3 (fs.lookup f) (mA f)
 | .rng lo hi=>∃t u v,h.get? a=some { cls:=.type "range",data:=.fields #[.int lo t,.int hi u,.int 1 v] }
 | .frz o u=>h.get? a=some o/\O7 H h a u
 | .tbl ps=>h.get? a=some { cls:=.none,data:=.fields ps }
 | .met f x=>h.get? a=some (PySem.W.methodObj (.ref f) (.ref x))
 | .ext φ=>φ h/\(∃o,h.get? a=some o)/\∀h1 h2:Heap,φ h1->(∀o,h1.get? a=some o->h2.get? a=some o)->φ h2
def HOk (H:Hp)(h:Heap):Prop:=∀a o,H a=some o->O7 P w H h a o
end
variable {H H':Hp}{h h':Heap}{a:Addr}
section
variable {P:Program}{w:World}{o:HO}
theorem O7.lt (x:O7 P w H h a o):a<h.objs.size:=by
 cases o with
 | lst xs=>obtain⟨_,_,_,_,e⟩:=x;exact G6 e
 | tup xs=>obtain⟨_,_,_,p⟩:=x;exact p.lt
 | dK kvs=>obtain⟨_,_,_,_,o,_,_,e,_⟩:=x;exact G6 e
 | dT kvs=>obtain⟨_,_,_,_,o,_,_,e,_⟩:=x;exact G6 e
 | set S n=>obtain⟨o,_,_,_,e,_⟩:=x;exact G6 e
 | ins C dx fs=>obtain⟨_,_,_,e,_⟩:=x;exact G6 e
 | own y=>obtain⟨_,e⟩:=x;exact G6 e
 | xd fs=>obtain⟨_,⟨_,_,_,e,_⟩,_⟩:=x;exact G6 e
 | rng lo hi=>obtain⟨_,_,_,e⟩:=x;exact G6 e
 | frz ob u=>obtain⟨e,_⟩:=x;exact G6 e
 | tbl ps=>exact G6 (show h.get? a=some _ from x)
 | met f y=>exact G6 (show h.get? a=some _ from x)
 | ext φ=>obtain⟨_,⟨_,e⟩,_⟩:=x;exact G6 e
theorem Paired.mapP {α β:Type}{F G:α->β->Prop}{l₁:List α}{l₂:List β}(h:Paired F l₁ l₂)(f:∀a b,F a b->G a b):Paired G l₁ l₂:=by
 induction h with
 | nil=>exact .nil
 | cons r t ih=>exact .cons (f _ _ r) ih
theorem O7.stay (x:O7 P w H h a o)(k:∀b u,(b=a\/H b=some (.own a))->h.get? b=some u->h'.get? b=some u)
  (ho:∀b,H b=some (.own a)->H' b=some (.own a)) (ht:∀b xs,H b=some (.tup xs)->H' b=some (.tup xs)):O7 P w H' h' a o:=by
 induction o with
 | lst xs=>obtain⟨z,its,n,r,e⟩:=x;exact⟨z,its,n,r,k _ _ (.inl rfl) e⟩
 | tup xs=>obtain⟨z,its,r,ob,e,c⟩:=x;exact⟨z,its,r,ob,k _ _ (.inl rfl) e,c⟩
 | dK kvs=>obtain⟨z,y,vs,r,ob,es,ep,e,c⟩:=x;exact⟨z,y,vs,r,ob,es,ep,k _ _ (.inl rfl) e,c⟩
 | dT kvs=>obtain⟨z,y,xs,r,ob,es,ep,e,c⟩:=x;exact⟨z,y,xs,Paired.mapP r λp q z=>⟨z.1,ht _ _ z.2.1,z.2.2⟩,ob,es,ep,k _ _ (.inl rfl) e,c⟩
 | set S n=>obtain⟨ob,es,ep,t,e,c⟩:=x;exact⟨ob,es,ep,t,k _ _ (.inl rfl) e,c⟩
 | ins C dx fs=>obtain⟨d,z,ne,e,mA,⟨od,es,ep,e2,c⟩,r⟩:=x;exact⟨ho _ d,z,ne,k _ _ (.inl rfl) e,mA,⟨od,es,ep,k _ _ (.inr d) e2,c⟩,r⟩
 | own y=>obtain⟨ob,e⟩:=x;exact⟨ob,k _ _ (.inl rfl) e⟩
 | xd fs=>obtain⟨mA,⟨od,es,ep,e,c⟩,r⟩:=x;exact⟨mA,⟨od,es,ep,k _ _ (.inl rfl) e,c⟩,r⟩
 | rng lo hi=>obtain⟨t,u,v,e⟩:=x;exact⟨t,u,v,k _ _ (.inl rfl) e⟩
 | frz ob u ih=>obtain⟨e,q⟩:=x;exact⟨k _ _ (.inl rfl) e,ih q⟩
 | tbl ps=>have e:h.get? a=some { cls:=.none,data:=.fields ps }:=x;show h'.get? a=some { cls:=.none,data:=.fields ps };exact k a _ (.inl rfl) e
 | met f y=>have e:h.get? a=some (PySem.W.methodObj (.ref f) (.ref y)):=x;show h'.get? a=some (PySem.W.methodObj (.ref f) (.ref y));exact k a _ (.inl rfl) e
 | ext φ=>obtain⟨p,⟨o,e⟩,st⟩:=x;exact⟨st _ _ p λo q=>k _ _ (.inl rfl) q,⟨o,k _ _ (.inl rfl) e⟩,st⟩
theorem HOk.lt (x:HOk P w H h)(e:H a=some o):a<h.objs.size:=(x a o e).lt
theorem HOk.fresh (x:HOk P w H h)(e:h.objs.size<=a):H a=none:=by
 cases q:H a with
 | none=>rfl
 | some u=>exact absurd (Q7 (x.lt q) e) (Z8 _)
theorem HOk.kept (x:HOk P w H h)(k:∀b u,h.get? b=some u->h'.get? b=some u):HOk P w H h':=λa o e=>
 (x a o e).stay (λb u J q=>k b u q) (λJ q=>q) λJ J q=>q
theorem HOk.laid (x:HOk P w H h)(k:∀b u,h.get? b=some u->h'.get? b=some u)(hp:h.objs.size<=a)(new:O7 P w (upd H a o) h' a o):HOk P w (upd H a o) h':=λb u e=>by
 have hn:=x.fresh hp;by_cases hb:b=a
 ·subst hb;rw[B3] at e;cases e;exact new
 ·rw[B7 hb] at e;exact (x b u e).stay (λc v J q=>k c v q) (λc q=>by rw[B7 (w6 q hn)];exact q) λc xs q=>by rw[B7 (w6 q hn)];exact q
end
def Rd (H:Hp)(a:Addr)(u:HO):Prop:=H a=some u\/∃o,H a=some (.frz o u)
theorem Rd.ok {P:Program}{w:World}{H:Hp}{h:Heap}{a:Addr}{u:HO}(r:Rd H a u)(x:HOk P w H h):O7 P w H h a u:=by
 rcases r with r | ⟨o,r⟩
 ·exact x a u r
 ·obtain⟨_,q⟩:=x a _ r;exact q
def Mut:Option HO->Prop
 | some (.lst _)=>True
 | some (.dK _)=>True
 | some (.dT _)=>True
 | some (.set _ _)=>True
 | some (.ins _ _ _)=>True
 | some (.ext _)=>True
 | _=>False
section
variable {P:Program}{w:World}{x e:Addr}{o':HO}
theorem HOk.write (ok:HOk P w H h)(mu:Mut (H x))(he:e=x\/H e=some (.own x))(k:∀b u,b≠e->h.get? b=some u->h'.get? b=some u)(heo:∃u,h'.get? e=some u)
  (new:O7 P w (upd H x o') h' x o'):HOk P w (upd H x o') h':=λb u q=>by
 have nown:∀c y,H c=some (.own y)->c≠x:=λc y r z=>by subst z;rw[r] at mu;exact mu
 have ntup:∀c xs,H c=some (.tup xs)->c≠x:=λc xs r z=>by subst z;rw[r] at mu;exact mu
 by_cases hb:b=x
 ·subst hb;rw[B3] at q;cases q;exact new
 ·rw[B7 hb] at q;by_cases hbe:b=e
  ·have q':H b=some (.own x):=by
    rcases he with z | z
    ·exact absurd (hbe.trans z) hb
    ·rw[hbe];exact z
   rw[q] at q';cases q';obtain⟨v,hv⟩:=heo;exact⟨v,by rw[hbe];exact hv⟩
  ·refine (ok b u q).stay (λc v hc r=>k c v ?_ r) (λc r=>by rw[B7 (nown c b r)];exact r) λc xs r=>by rw[B7 (ntup c xs r)];exact r
   rcases hc with rfl | hc
   ·exact hbe
   ·rintro rfl;rcases he with z | z
    ·exact nown c b hc z
    ·rw[hc] at z;cases z;exact hb rfl
end
structure Un (fs ex:List Addr)(H H':Hp)(h h':Heap):Prop where
 keep:∀b o,h.get? b=some o->H b=none->b∉fs->b∉ex->h'.get? b=some o
 slot:∀b o,h.get? b=some o->H b=none->b∈fs->b∉ex->∃sl,h'.get? b=some { o with slots:=sl }
 free:∀b o,h.get? b=some o->H b=none->b∉ex->H' b=none
 there:∀b o,h.get? b=some o->b∉ex->∃o',h'.get? b=some o'
 tups:∀b xs,H b=some (.tup xs)->H' b=some (.tup xs)
 frzs:∀b o u,H b=some (.frz o u)->H' b=some (.frz o u)
 tbls:∀b ps,H b=some (.tbl ps)->∃more,H' b=some (.tbl (ps++more))
section
variable {fs fs' ex ex':List Addr}{H1 H2:Hp}{h1 h2:Heap}{x e:Addr}{o:HO}
theorem Un.any (u:Un fs ex H H1 h h1){b:Addr}{ob:Obj}(q:h.get? b=some ob)(n:H b=none)(hx:b∉ex):∃sl,h1.get? b=some { ob with slots:=sl }:=by
 by_cases hb:b∈fs
 ·exact u.slot b ob q n hb hx
 ·exact⟨ob.slots,u.keep b ob q n hb hx⟩
theorem Un.kept (k:∀b u,h.get? b=some u->h'.get? b=some u):Un fs ex H H h h':=
 ⟨λb ob q J J J=>k b ob q,λb ob q J J J=>⟨ob.slots,k b ob q⟩,λJ J J n J=>n,λb ob q J=>⟨ob,k b ob q⟩,λJ J q=>q,λJ J J q=>q,λJ ps q=>⟨#[],by rw[q];simp⟩⟩
theorem Un.refl:Un fs ex H H h h:=Un.kept λJ J q=>q
theorem Un.laid (k:∀b u,h.get? b=some u->h'.get? b=some u)(hp:h.objs.size<=a)(hn:H a=none):Un fs ex H (upd H a o) h h' where
 keep:=λb u q J J J=>k b u q
 slot:=λb u q J J J=>⟨u.slots,k b u q⟩
 free:=λb u q n J=>by rw[B7 (O0 (Q7 (G6 q) hp))];exact n
 there:=λb u q J=>⟨u,k b u q⟩
 tups:=λb xs q=>by rw[B7 (w6 q hn)];exact q
 frzs:=λb u xs q=>by rw[B7 (w6 q hn)];exact q
 tbls:=λb ps q=>⟨#[],by rw[B7 (w6 q hn),q];simp⟩
theorem Un.write (mu:Mut (H x))(he:e=x\/H e=some (.own x))(k:∀b u,b≠e->h.get? b=some u->h'.get? b=some u)(heo:∃u,h'.get? e=some u):Un fs ex H (upd H x o) h h':=by
 have hx:∀b,H b=none->b≠x:=λb n z=>by subst z;rw[n] at mu;exact mu
 have hb:∀b,H b=none->b≠e:=λb n z=>by
  subst z;rcases he with r | r
  ·exact hx b n r
  ·rw[n] at r;cases r
 have hm:∀b u,H b=some u->¬ Mut (some u)->b≠x:=λb u q nm z=>by subst z;rw[q] at mu;exact nm mu
 refine⟨λb u q n J J=>k b u (hb b n) q,λb u q n J J=>⟨u.slots,k b u (hb b n) q⟩,λb u q n J=>by rw[B7 (hx b n)];exact n,λb u q J=>?_,
  λb xs q=>by rw[B7 (hm b _ q λz=>z)];exact q,λb u xs q=>by rw[B7 (hm b _ q λz=>z)];exact q,λb ps q=>⟨#[],by rw[B7 (hm b _ q λz=>z),q];simp⟩⟩
 by_cases hbe:b=e
 ·subst hbe;exact heo
 ·exact⟨u,k b u hbe q⟩
end
def trk (h:Heap)(H:Hp):List Addr:=(T5 h.objs.size).filter λa=>(H a).isSome
def A2c (h:Heap)(H:Hp):Heap:=PySem.W.hideAll h (trk h H)
theorem C7u (h:Heap)(H:Hp):(A2c h H).objs.size=h.objs.size:=PySem.W.hideAll_size _ _
theorem C7v {h:Heap}{H:Hp}{b:Addr}{o:Obj}(e:h.get? b=some o)(n:H b=none):(A2c h H).get? b=some o:=
 PySem.W.hideAll_get _ e λhm=>by
  have q:(H b).isSome=true:=(B0n.mp hm).2;rw[n] at q;simp at q
theorem C7w {h:Heap}{H:Hp}{b:Addr}{o:Obj}(e:(A2c h H).get? b=some o):h.get? b=some o/\H b=none:=by
 have e':h.get? b=some o:=PySem.W.of_hideAll (trk h H) e;refine⟨e',?_⟩;cases q:H b with
 | none=>rfl
 | some x=>have hm:b∈trk h H:=B0n.mpr ⟨A0x.mpr (G6 e'),by simp [q]⟩;have z:(A2c h H).get? b=none:=PySem.W.hideAll_none (trk h H) hm;rw[z] at e;cases e
def C7x (g h:Heap)(L:Addr):List (Addr×Obj):=(T5 h.objs.size).filterMap λa=>if a=L\/(g.get? a).isSome=true then none else (h.get? a).map λo=>(a,o)
def T7 (g h:Heap)(L d:Addr):List (Addr×Obj):=(C7x g h L).filter λp=>decide (p.1≠d)
structure Mod (K:A8)(mg:Str->Option Value)(base:Heap):Prop where
 kin:K.In base
 glob:base.Ns mainGlobals mg
 blt:∃mb,base.Ns builtinsNs mb/\∀x:Str,x≠ "__name__" ->mb x=bootBuiltins x
 nolimit:base.NoLimit
structure Cx where
 prog:Program
 w:World
 K:A8
 mg:Str->Option Value
 base:Heap
 A:Around
 N:List Str
 s₀:Shared
 H₀:Hp
 env:Env
 outer:List Env
 stack:List Env
 ex:List Addr
 fn:Str->Bool
 calm:Bool
 pn:List (Addr×Obj)
 xe:Value->Shared->Prop
def frs (l:List Env):List Addr:=l.filterMap (·.frame)
abbrev Cx.fs (X:Cx):List Addr:=frs X.outer
def Vis (sc:Scope)(x:Str):Prop:=sc.names.lookup x=some .local\/sc.names.lookup x=some .cell\/sc.names.lookup x=some .free
def Loc (sc:Scope)(x:Str):Prop:=sc.names.lookup x=some .local\/sc.names.lookup x=some .cell
def B33 (env:Env)(h:Heap)(m:Str->Option Value)(x:Str)(u:Value):Prop:=
 (env.kindOf x=some .local/\m x=some u)\/((env.kindOf x=some .cell\/env.kindOf x=some .free)/\∃c,env.cells.lookup x=some c/\h.IsCell c (some u))
structure Cx.Ok (X:Cx):Prop where
 mod:Mod X.K X.mg X.base
 kind:X.env.scope.kind=.function
 glob:X.env.globals=mainGlobals
 blt:X.env.builtins=builtinsNs
 above:X.s₀.heap.objs.size<=X.env.locals
 inj:∀x y c,X.env.cells.lookup x=some c->X.env.cells.lookup y=some c->x=y
 has:∀x,(X.env.kindOf x=some .cell\/X.env.kindOf x=some .free)->∃c,X.env.cells.lookup x=some c
 cab:∀x c,X.fn x=true->X.env.cells.lookup x=some c->X.s₀.heap.objs.size<=c
 hd:X.calm=true->X.A.handled=none
 frames:X.A.frames=some X.stack
 stk:X.stack=X.outer\/(X.stack=X.env::X.outer/\X.env.frame=some X.env.locals)
 exf:∀b∈X.ex,b≠X.env.locals/\∀x c,X.env.cells.lookup x=some c->c≠b
 bs:∀b o,X.base.get? b=some o->X.s₀.heap.get? b=some o/\X.H₀ b=none
 bsz:X.base.objs.size<=X.s₀.heap.objs.size
 noex:∀b o,X.base.get? b=some o->b∉X.ex
 exfs:∀b∈X.ex,b∉X.fs
 funs:X.s₀.heap.FunFrames X.base X.outer
 frf:∀b∈X.fs,X.H₀ b=none
structure Inv (X:Cx)(pins:List (Addr×Obj))(σ:List (Option V))(H:Hp)(s:Shared):Prop where
 ok:X.Ok
 os:s.os=X.s₀.os
 bare:AllBare s.gens
 base:Un X.fs X.ex X.H₀ H X.s₀.heap s.heap
 loc:∃m,s.heap.Ns X.env.locals m/\∀(i:Nat)(x:Str)(v:V),X.N[i]?=some x->σ[i]?=some (some v)->Vis X.env.scope x->∃u,E1 v u/\B33 X.env s.heap m x u
 cell:∀x c,X.env.cells.lookup x=some c->∃v,s.heap.IsCell c v
 free:H X.env.locals=none
 freeC:∀x c,X.env.cells.lookup x=some c->H c=none
 pin:∀p∈X.pn++pins,s.heap.get? p.1=some p.2/\H p.1=none/\p.1≠X.env.locals/\p.1∉X.fs/\∀v,p.2.data≠.cell v
 hok:HOk X.prog X.w H s.heap
 len:σ.length=X.N.length
variable {X:Cx}{pins:List (Addr×Obj)}{s:Shared}
section
variable {σ:List (Option V)}
theorem Cx.Ok.nofr (ok:X.Ok){b:Addr}{o:Obj}(e:X.base.get? b=some o):b∉X.fs:=λhb=>by
 have:=(ok.funs.mem hb).1;rw[e] at this;cases this
theorem Inv.bs (I:Inv X pins σ H s):∀b o,X.base.get? b=some o->s.heap.get? b=some o/\H b=none:=λb o e=>
 ⟨I.base.keep b o (I.ok.bs b o e).1 (I.ok.bs b o e).2 (I.ok.nofr e) (I.ok.noex b o e),I.base.free b o (I.ok.bs b o e).1 (I.ok.bs b o e).2 (I.ok.noex b o e)⟩
theorem Inv.bk (I:Inv X pins σ H s):∀b o,X.base.get? b=some o->s.heap.get? b=some o:=λb o e=>(I.bs b o e).1
theorem Inv.mod (I:Inv X pins σ H s):Mod X.K X.mg X.base:=I.ok.mod
theorem Inv.kIn (I:Inv X pins σ H s):X.K.In s.heap:=I.ok.mod.kin.keeps I.bk
theorem Inv.lt (I:Inv X pins σ H s):X.env.locals<s.heap.objs.size:=let ⟨_,hn,_⟩:=I.loc;hn.lt
theorem Inv.sz (I:Inv X pins σ H s):X.s₀.heap.objs.size<=s.heap.objs.size:=J1 I.ok.above (A24 I.lt)
theorem Inv.nofs (I:Inv X pins σ H s){a:Addr}(h:s.heap.objs.size<=a):a∉X.fs:=λhb=>by
 obtain⟨_,o,ho,_⟩:=I.ok.funs.mem hb;exact absurd (Q7 (G6 ho) (J1 I.sz h)) (Z8 _)
theorem Inv.cne (I:Inv X pins σ H s):∀x c,X.env.cells.lookup x=some c->c≠X.env.locals:=λx c e z=>by
 obtain⟨v,o,ho,hd⟩:=I.cell x c e;obtain⟨m,⟨o',es,ep,ho',hd',_⟩,_⟩:=I.loc;rw[z,ho'] at ho;cases ho;rw[hd'] at hd;cases hd
theorem Inv.funs (I:Inv X pins σ H s):s.heap.FunFrames X.base X.outer:=by
 have all:∀(l:List Env),(∀b∈frs l,b∈X.fs)->X.s₀.heap.FunFrames X.base l->s.heap.FunFrames X.base l:=by
  intro l
  induction l with
  | nil=>intro _ _;trivial
  | cons env r ih=>intro hs hl;obtain⟨hk,⟨L,o,hf,hn,ho,hd⟩,hr⟩:=hl;have hL:L∈X.fs:=hs L (by unfold frs;rw[C64,hf];exact D6);obtain⟨sl,e⟩:=I.base.slot L o ho (I.ok.frf L hL) hL λz=>I.ok.exfs L z hL;exact⟨hk,⟨L,_,hf,hn,e,hd⟩,ih (λb hb=>hs b (by unfold frs;rw[C64,hf];exact C8 _ hb)) hr⟩
 exact all X.outer (λJ hb=>hb) I.ok.funs
theorem Inv.stack (I:Inv X pins σ H s):s.heap.FunFrames X.base X.stack:=by
 rcases I.ok.stk with e | ⟨e,hf⟩
 ·rw[e];exact I.funs
 ·rw[e];obtain⟨m,hn,_⟩:=I.loc;refine .cons (by rw[I.ok.kind];decide) hf hn ?_ I.funs;exact Heap.get?_none_of_le (J1 I.ok.bsz I.ok.above)
theorem Inv.stkSub (I:Inv X pins σ H s):∀b∈frs X.stack,b∈X.env.locals::X.fs:=λb hb=>by
 rcases I.ok.stk with e | ⟨e,hf⟩
 ·rw[e] at hb;exact C8 _ hb
 ·rw[e] at hb;unfold frs at hb;rw[C64,hf] at hb;exact hb
theorem Inv.stkFree (I:Inv X pins σ H s):∀b∈frs X.stack,H b=none:=λb hb=>by
 rcases G1.mp (I.stkSub b hb) with e | hb
 ·rw[e];exact I.free
 ·obtain⟨_,o,ho,_⟩:=I.ok.funs.mem hb;exact I.base.free b o ho (I.ok.frf b hb) λz=>I.ok.exfs b z hb
theorem Inv.step {g':Array GenState}{t':Nat}{d':Drawn}{ch:List Addr}(I:Inv X pins σ H s)
  (hch:∀b∈ch,(b∈X.ex\/X.s₀.heap.objs.size<=b)/\b≠X.env.locals/\(∀x c,X.env.cells.lookup x=some c->c≠b)/\∀p∈X.pn++pins,p.1≠b)
  (keep:∀b o,b≠X.env.locals->b∉X.fs->b∉ch->s.heap.get? b=some o->H b=none->h'.get? b=some o)
  (slot:∀b o,b≠X.env.locals->b∈X.fs->b∉ch->s.heap.get? b=some o->H b=none->∃sl,h'.get? b=some { o with slots:=sl }) (free:∀b o,b∉ch->s.heap.get? b=some o->H b=none->H' b=none)
  (there:∀b o,b∉ch->s.heap.get? b=some o->∃o',h'.get? b=some o')
  (tups:∀b xs,H b=some (.tup xs)->H' b=some (.tup xs)) (frzs:∀b o u,H b=some (.frz o u)->H' b=some (.frz o u)) (tbls:∀b ps,H b=some (.tbl ps)->∃more,H' b=some (.tbl (ps++more)))
  (ns:∀m,s.heap.Ns X.env.locals m->h'.Ns X.env.locals m) (hok:HOk X.prog X.w H' h') (hg:AllBare g') :
  Inv X pins σ H' { s with heap:=h',gens:=g',drawn:=d',toks:=t' }:=by
 have neL:∀b o,X.s₀.heap.get? b=some o->b≠X.env.locals:=λb o e=>O0 (Q7 (G6 e) I.ok.above);have neC:∀b o,X.s₀.heap.get? b=some o->b∉X.ex->b∉ch:=λb o e hx hb=>by
  rcases (hch b hb).1 with z | z
  ·exact hx z
  ·exact absurd (Q7 (G6 e) z) (Z8 _)
 have cellK:∀x c,X.env.cells.lookup x=some c->∀v,s.heap.IsCell c v->h'.IsCell c v:=λx c e v zz1=>el2 zz1 λo ho hd=>by
  have nch:c∉ch:=λz=>(hch c z).2.2.1 x c e rfl;by_cases hc:c∈X.fs
  ·obtain⟨sl,q⟩:=slot c o (I.cne x c e) hc nch ho (I.freeC x c e);exact⟨_,q,hd⟩
  ·exact⟨o,keep c o (I.cne x c e) hc nch ho (I.freeC x c e),hd⟩
 refine⟨I.ok,I.os,hg,⟨λb o e n hb hx=>?_,λb o e n hb hx=>?_,λb o e n hx=>?_,λb o e hx=>?_,λb xs e=>tups b xs (I.base.tups b xs e),λb o xs e=>frzs b o xs (I.base.frzs b o xs e),λb ps e=>?_⟩,?_,λx c e=>?_,?_,λx c e=>?_,λp hp=>?_,hok,I.len⟩
 ·exact keep b o (neL b o e) hb (neC b o e hx) (I.base.keep b o e n hb hx) (I.base.free b o e n hx)
 ·obtain⟨sl,e1⟩:=I.base.slot b o e n hb hx;obtain⟨sl',e2⟩:=slot b _ (neL b o e) hb (neC b o e hx) e1 (I.base.free b o e n hx);exact⟨sl',e2⟩
 ·obtain⟨o',e1⟩:=I.base.there b o e hx;exact free b o' (neC b o e hx) e1 (I.base.free b o e n hx)
 ·obtain⟨o',e1⟩:=I.base.there b o e hx;exact there b o' (neC b o e hx) e1
 ·obtain⟨m1,e1⟩:=I.base.tbls b ps e;obtain⟨m2,e2⟩:=tbls b _ e1;exact⟨m1++m2,by rw[e2,Array.append_assoc]⟩
 ·obtain⟨m,hn,hl⟩:=I.loc;refine⟨m,ns m hn,λi x v e1 e2 e3=>?_⟩;obtain⟨u,r,l⟩:=hl i x v e1 e2 e3;refine⟨u,r,?_⟩;rcases l with l | ⟨k,c,e,z⟩
  ·exact .inl l
  ·exact .inr ⟨k,c,e,cellK x c e _ z⟩
 ·obtain⟨v,z⟩:=I.cell x c e;exact⟨v,cellK x c e v z⟩
 ·obtain⟨m,⟨o,_,_,ho,_⟩,_⟩:=I.loc;exact free _ o (λz=>(hch _ z).2.1 rfl) ho I.free
 ·obtain⟨v,o,ho,hd⟩:=I.cell x c e;exact free c o (λz=>(hch c z).2.2.1 x c e rfl) ho (I.freeC x c e)
 ·obtain⟨e,n,ne,nf,d⟩:=I.pin p hp;have nch:p.1∉ch:=λz=>(hch p.1 z).2.2.2 p hp rfl;exact⟨keep p.1 p.2 ne nf nch e n,free p.1 p.2 nch e n,ne,nf,d⟩
theorem Inv.un {t':Nat}(I:Inv X pins σ H s)(u:Un X.fs [] H H' s.heap h')(hok:HOk X.prog X.w H' h'):Inv X pins σ H' { s with heap:=h',toks:=t' }:=by
 obtain⟨m,⟨o,es,ep,ho,r⟩,_⟩:=id I.loc;obtain⟨sl,hL⟩:=u.any ho I.free (by simp);exact I.step (g':=s.gens) (d':=s.drawn) (ch:=[]) (λJ z=>nomatch z) (λb o J hb J e n=>u.keep b o e n hb (by simp)) (λb o J hb J e n=>u.slot b o e n hb (by simp)) (λb o J e n=>u.free b o e n (by simp)) (λb o J e=>u.there b o e (by simp)) u.tups u.frzs u.tbls (λm' hm=>by
  obtain⟨o',es',ep',ho',r'⟩:=hm;rw[ho] at ho';cases ho';exact⟨_,es',ep',hL,r'⟩) hok I.bare
theorem Inv.call {g':Array GenState}{t':Nat}{d':Drawn}{ch:List Addr}(I:Inv X pins σ H s)(u:Un (frs X.stack) ch H H' s.heap h')(hok:HOk X.prog X.w H' h')(hg:AllBare g')
  (hch:∀b∈ch,(b∈X.ex\/X.s₀.heap.objs.size<=b)/\b≠X.env.locals/\(∀x c,X.env.cells.lookup x=some c->c≠b)/\∀p∈X.pn++pins,p.1≠b) :
  Inv X pins σ H' { s with heap:=h',gens:=g',drawn:=d',toks:=t' }:=by
 obtain⟨m,⟨o,es,ep,ho,r⟩,_⟩:=id I.loc;obtain⟨sl,hL⟩:=u.any ho I.free λz=>(hch _ z).2.1 rfl;exact I.step (ch:=ch) hch (λb o hL hb hc e n=>u.keep b o e n (λz=>(G1.mp (I.stkSub b z)).elim hL hb) hc) (λb o J J hc e n=>u.any e n hc) (λb o hc e n=>u.free b o e n hc) (λb o hc e=>u.there b o e hc) u.tups u.frzs u.tbls (λm' hm=>by
  obtain⟨o',es',ep',ho',r'⟩:=hm;rw[ho] at ho';cases ho';exact⟨_,es',ep',hL,r'⟩) hok hg
theorem Inv.turned {t':Nat}{it:Addr}(I:Inv X pins σ H s)(k:∀b o,b≠it->s.heap.get? b=some o->h'.get? b=some o)(hn:H it=none)(hL:it≠X.env.locals)
  (h1:it∈X.ex\/X.s₀.heap.objs.size<=it) (h2:∀x c,X.env.cells.lookup x=some c->c≠it) (h3:∀p∈X.pn++pins,p.1≠it):Inv X pins σ H { s with heap:=h',toks:=t' }:=by
 have nit:∀b u,H b=some u->b≠it:=λb u e z=>by rw[z,hn] at e;cases e
 refine I.step (g':=s.gens) (d':=s.drawn) (ch:=[it]) (λb hb=>?_) (λb o J J hc e J=>k b o (λz=>hc (by simp [z])) e) (λb o J J hc e J=>⟨o.slots,k b o (λz=>hc (by simp [z])) e⟩) (λJ J J J n=>n)
  (λb o hc e=>⟨o,k b o (λz=>hc (by simp [z])) e⟩) (λJ J e=>e) (λJ J J e=>e) (λb ps e=>⟨#[],by rw[e];simp⟩) (λm hm=>?_) (λb u e=>?_) I.bare
 ·have e:b=it:=by simpa using hb
  subst e;exact⟨h1,hL,h2,h3⟩
 ·obtain⟨o,es,ep,ho,r⟩:=hm;exact⟨o,es,ep,k _ o (Ne.symm hL) ho,r⟩
 ·refine (I.hok b u e).stay (λc v hc q=>k c v ?_ q) (λJ q=>q) λJ J q=>q;rcases hc with z | z
  ·rw[z];exact nit b u e
  ·exact nit c _ z
theorem Inv.tok (I:Inv X pins σ H s)(t:Nat):Inv X pins σ H { s with toks:=t }:=I.un (h':=s.heap) (t':=t) Un.refl I.hok
theorem Inv.kept {t':Nat}(I:Inv X pins σ H s)(k:∀b u,s.heap.get? b=some u->h'.get? b=some u):Inv X pins σ H { s with heap:=h',toks:=t' }:=I.un (Un.kept k) (I.hok.kept k)
theorem Inv.laid {a:Addr}{o:HO}{t':Nat}(I:Inv X pins σ H s)(k:∀b u,s.heap.get? b=some u->h'.get? b=some u)(hp:s.heap.objs.size<=a)(new:O7 X.prog X.w (upd H a o) h' a o) :
  Inv X pins σ (upd H a o) { s with heap:=h',toks:=t' }:=I.un (Un.laid k hp (I.hok.fresh hp)) (I.hok.laid k hp new)
theorem Inv.write {x e:Addr}{o:HO}{t':Nat}(I:Inv X pins σ H s)(mu:Mut (H x))(he:e=x\/H e=some (.own x))(k:∀b u,b≠e->s.heap.get? b=some u->h'.get? b=some u)(heo:∃u,h'.get? e=some u)
  (new:O7 X.prog X.w (upd H x o) h' x o):Inv X pins σ (upd H x o) { s with heap:=h',toks:=t' }:=I.un (Un.write mu he k heo) (I.hok.write mu he k heo new)
theorem Inv.weak {σ':List (Option V)}(I:Inv X pins σ H s)(hl:σ'.length=σ.length)(w:∀(i:Nat) v,σ'[i]?=some (some v)->σ[i]?=some (some v)):Inv X pins σ' H s:=
 ⟨I.ok,I.os,I.bare,I.base,let ⟨m,hn,hl'⟩:=I.loc;⟨m,hn,λi x v e1 e2 e3=>hl' i x v e1 (w i v e2) e3⟩,I.cell,I.free,I.freeC,I.pin,I.hok,hl.trans I.len⟩
theorem Inv.pins_of {pins':List (Addr×Obj)}(I:Inv X pins σ H s)(h:∀p∈pins',s.heap.get? p.1=some p.2/\H p.1=none/\p.1≠X.env.locals/\p.1∉X.fs/\∀v,p.2.data≠.cell v):Inv X pins' σ H s:=
 ⟨I.ok,I.os,I.bare,I.base,I.loc,I.cell,I.free,I.freeC,λp hp=>(A1j.mp hp).elim (λz=>I.pin p (B9f _ z)) (h p),I.hok,I.len⟩
theorem A3b {N:List Str}(hN:N.Nodup){i j:Nat}{x:Str}(a:N[i]?=some x)(b:N[j]?=some x):i=j:=by
 obtain⟨h1,e1⟩:=A0h.mp a;obtain⟨h2,e2⟩:=A0h.mp b;exact (List.getElem_inj hN).mp (e1.trans e2.symm)
theorem B34 {M:Model}{A:Around}{E:Value->Shared->Prop}{i:Nat}{x:Str}{v:V}{u:Value}{Q:Unit->Shared->Prop}(I:Inv X pins σ H s)(hN:X.N.Nodup)(hi:X.N[i]?=some x)(hx:Loc X.env.scope x)(r:E1 v u)
  (h:∀s',Inv X pins (σ.set i (some v)) H s'->(∃a,Heap.SameBut a s.heap s'.heap/\(a=X.env.locals\/X.env.cells.lookup x=some a))->Q () s') (hf:autoParam (X.fn x=true\/X.env.scope.names.lookup x=some .local) A0P._auto_1):wpAny M A (storeName X.env x u) Q E s:=by
 obtain⟨m,hn,hl⟩:=id I.loc;have hcls:(X.env.scope.kind == .class||(X.env.scope.kind == .module&&X.env.locals != X.env.globals))=false:=by rw[I.ok.kind];rfl
 have hiσ:i<σ.length:=by rw[I.len];exact (A0h.mp hi).1
 have cne:=I.cne;have tracked:∀{a:Addr}{h':Heap},(∃o,s.heap.get? a=some o/\H a=none)->Heap.SameBut a s.heap h'->HOk X.prog X.w H h':=λ{a h'} ha hs b ob e=>by
  obtain⟨_,_,hfree⟩:=ha;refine (I.hok b ob e).stay (λc w' hc q=>(hs.2 c ?_).trans q) (λJ q=>q) λJ J q=>q;rintro rfl;rcases hc with rfl | hc
  ·rw[hfree] at e;cases e
  ·rw[hfree] at hc;cases hc
 rcases hx with hk | hk
 ·refine wpAny_storeName_local hk hn (λh' hn' hs=>?_) hcls;obtain⟨oL,_,_,hoL,_⟩:=id hn;refine h _ ⟨I.ok,I.os,I.bare,⟨λb o e n hb hx=>?_,λb o e n hb hx=>?_,I.base.free,λb o e hx=>?_,I.base.tups,I.base.frzs,I.base.tbls⟩,⟨_,hn',λj y v' e1 e2 e3=>?_⟩,λy c e=>?_,I.free,I.freeC,λp hp=>?_,tracked ⟨oL,hoL,I.free⟩ hs,by simpa using I.len⟩ ⟨_,hs,.inl rfl⟩
  ·exact (hs.2 b (O0 (Q7 (G6 e) I.ok.above))).trans (I.base.keep b o e n hb hx)
  ·obtain⟨sl,e1⟩:=I.base.slot b o e n hb hx;exact⟨sl,(hs.2 b (O0 (Q7 (G6 e) I.ok.above))).trans e1⟩
  ·obtain⟨o',e1⟩:=I.base.there b o e hx;exact⟨o',(hs.2 b (O0 (Q7 (G6 e) I.ok.above))).trans e1⟩
  ·by_cases hj:j=i
   ·subst hj;rw[hi] at e1;cases e1;rw[List.getElem?_set_self hiσ] at e2;cases e2;exact⟨u,r,.inl ⟨hk,by simp⟩⟩
   ·rw[v8 (Ne.symm hj)] at e2;obtain⟨u',r',q⟩:=hl j y v' e1 e2 e3;refine⟨u',r',?_⟩;rcases q with ⟨k,e⟩ | ⟨k,c,e,z⟩
    ·refine .inl ⟨k,?_⟩;have:y≠x:=λe=>hj (A3b hN e1 (e▸hi));simp [this,e]
    ·exact .inr ⟨k,c,e,z.sameBut hs (cne y c e)⟩
  ·obtain⟨w',z⟩:=I.cell y c e;exact⟨w',z.sameBut hs (cne y c e)⟩
  ·obtain⟨e,n,ne,nf,d⟩:=I.pin p hp;exact⟨(hs.2 p.1 ne).trans e,n,ne,nf,d⟩
 ·have hfn:X.fn x=true:=by
   rcases hf with z | z
   ·exact z
   ·rw[z] at hk;cases hk
  obtain⟨c,hc⟩:=I.ok.has x (.inl hk);obtain⟨w',z⟩:=I.cell x c hc;refine wpAny_storeName_cell I.ok.kind hk hc z (λh' hc' hs=>?_);obtain⟨oc,hoc,hocd⟩:=id z;refine h { s with heap:=h' } ⟨I.ok,I.os,I.bare,⟨λb o e n hb hx=>?_,λb o e n hb hx=>?_,I.base.free,λb o e hx=>?_,I.base.tups,I.base.frzs,I.base.tbls⟩,⟨m,hn.sameBut hs (Ne.symm (cne x c hc)),λj y v' e1 e2 e3=>?_⟩,λy c' e=>?_,I.free,I.freeC,λp hp=>?_,tracked ⟨oc,hoc,I.freeC x c hc⟩ hs,by simpa using I.len⟩ ⟨c,hs,.inr hc⟩
  ·exact (hs.2 b (O0 (Q7 (G6 e) (I.ok.cab x c hfn hc)))).trans (I.base.keep b o e n hb hx)
  ·obtain⟨sl,e1⟩:=I.base.slot b o e n hb hx;exact⟨sl,(hs.2 b (O0 (Q7 (G6 e) (I.ok.cab x c hfn hc)))).trans e1⟩
  ·obtain⟨o',e1⟩:=I.base.there b o e hx;exact⟨o',(hs.2 b (O0 (Q7 (G6 e) (I.ok.cab x c hfn hc)))).trans e1⟩
  ·by_cases hj:j=i
   ·subst hj;rw[hi] at e1;cases e1;rw[List.getElem?_set_self hiσ] at e2;cases e2;exact⟨u,r,.inr ⟨.inl hk,c,hc,hc'⟩⟩
   ·rw[v8 (Ne.symm hj)] at e2;obtain⟨u',r',q⟩:=hl j y v' e1 e2 e3;refine⟨u',r',?_⟩;rcases q with q | ⟨k,c',e,z'⟩
    ·exact .inl q
    ·refine .inr ⟨k,c',e,z'.sameBut hs ?_⟩;rintro rfl;exact hj (A3b hN e1 (I.ok.inj _ _ _ e hc▸hi))
  ·by_cases hcc:c'=c
   ·subst hcc;exact⟨_,hc'⟩
   ·obtain⟨w2,z2⟩:=I.cell y c' e;exact⟨w2,z2.sameBut hs hcc⟩
  ·obtain⟨e,n,ne,nf,d⟩:=I.pin p hp;refine⟨(hs.2 p.1 ?_).trans e,n,ne,nf,d⟩;intro q;rw[q,hoc] at e;have q':oc=p.2:=Option.some.inj e;exact d w' (by rw[<-q'];exact hocd)
theorem B35 {M:Model}{A:Around}{E:Value->Shared->Prop}{i:Nat}{x:Str}{v:V}{u:Value}{Q:Unit->Shared->Prop}(I:Inv X pins σ H s)(hN:X.N.Nodup)(hi:X.N[i]?=some x)(hx:Loc X.env.scope x)(r:E1 v u)
  (h:∀s',Inv X pins (σ.set i (some v)) H s'->Q () s') (hf:autoParam (X.fn x=true\/X.env.scope.names.lookup x=some .local) A0P._auto_1):wpAny M A (storeName X.env x u) Q E s:=
 B34 I hN hi hx r (λs' I' J=>h s' I') hf
theorem Inv.call' {s':Shared}{ch:List Addr}(I:Inv X pins σ H s)(ho:s'.os=s.os)(u:Un (frs X.stack) ch H H' s.heap s'.heap)(hok:HOk X.prog X.w H' s'.heap)(hg:AllBare s'.gens)
  (hch:∀b∈ch,(b∈X.ex\/X.s₀.heap.objs.size<=b)/\b≠X.env.locals/\(∀x c,X.env.cells.lookup x=some c->c≠b)/\∀p∈X.pn++pins,p.1≠b):Inv X pins σ H' s':=by
 obtain⟨h',g',d',t',o'⟩:=s';have e:o'=s.os:=ho;subst e;exact I.call (g':=g') (t':=t') (d':=d') u hok hg hch
end
abbrev XK:=Value->Option Addr->Hp->Prop
abbrev St:=List (Option V)
abbrev VK:=V->Hp->Prop
abbrev TE:=St->Hp->VK->Prop
abbrev TT:=St->Hp->(Bool->Hp->Prop)->Prop
abbrev TA:=St->Hp->(List V->Hp->Prop)->Prop
structure A0j where
 nx:St->Hp->Prop
 rt:VK
 bk:St->Hp->Prop:=λ_ _=>False
 ct:St->Hp->Prop:=λ_ _=>False
abbrev TS:=A0j->St->Hp->Prop
def EP (X:Cx)(pins:List (Addr×Obj))(σ:St)(Q:VK)(u:Value)(s':Shared):Prop:=∃v H',Inv X pins σ H' s'/\E1 v u/\Q v H'
def TP (X:Cx)(pins:List (Addr×Obj))(σ:St)(Q:Bool->Hp->Prop)(b:Bool)(s':Shared):Prop:=∃H',Inv X pins σ H' s'/\Q b H'
def AP (X:Cx)(pins:List (Addr×Obj))(σ:St)(Q:List V->Hp->Prop)(us:List Value)(s':Shared):Prop:=∃vs H',Inv X pins σ H' s'/\C6 vs us/\Q vs H'
def SP (X:Cx)(pins:List (Addr×Obj))(D:A0j)(f:Flow)(s':Shared):Prop:=
 match f with
 | .next=>∃σ' H',Inv X pins σ' H' s'/\D.nx σ' H'
 | .brk=>∃σ' H',Inv X pins σ' H' s'/\D.bk σ' H'
 | .cont=>∃σ' H',Inv X pins σ' H' s'/\D.ct σ' H'
 | .ret u=>∃v σ' H',Inv X pins σ' H' s'/\E1 v u/\D.rt v H'
def PE (X:Cx)(e:Expr)(t:TE):Prop:=
 ∀(pins:List (Addr×Obj))(s:Shared)(σ:St)(H:Hp)(Q:VK),Inv X pins σ H s->t σ H Q->wpAny (model X.prog X.w) X.A (eval e X.env) (EP X pins σ Q) X.xe s
def PT (X:Cx)(e:Expr)(t:TT):Prop:=
 ∀(pins:List (Addr×Obj))(s:Shared)(σ:St)(H:Hp)(Q:Bool->Hp->Prop),Inv X pins σ H s->t σ H Q->wpAny (model X.prog X.w) X.A (isTrue e X.env (eval e X.env)) (TP X pins σ Q) X.xe s
def PW (X:Cx)(e:Expr)(t:TT):Prop:=
 ∀(whole:Sem Value)(pins:List (Addr×Obj))(s:Shared)(σ:St)(H:Hp)(Q:Bool->Hp->Prop),Inv X pins σ H s->t σ H Q->wpAny (model X.prog X.w) X.A (isTrue e X.env whole) (TP X pins σ Q) X.xe s
theorem PW.pt {X:Cx}{e:Expr}{t:TT}(h:PW X e t):PT X e t:=h _
def PA (X:Cx)(es:List Expr)(t:TA):Prop:=
 ∀(pos:Pos)(pins:List (Addr×Obj))(s:Shared)(σ:St)(H:Hp)(Q:List V->Hp->Prop),Inv X pins σ H s->t σ H Q->wpAny (model X.prog X.w) X.A (spliced (backTo pos (starEach es X.env))) (AP X pins σ Q) X.xe s
def PS (X:Cx)(st:Stmt)(t:TS):Prop:=
 ∀(pins:List (Addr×Obj))(s:Shared)(σ:St)(H:Hp)(D:A0j),Inv X pins σ H s->t D σ H->wpAny (model X.prog X.w) X.A (exec st X.env) (SP X pins D) X.xe s
def PSs (X:Cx)(st:List Stmt)(t:TS):Prop:=
 ∀(pins:List (Addr×Obj))(s:Shared)(σ:St)(H:Hp)(D:A0j),Inv X pins σ H s->t D σ H->wpAny (model X.prog X.w) X.A (execs st X.env) (SP X pins D) X.xe s
theorem thn {α:Type}{t:Sem α}{Q Q':α->Shared->Prop}{M:Model}{A:Around}{E:Value->Shared->Prop}{s:Shared}(h:wpAny M A t Q E s)(hQ:∀a s,Q a s->Q' a s):wpAny M A t Q' E s:=wpAny_mono h hQ λJ J x=>x
variable {ta tb:TE}{pos:Pos}
section
def Y9 (i:Nat):TE:=fun σ H Q=>∃v,σ[i]?=some (some v)/\Q v H
def tC (v:V):TE:=λJ H Q=>Q v H
theorem C7y {i:Nat}{x:Str}{pos:Pos}(hN:X.N[i]?=some x)(hv:Vis X.env.scope x)(hd:autoParam ((x == ("__debug__" : Str))=false) DD._auto_1)(hcd:autoParam ((x == ("__classdict__" : Str))=false) DD._auto_1):PE X (.Name x pos) (Y9 i):=by
 intro pins s σ H Q I h;obtain⟨v,e,h⟩:=h;obtain⟨m,hn,hl⟩:=I.loc;obtain⟨u,r,l⟩:=hl i x v hN e hv;have fin:EP X pins σ Q u s:=⟨v,H,I,r,h⟩;rcases l with ⟨hk,hm⟩ | ⟨hk,c,hc,hcell⟩
 ·exact wpAny_Name (wpAny_loadName_local I.ok.kind hk hn hm fin) hd
 ·rcases hk with hk | hk
  ·exact wpAny_Name (wpAny_loadName_cell I.ok.kind hk hc hcell fin) hd
  ·exact wpAny_Name (wpAny_loadName_free I.ok.kind hk hc hcell fin hcd) hd
theorem A7 {i j pos}:PE X (.Constant (.int i) j pos) (tC (.int i)):=λJ J J H J I h=>wpAny_Constant_int ⟨.int i,H,I.tok _,⟨_,rfl⟩,h⟩
theorem A6z {b j pos}:PE X (.Constant (.bool b) j pos) (tC (.bl b)):=λJ J J H J I h=>Constant_bool ⟨.bl b,H,I,rfl,h⟩
theorem m7 {j pos}:PE X (.Constant .none j pos) (tC .non):=λJ J J H J I h=>Constant_none ⟨.non,H,I,rfl,h⟩
theorem F6 {x j pos}:PE X (.Constant (.str x) j pos) (tC (.str x)):=λJ J J H J I h=>Calls.Constant_str ⟨.str x,H,I.tok _,⟨_,rfl⟩,h⟩
def Gl (X:Cx)(x:Str):Prop:=X.env.kindOf x=some .globalImplicit
theorem B00 {E:Value->Shared->Prop}{pins:List (Addr×Obj)}{s:Shared}{σ:St}{H:Hp}{x:Str}{u:Value}{pos:Pos}{Q:Value->Shared->Prop}(I:Inv X pins σ H s)(hg:Gl X x)(hm:X.mg x=some u)(h:Q u s)
  (hd:autoParam ((x == ("__debug__" : Str))=false) DD._auto_1):wpAny (model X.prog X.w) X.A (eval (.Name x pos) X.env) Q E s:=
 Calls.Name_function_global I.ok.kind hg (Calls.loadGlobal_global (by rw[I.ok.glob];exact I.mod.glob.keeps I.bk) hm h) hd
theorem A2d {E:Value->Shared->Prop}{pins:List (Addr×Obj)}{s:Shared}{σ:St}{H:Hp}{x:Str}{u:Value}{pos:Pos}{Q:Value->Shared->Prop}(I:Inv X pins σ H s)(hg:Gl X x)(hm:X.mg x=none)(hv:bootBuiltins x=some u)(h:Q u s)
  (hn:autoParam (x≠ "__name__" ) DD._auto_1) (hd:autoParam ((x == ("__debug__" : Str))=false) DD._auto_1):wpAny (model X.prog X.w) X.A (eval (.Name x pos) X.env) Q E s:=by
 obtain⟨mb,h1,h2⟩:=I.mod.blt;exact Calls.Name_function_global I.ok.kind hg (Calls.loadGlobal_builtin (by rw[I.ok.glob];exact I.mod.glob.keeps I.bk) hm (by rw[I.ok.blt];exact h1.keeps I.bk) ((h2 x hn).trans hv) h) hd
theorem C4 {x:Str}{v:V}{u:Value}{pos:Pos}(hg:Gl X x)(hm:X.mg x=some u)(r:E1 v u)(hd:autoParam ((x == ("__debug__" : Str))=false) DD._auto_1):PE X (.Name x pos) (tC v):=
 λJ J J H J I h=>B00 I hg hm ⟨v,H,I,r,h⟩ hd
theorem A80 {x:Str}{v:V}{u:Value}{pos:Pos}(hg:Gl X x)(hm:X.mg x=none)(hv:bootBuiltins x=some u)(r:E1 v u)(hn:autoParam (x≠ "__name__" ) DD._auto_1)(hd:autoParam ((x == ("__debug__" : Str))=false) DD._auto_1):PE X (.Name x pos) (tC v):=
 λJ J J H J I h=>A2d I hg hm hv ⟨v,H,I,r,h⟩ hn hd
variable {a b:Expr}
def PC (X:Cx)(op:CmpOp)(a b:Expr)(t:TE):Prop:=
 ∀(pins:List (Addr×Obj))(s:Shared)(σ:St)(H:Hp)(Q:VK),Inv X pins σ H s->t σ H Q->
  wpAny (model X.prog X.w) X.A (eval a X.env) (λv s₁=>wpAny (model X.prog X.w) X.A (eval b X.env) (λu s₂=>wpAny (model X.prog X.w) X.A (compareOp op v u) (EP X pins σ Q) X.xe s₂) X.xe s₁) X.xe s
def tB (t:TE):TT:=fun σ H Q=>t σ H λx H1=>∃c,x=.bl c/\Q c H1
theorem B36 {op:CmpOp}{t:TE}(h:PC X op a b t)(h1:behindInMarks op b=false:=by first | exact nobehind _ DD DD | rfl):PT X (.Compare a [op] [b] pos) (tB t):=by
 intro pins s σ H Q I hw;refine wpAny_isTrue_Compare1 (thn (h pins s σ H _ I hw) λv s1 h1=>thn h1 λu s2 h2=>thn h2 λc s3 zz6=>el5 zz6 λx H1 I1 r1 q1=>?_) h1;obtain⟨d,rfl,q⟩:=q1;cases r1;exact wpAny_truthy_bool ⟨H1,I1,q⟩
theorem U4 {e:Expr}{t:TE}(h:PE X e t)(he:autoParam (∀whole,isTrue e X.env whole=(do let v <-whole;standAt e.pos;holding [v] (truthy v))) A2P._auto_1):PT X e (tB t):=by
 intro pins s σ H Q I hw;refine isTrue_plain (thn (h pins s σ H _ I hw) λv s1 zz7=>el5 zz7 λx H1 I1 r1 q1=>?_) (he _);obtain⟨d,rfl,q⟩:=q1;cases r1;exact wpAny_truthy_bool ⟨H1,I1,q⟩
variable {tA tB':TT}{T7:List Expr}
def B91 (t u:TT):TT:=fun σ H Q=>t σ H λc H1=>if c=true then u σ H1 Q else Q false H1
def tOr (t u:TT):TT:=fun σ H Q=>t σ H λc H1=>if c=true then Q true H1 else u σ H1 Q
def C7z (t:TT):TT:=fun σ H Q=>t σ H λc H1=>Q (!c) H1
theorem A60 (ha:PT X a tA):PW X (.BoolOp .And [a] pos) tA:=by
 intro wh pins s σ H Q I h;refine isTrue_and (thn (ha pins s σ H Q I h) λc s1 e=>?_);cases c with
 | true=>exact isTrue_and_nil e
 | false=>exact e
theorem A3c (ha:PT X a tA):PW X (.BoolOp .Or [a] pos) tA:=by
 intro wh pins s σ H Q I h;refine isTrue_or (thn (ha pins s σ H Q I h) λc s1 e=>?_);cases c with
 | false=>exact isTrue_or_nil e
 | true=>exact e
theorem A61 (ha:PT X a tA)(hb:PW X (.BoolOp .And (b::T7) pos) tB'):PW X (.BoolOp .And (a::b::T7) pos) (B91 tA tB'):=by
 intro wh pins s σ H Q I h;refine isTrue_and (thn (ha pins s σ H _ I h) λc s1 zz8=>el2 zz8 λH1 I1 q1=>?_);cases c with
 | true=>exact hb wh pins s1 σ H1 Q I1 q1
 | false=>exact⟨H1,I1,q1⟩
theorem A3d (ha:PT X a tA)(hb:PW X (.BoolOp .Or (b::T7) pos) tB'):PW X (.BoolOp .Or (a::b::T7) pos) (tOr tA tB'):=by
 intro wh pins s σ H Q I h;refine isTrue_or (thn (ha pins s σ H _ I h) λc s1 zz9=>el2 zz9 λH1 I1 q1=>?_);cases c with
 | true=>exact⟨H1,I1,q1⟩
 | false=>exact hb wh pins s1 σ H1 Q I1 q1
theorem T0 (ha:PT X a tA):PT X (.UnaryOp .Not a pos) (C7z tA):=by
 intro pins s σ H Q I h;exact isTrue_not (ha pins s σ H (λc H1=>Q (!c) H1) I h)
def C70 (ta tb:TE):TE:=fun σ H Q=>ta σ H λx H1=>∃c,x=.bl c/\if c=true then tb σ H1 Q else Q (.bl false) H1
def C71 (ta tb:TE):TE:=fun σ H Q=>ta σ H λx H1=>∃c,x=.bl c/\if c=true then Q (.bl true) H1 else tb σ H1 Q
def C72 (ta:TE):TE:=fun σ H Q=>ta σ H λx H1=>∃c,x=.bl c/\Q (.bl (!c)) H1
theorem B01 {op}{t:TE}(h:PE X a t):PE X (.BoolOp op [a] pos) t:=λpins s σ H Q I hw=>BoolOp_one (h pins s σ H Q I hw)
theorem B37 (ha:PE X a ta)(hb:PE X (.BoolOp .And (b::T7) pos) tb):PE X (.BoolOp .And (a::b::T7) pos) (C70 ta tb):=by
 intro pins s σ H Q I h;refine BoolOp_and (thn (ha pins s σ H _ I h) λv s1 zz10=>el5 zz10 λx H1 I1 r1 q1=>?_);obtain⟨c,rfl,q1⟩:=q1;cases r1;refine wpAny_truthy_bool ?_;cases c with
 | true=>exact hb pins s1 σ H1 Q I1 q1
 | false=>exact⟨.bl false,H1,I1,rfl,q1⟩
theorem B92 (ha:PE X a ta)(hb:PE X (.BoolOp .Or (b::T7) pos) tb):PE X (.BoolOp .Or (a::b::T7) pos) (C71 ta tb):=by
 intro pins s σ H Q I h;refine BoolOp_or (thn (ha pins s σ H _ I h) λv s1 zz11=>el5 zz11 λx H1 I1 r1 q1=>?_);obtain⟨c,rfl,q1⟩:=q1;cases r1;refine wpAny_truthy_bool ?_;cases c with
 | false=>exact hb pins s1 σ H1 Q I1 q1
 | true=>exact⟨.bl true,H1,I1,rfl,q1⟩
theorem C73 (ha:PE X a ta):PE X (.UnaryOp .Not a pos) (C72 ta):=by
 intro pins s σ H Q I h;refine UnaryOp_ (thn (ha pins s σ H _ I h) λv s1 zz12=>el5 zz12 λx H1 I1 r1 q1=>?_);obtain⟨c,rfl,q1⟩:=q1;cases r1;exact not_of (wpAny_truthy_bool ⟨.bl (!c),H1,I1,rfl,q1⟩)
def tIf (t:TT)(ta tb:TE):TE:=fun σ H Q=>t σ H λc H1=>if c=true then ta σ H1 Q else tb σ H1 Q
theorem A62 {c:Expr}(hc:PT X c tA)(ha:PE X a ta)(hb:PE X b tb):PE X (.IfExp c a b pos) (tIf tA ta tb):=by
 intro pins s σ H Q I h;refine wpAny_IfExp (thn (hc pins s σ H _ I h) λd s1 zz13=>el2 zz13 λH1 I1 q1=>?_);cases d with
 | true=>exact ha pins s1 σ H1 Q I1 q1
 | false=>exact hb pins s1 σ H1 Q I1 q1
end
def SqL (K:A8)(H:Hp)(a:Addr)(xs:List V):Prop:=
 Rd H a (.lst xs)\/
  ∃(o:Obj)(its:Array Value)(n:Nat),K.lookup a=some o/\o.cls=.type "list" /\o.dict=none/\o.data=.seq its n/\its.size<=sizeLine/\C6 xs its.toList
def SqT (K:A8)(H:Hp)(a:Addr)(xs:List V):Prop:=
 Rd H a (.tup xs)\/
  ∃(o:Obj)(its:Array Value)(n:Nat),K.lookup a=some o/\o.cls=.type "tuple" /\o.data=.seq its n/\its.size<=sizeLine/\C6 xs its.toList
def C74:Value->Option V
 | .none=>some .non
 | .bool b=>some (.bl b)
 | .int i _=>some (.int i)
 | .str x _=>some (.str x)
 | .bytes b _=>some (.byt b)
 | .float b _=>some (.flt b)
 | .ref a=>some (.ref a)
 | .type n=>some (.ty n)
 | _=>none
theorem E1.abs {x:V}{u:Value}(r:E1 x u):C74 u=some x:=by
 cases x with
 | non=>cases r;rfl
 | bl _=>cases r;rfl
 | int _=>obtain⟨t,rfl⟩:=r;rfl
 | str _=>obtain⟨t,rfl⟩:=r;rfl
 | byt _=>obtain⟨t,rfl⟩:=r;rfl
 | flt _=>obtain⟨t,rfl⟩:=r;rfl
 | ref _=>cases r;rfl
 | ty _=>cases r;rfl
theorem E1.inj {x y:V}{u:Value}(r:E1 x u)(q:E1 y u):x=y:=Option.some.inj (r.abs.symm.trans q.abs)
theorem C6.inj {xs ys:List V}{us:List Value}(h:C6 xs us)(k:C6 ys us):xs=ys:=by
 induction h generalizing ys with
 | nil=>cases k;rfl
 | cons r t ih=>
  cases k with
  | cons r' t'=>rw[r.inj r',ih t']
variable {σ:St}
section
variable {xs ys:List V}
theorem SqL.of {K:A8}(h:H a=some (.lst xs)):SqL K H a xs:=.inl (.inl h)
theorem SqT.of {K:A8}(h:H a=some (.tup xs)):SqT K H a xs:=.inl (.inl h)
theorem Inv.list (I:Inv X pins σ H s)(h:SqL X.K H a xs):∃its:List Value,C6 xs its/\PlainL s.heap a its.toArray/\xs.length<=sizeLine:=by
 rcases h with h | ⟨o,its,n,hk,hc,hd,hs,hz,r⟩
 ·obtain⟨z,its,n,r,e⟩:=h.ok I.hok;exact⟨its,r,⟨_,n,e,rfl,rfl,rfl⟩,z⟩
 ·refine⟨its.toList,r,⟨o,n,I.kIn a o hk,hc,hd,by simpa using hs⟩,?_⟩;have e:=r.length;simp only[A8r] at e;omega
theorem Inv.tuple (I:Inv X pins σ H s)(h:SqT X.K H a xs):∃its:List Value,C6 xs its/\IsTup s.heap a its.toArray/\xs.length<=sizeLine:=by
 rcases h with h | ⟨o,its,n,hk,hc,hs,hz,r⟩
 ·obtain⟨z,its,r,p⟩:=h.ok I.hok;exact⟨its,r,p,z⟩
 ·refine⟨its.toList,r,⟨o,I.kIn a o hk,hc,n,by simpa using hs⟩,?_⟩;have e:=r.length;simp only[A8r] at e;omega
theorem Inv.list_inj (I:Inv X pins σ H s)(h:SqL X.K H a xs)(h':SqL X.K H a ys):xs=ys:=by
 obtain⟨its,r,⟨o,n,e,_,_,d⟩,_⟩:=I.list h;obtain⟨its',r',⟨o',n',e',_,_,d'⟩,_⟩:=I.list h';rw[e] at e';cases e';rw[d] at d';injection d' with d1 _
 have:its=its':=by simpa using congrArg Array.toList d1
 subst this;exact r.inj r'
end
abbrev Cx.wish (X:Cx)(E:Value->Shared->Prop):Cx:={ X with xe:=E }
abbrev Cx.nox (X:Cx):Cx:=X.wish λJ J=>False
theorem Cx.Ok.wish {X:Cx}(ok:X.Ok)(E:Value->Shared->Prop):(X.wish E).Ok:=
 ⟨ok.mod,ok.kind,ok.glob,ok.blt,ok.above,ok.inj,ok.has,ok.cab,ok.hd,ok.frames,ok.stk,ok.exf,ok.bs,ok.bsz,ok.noex,ok.exfs,ok.funs,ok.frf⟩
theorem Cx.Ok.unwish {X:Cx}{E:Value->Shared->Prop}(ok:(X.wish E).Ok):X.Ok:=
 ⟨ok.mod,ok.kind,ok.glob,ok.blt,ok.above,ok.inj,ok.has,ok.cab,ok.hd,ok.frames,ok.stk,ok.exf,ok.bs,ok.bsz,ok.noex,ok.exfs,ok.funs,ok.frf⟩
variable {E:Value->Shared->Prop}
theorem Inv.wish (I:Inv X pins σ H s)(E:Value->Shared->Prop):Inv (X.wish E) pins σ H s:=⟨I.ok.wish E,I.os,I.bare,I.base,I.loc,I.cell,I.free,I.freeC,I.pin,I.hok,I.len⟩
theorem Inv.unwish (I:Inv (X.wish E) pins σ H s):Inv X pins σ H s:=⟨I.ok.unwish,I.os,I.bare,I.base,I.loc,I.cell,I.free,I.freeC,I.pin,I.hok,I.len⟩
theorem SP.unwish {D:A0j}{f:Flow}{s':Shared}(h:SP (X.wish E) pins D f s'):SP X pins D f s':=by
 cases f with
 | next=>obtain⟨σ',H',I,q⟩:=h;exact⟨σ',H',I.unwish,q⟩
 | brk=>obtain⟨σ',H',I,q⟩:=h;exact⟨σ',H',I.unwish,q⟩
 | cont=>obtain⟨σ',H',I,q⟩:=h;exact⟨σ',H',I.unwish,q⟩
 | ret u=>obtain⟨v,σ',H',I,r,q⟩:=h;exact⟨v,σ',H',I.unwish,r,q⟩
theorem PSs.nox {st:List Stmt}{t:TS}(h:PSs X.nox st t):PSs X st t:=λpins s σ H D I hw=>
 wpAny_mono (h pins s σ H D (I.wish _) hw) (λJ J q=>q.unwish) λJ J z=>False.elim z
variable {e:Expr}{te:TE}
section
variable {st:Stmt}{T7:List Stmt}{t u:TS}
def C75:TS:=λD σ H=>D.nx σ H
def A81 (t u:TS):TS:=λD σ H=>t { D with nx:=u D } σ H
theorem K2:PSs X [] C75:=λJ J σ H J I h=>wpAny_execs_nil ⟨σ,H,I,h⟩
theorem B5 (h1:PS X st t)(h2:PSs X T7 u):PSs X (st::T7) (A81 t u):=by
 intro pins s σ H D I h;refine wpAny_execs_cons (thn (h1 pins s σ H { D with nx:=u D } I h) λf s1 q=>?_);cases f with
 | next=>obtain⟨σ',H',I',q⟩:=q;exact h2 pins s1 σ' H' D I' q
 | ret v=>exact q
 | brk=>exact q
 | cont=>exact q
theorem C1 (h1:PS X st t):PSs X [st] t:=by
 intro pins s σ H D I h;refine wpAny_execs_cons (thn (h1 pins s σ H D I h) λf s1 q=>?_);cases f with
 | next=>exact wpAny_execs_nil q
 | ret v=>exact q
 | brk=>exact q
 | cont=>exact q
theorem Inv.quiet {pins:List (Addr×Obj)}{σ:St}{H:Hp}{s:Shared}(I:Inv X pins σ H s):interactive X.env=false:=by simp [interactive,I.ok.kind]
def B93 (te:TE):TS:=λD σ H=>te σ H λJ H1=>D.nx σ H1
theorem A0k (he:PE X e te)(hs:autoParam (swapsWith e none pos.line X.env=pure false) RF._auto_1):PS X (.Expr e pos) (B93 te):=by
 intro pins s σ H D I h;exact wpAny_Expr_any (thn (he pins s σ H _ I h) λv s1 zz20=>el5 zz20 λx H1 I1 r1 q1=>⟨σ,H1,I1,q1⟩) I.quiet hs
def C76 (te:TE):TS:=λD σ H=>te σ H D.rt
theorem E3 (he:PE X e te):PS X (.Return (some e) pos) (C76 te):=by
 intro pins s σ H D I h;exact wpAny_Return_some (thn (he pins s σ H _ I h) λv s1 zz21=>el5 zz21 λx H1 I1 r1 q1=>⟨x,σ,H1,I1,r1,q1⟩)
def B94 (c:TT)(t u:TS):TS:=λD σ H=>c σ H λb H1=>if b=true then t D σ H1 else u D σ H1
theorem J6 {c:Expr}{a b:List Stmt}{tc:TT}(hc:PT X c tc)(ha:PSs X a t)(hb:PSs X b u):PS X (.If c a b pos) (B94 tc t u):=by
 intro pins s σ H D I h;refine wpAny_If (thn (hc pins s σ H _ I h) λd s1 zz22=>el2 zz22 λH1 I1 q1=>?_);cases d with
 | true=>exact ha pins s1 σ H1 D I1 q1
 | false=>exact hb pins s1 σ H1 D I1 q1
end
abbrev TG:=V->St->Hp->(St->Hp->Prop)->Prop
abbrev TGs:=List V->St->Hp->(St->Hp->Prop)->Prop
def PG (X:Cx)(target:Expr)(t:TG):Prop:=
 ∀(pins:List (Addr×Obj))(s:Shared)(σ:St)(H:Hp)(v:V)(u:Value)(Q:St->Hp->Prop),Inv X pins σ H s->E1 v u->t v σ H Q->
  wpAny (model X.prog X.w) X.A (assign target X.env u) (λJ s'=>∃σ' H',Inv X pins σ' H' s'/\Q σ' H') X.xe s
def PGs (X:Cx)(ts:List Expr)(t:TGs):Prop:=
 ∀(pins:List (Addr×Obj))(s:Shared)(σ:St)(H:Hp)(vs:List V)(us:List Value)(Q:St->Hp->Prop),Inv X pins σ H s->C6 vs us->t vs σ H Q->
  wpAny (model X.prog X.w) X.A (assignInOrder ((assignEach ts X.env).map (·.2)) us) (λJ s'=>∃σ' H',Inv X pins σ' H' s'/\Q σ' H') X.xe s
abbrev A82:=V->V->V->Hp->(Hp->Prop)->Prop
def B38 (X:Cx)(t:A82):Prop:=
 ∀(pins:List (Addr×Obj))(s:Shared)(σ:St)(H:Hp)(o i v:V)(ov iv u:Value)(Q:Hp->Prop),Inv X pins σ H s->E1 o ov->E1 i iv->E1 v u->t o i v H Q->
  wpAny (model X.prog X.w) X.A (setItem ov iv u) (λJ s'=>∃H',Inv X pins σ H' s'/\Q H') X.xe s
abbrev TIp:=V->V->Hp->VK->Prop
def PIp (X:Cx)(op:Operator)(t:TIp):Prop:=
 ∀(pins:List (Addr×Obj))(s:Shared)(σ:St)(H:Hp)(x y:V)(v u:Value)(Q:VK),Inv X pins σ H s->E1 x v->E1 y u->t x y H Q->
  wpAny (model X.prog X.w) X.A (inplaceOp op v u) (EP X pins σ Q) X.xe s
def G3 (i:Nat):TG:=λv σ H Q=>Q (σ.set i (some v)) H
theorem O8 {i:Nat}{x:Str}(hN:X.N.Nodup)(hi:autoParam (X.N[i]?=some x) RF._auto_1)(hx:autoParam (Loc X.env.scope x) ILP._auto_1)(hf:autoParam (X.fn x=true\/X.env.scope.names.lookup x=some .local) A0P._auto_1):PG X (.Name x pos) (G3 i):=by
 intro pins s σ H v u Q I r h;exact wpAny_assign_Name (B35 I hN hi hx r (λs' I'=>⟨_,H,I',h⟩) hf)
def B02:TGs:=λvs σ H Q=>vs=[]/\Q σ H
def A02 (t:TG)(u:TGs):TGs:=λvs σ H Q=>∃v r,vs=v::r/\t v σ H fun σ' H'=>u r σ' H' Q
theorem A3e:PGs X [] B02:=by
 intro pins s σ H vs us Q I r h;obtain⟨e,h⟩:=h;subst e;cases r;exact assignInOrder_nil ⟨σ,H,I,h⟩
theorem T1 {e:Expr}{es:List Expr}{t:TG}{u:TGs}(h1:PG X e t)(h2:PGs X es u)
  (hs:autoParam ((assignEach (e::es) X.env).map (·.2)=assign e X.env::(assignEach es X.env).map (·.2)) RF._auto_1):PGs X (e::es) (A02 t u):=by
 intro pins s σ H vs us Q I r h;obtain⟨v,vr,e1,h⟩:=h;subst e1;cases r with
 | cons r rr=>rw[hs];refine assignInOrder_cons (thn (h1 pins s σ H _ _ _ I r h) λJ s1 zz23=>zz23.elim fun σ1 zz24=>zz24.elim λH1 zz25=>zz25.elim λI1 q1=>?_);exact h2 pins s1 σ1 H1 _ _ Q I1 rr q1
def B03 (K:A8)(n:Nat)(t:TGs):TG:=λv σ H Q=>∃a xs,v=.ref a/\SqT K H a xs/\xs.length=n/\t xs σ H Q
theorem A4s {es:List Expr}{k:Nat}{t:TGs}{n:Nat}(hc:X.calm=true)(h:PGs X es t)
  (hn:autoParam ((assignEach es X.env).length=n) RF._auto_1) (hst:autoParam ((assignEach es X.env).findIdx? (·.1)=none) RF._auto_1):PG X (.Tuple es k pos) (B03 X.K n t):=by
 intro pins s σ H v u Q I r hw;obtain⟨a,xs,e1,hq,hl,hw⟩:=hw;subst e1;cases r;obtain⟨its,rv,ht,hz⟩:=I.tuple hq;refine assign_Tuple_tuple (I.ok.hd hc) ht (by simp [hn,<-hl,rv.length]) hst λh' hx=>?_;have I1:Inv X pins σ H { s with heap:=h' }:=I.kept (t':=s.toks) λb o e=>hx b o (O0 (G6 e)) e;exact h pins _ σ H xs _ Q I1 (by simpa using rv) hw
def B95 (to ti:TE)(t:A82):TG:=λv σ H Q=>to σ H λo H1=>ti σ H1 λi H2=>t o i v H2 λH3=>Q σ H3
theorem m8 {o i:Expr}{to ti:TE}{t:A82}(ho:PE X o to)(hi:PE X i ti)(hs:B38 X t)
  (ha:∀v,assign (.Subscript o i pos) X.env v=(do
   let ov <-holding [v] (eval o X.env)
   let iv <-holding [v,ov] (eval i X.env)
   standAt pos
   holding [v,ov,iv] (setItem ov iv v)
   release [v,ov,iv] []):=by intro _;rfl):PG X (.Subscript o i pos) (B95 to ti t):=by
 intro pins s σ H v u Q I r h;rw[ha];refine wpAny_bind (wpAny_holding (thn (ho pins s σ H _ I h) λov s1 zz26=>el5 zz26 λx H1 I1 r1 q1=>?_));refine wpAny_bind (wpAny_holding (thn (hi pins s1 σ H1 _ I1 q1) λiv s2 zz27=>el5 zz27 λy H2 I2 r2 q2=>?_));refine wpAny_bind (wpAny_standAt (wpAny_bind (wpAny_holding (thn (hs pins s2 σ H2 x y v ov iv u _ I2 r1 r2 r q2) λJ s3 zz28=>el2 zz28 λH3 I3 q3=>?_))));exact wpAny_release ⟨σ,H3,I3,q3⟩
def A83 (te:TE)(g:TG):TS:=λD σ H=>te σ H λx H1=>g x σ H1 D.nx
theorem V4 {tg e:Expr}{te:TE}{g:TG}(he:PE X e te)(hg:PG X tg g)(hs:autoParam (swapsWithSole [tg] e pos.line X.env=pure false) RF._auto_1)(hw:autoParam (swappedStores [tg] e X.env=pure none) RF._auto_1)
  (h1:autoParam ((assignEach [tg] X.env).map (·.2)=[assign tg X.env]) RF._auto_1):PS X (.Assign [tg] e pos) (A83 te g):=by
 intro pins s σ H D I h;refine wpAny_Assign_stores (thn (he pins s σ H _ I h) λv s1 zz29=>el5 zz29 λx H1 I1 r1 q1=>?_) hs hw;rw[h1];exact thn (hg pins s1 σ H1 x v _ I1 r1 q1) λJ s2 q=>q
theorem C2 {i:Nat}{x:Str}{e:Expr}{te:TE}{pos':Pos}(hN:X.N.Nodup)(hi:X.N[i]?=some x)(hx:Loc X.env.scope x)(he:PE X e te)(hs:autoParam (swapsWith e (some (.Name x pos')) pos.line X.env=pure false) RF._auto_1)(hf:autoParam (X.fn x=true\/X.env.scope.names.lookup x=some .local) A0P._auto_1) :
  PS X (.Assign [.Name x pos'] e pos) (A83 te (G3 i)):=by
 intro pins s σ H D I h;refine wpAny_Assign_Name (thn (he pins s σ H _ I h) λv s1 zz30=>el5 zz30 λy H1 I1 r1 q1=>?_) hs;exact B35 I1 hN hi hx r1 (λs2 I2=>⟨_,H1,I2,q1⟩) hf
theorem pS {i:Nat}{x:Str}{e:Expr}{te:TE}{pos':Pos}(hN:X.N.Nodup)(he:PE X e te)(hi:autoParam (X.N[i]?=some x) RF._auto_1)(hx:autoParam (Loc X.env.scope x) ILP._auto_1)(hs:autoParam (swapsWith e (some (.Name x pos')) pos.line X.env=pure false) RF._auto_1) (hf:autoParam (X.fn x=true\/X.env.scope.names.lookup x=some .local) A0P._auto_1) :
  PS X (.Assign [.Name x pos'] e pos) (A83 te (G3 i)):=C2 hN hi hx he hs hf
def C77 (to ti te:TE)(tget:V->V->Hp->VK->Prop)(tip:TIp)(tset:A82):TS:=λD σ H=>to σ H λo H1=>ti σ H1 λi H2=>tget o i H2 λx H3=>te σ H3 λy H4=>tip x y H4 λz H5=>tset o i z H5 λH6=>D.nx σ H6
def B96 (X:Cx)(t:V->V->Hp->VK->Prop):Prop:=
 ∀(pins:List (Addr×Obj))(s:Shared)(σ:St)(H:Hp)(o i:V)(ov iv:Value)(Q:VK),Inv X pins σ H s->E1 o ov->E1 i iv->t o i H Q->
  wpAny (model X.prog X.w) X.A (getItem ov iv) (EP X pins σ Q) X.xe s
theorem B97 {o i e:Expr}{to ti te:TE}{tget:V->V->Hp->VK->Prop}{tip:TIp}{tset:A82}{op:Operator}{tpos:Pos}(ho:PE X o to)(hi:PE X i ti)(hg:B96 X tget)(he:PE X e te)(hp:PIp X op tip)(hs:B38 X tset)
  (ha:∀ov iv new,augStore i ov iv new=(do holding [new,ov,iv] (setItem ov iv new);release [new,ov,iv] [];pure .next):=by intros;rfl):PS X (.AugAssign (.Subscript o i tpos) op e pos) (C77 to ti te tget tip tset):=by
 intro pins s σ H D I h;refine wpAny_AugAssign_SubscriptAny (thn (ho pins s σ H _ I h) λov s1 zz34=>el5 zz34 λx1 H1 I1 r1 q1=>?_) ha;refine thn (hi pins s1 σ H1 _ I1 q1) λiv s2 zz35=>el5 zz35 λx2 H2 I2 r2 q2=>?_;refine thn (hg pins s2 σ H2 x1 x2 ov iv _ I2 r1 r2 q2) λold s3 zz36=>el5 zz36 λx3 H3 I3 r3 q3=>?_;refine thn (he pins s3 σ H3 _ I3 q3) λv s4 zz37=>el5 zz37 λx4 H4 I4 r4 q4=>?_;refine thn (hp pins s4 σ H4 x3 x4 old v _ I4 r3 r4 q4) λnew s5 zz38=>el5 zz38 λx5 H5 I5 r5 q5=>?_;exact thn (hs pins s5 σ H5 x1 x2 x5 ov iv new _ I5 r1 r2 r5 q5) λJ s6 zz39=>el2 zz39 λH6 I6 q6=>⟨σ,H6,I6,q6⟩
def ipI (f:Int->Int->Int):TIp:=λx y H Q=>∃i j,x=.int i/\y=.int j/\Q (.int (f i j)) H
theorem C78:PIp X .Add (ipI λi j=>i+j):=by
 intro pins s σ H x y v u Q I r1 r2 h;obtain⟨i,j,e1,e2,q⟩:=h;subst e1;subst e2;obtain⟨t,rfl⟩:=r1;obtain⟨t',rfl⟩:=r2;exact iadd_int ⟨.int _,H,I.tok _,⟨_,rfl⟩,q⟩
theorem C79:PIp X .Sub (ipI λi j=>i-j):=by
 intro pins s σ H x y v u Q I r1 r2 h;obtain⟨i,j,e1,e2,q⟩:=h;subst e1;subst e2;obtain⟨t,rfl⟩:=r1;obtain⟨t',rfl⟩:=r2;exact isub_int ⟨.int _,H,I.tok _,⟨_,rfl⟩,q⟩
def B39 (c:TT)(tb:TS):TS:=λD σ H=>∃W:Nat->St->Hp->Prop,(∃m,W m σ H)/\∀m σ H,W m σ H->
 c σ H λb H1=>if b=true then ∃N:St->Hp->Prop,(∀σ' H',N σ' H'->∃m',m'<m/\W m' σ' H')/\tb { D with nx:=N,ct:=N,bk:=D.nx } σ H1 else D.nx σ H1
theorem A4t {c:Expr}{body:List Stmt}{tc:TT}{tb:TS}(hp:PassesOwn (model X.prog X.w) X.A X.env X.xe)(hc:PT X c tc)(hb:PSs X body tb):PS X (.While c body [] pos) (B39 tc tb):=by
 intro pins s σ H D I h;obtain⟨W,⟨m0,w0⟩,turn⟩:=h;refine wpAny_While (codeAny_whileLoop (λn s'=>∃σ' H',Inv X pins σ' H' s'/\W n σ' H') ?_ m0 ⟨σ,H,I,w0⟩);rintro n s1 ⟨σ1,H1,I1,w1⟩;refine wpAny_passesOwn hp (thn (hc pins s1 σ1 H1 _ I1 (turn n σ1 H1 w1)) λb s2 zz40=>el2 zz40 λH2 I2 q2=>?_);cases b with
 | true=>
  obtain⟨N,hN,q2⟩:=q2;rw[if_pos rfl];refine wpAny_passesOwn hp (thn (hb pins s2 σ1 H2 _ I2 q2) λf s3 q3=>?_);cases f with
  | next=>obtain⟨σ3,H3,I3,n3⟩:=q3;obtain⟨m',hm,w3⟩:=hN σ3 H3 n3;exact⟨m',hm,σ3,H3,I3,w3⟩
  | cont=>obtain⟨σ3,H3,I3,n3⟩:=q3;obtain⟨m',hm,w3⟩:=hN σ3 H3 n3;exact⟨m',hm,σ3,H3,I3,w3⟩
  | brk=>exact q3
  | ret v=>exact q3
 | false=>rw[if_neg P4];exact wpAny_execs_nil ⟨σ1,H2,I2,q2⟩
structure It where
 go:Nat->Hp->Prop
 yld:Nat->Hp->V->Hp->Prop
 stop:Nat->Hp->Prop
def b6 (X:Cx)(pins:List (Addr×Obj))(H:Hp)(b:Addr):Prop:=
 H b=none/\b≠X.env.locals/\b∉X.fs/\(b∈X.ex\/X.s₀.heap.objs.size<=b)/\(∀x c,X.env.cells.lookup x=some c->c≠b)/\∀p∈X.pn++pins,p.1≠b
theorem Inv.fpOk {X:Cx}{pins:List (Addr×Obj)}{σ:St}{H H':Hp}{s:Shared}{b:Addr}(I:Inv X pins σ H s)(hb:s.heap.objs.size<=b)(hn:H' b=none):b6 X pins H' b:=by
 refine⟨hn,A8s (Q7 I.lt hb),I.nofs hb,.inr (J1 I.sz hb),λx c e z=>?_,λp hp z=>?_⟩
 ·obtain⟨v,q⟩:=I.cell x c e;exact absurd (Q7 q.lt (by rw[z];exact hb)) (Z8 _)
 ·exact absurd (Q7 (G6 (I.pin p hp).1) (by rw[z];exact hb)) (Z8 _)
structure A3f (P:Program)(w:World)(K:A8)(tg:Expr)(J:It)(fp:List Addr)(it:Addr)(tn:Nat->Heap->Prop):Prop where
 mem:it∈fp
 obj:∀i h,tn i h->∀b∈fp,∃o,h.get? b=some o/\∀v,o.data≠.cell v
 keep:∀i h h',tn i h->(∀b∈fp,∀o,h.get? b=some o->h'.get? b=some o)->tn i h'
 item:∀(X:Cx),X.prog=P->X.w=w->X.K=K->X.calm=true->∀(i:Nat)(pins:List (Addr×Obj))(s:Shared)(σ:St)(H:Hp)(E:Value->Shared->Prop),Inv X pins σ H s->(∀b∈fp,b6 X pins H b)->tn i s.heap->J.go i H->
  wpAny (model P w) X.A (pyNext (.ref it)) (λr s1=>∃u,r=some u/\
   wpAny (model P w) X.A (letOwnedTupleGo tg (.ref it) u) (λ_ s2=>∃x H',Inv X pins σ H' s2/\E1 x u/\J.yld i H x H'/\tn (i+1) s2.heap/\∀b∈fp,H' b=none) E s1) E s
 done:∀(X:Cx),X.prog=P->X.w=w->X.K=K->X.calm=true->∀(i:Nat)(pins:List (Addr×Obj))(s:Shared)(σ:St)(H:Hp)(E:Value->Shared->Prop),Inv X pins σ H s->(∀b∈fp,b6 X pins H b)->tn i s.heap->J.stop i H->
  wpAny (model P w) X.A (pyNext (.ref it)) (λr s1=>r=none/\Inv X pins σ H s1) E s
 self:∀(A:Around)(i:Nat)(s:Shared)(Q:Value->Shared->Prop)(E:Value->Shared->Prop),tn i s.heap->Q (.ref it) s->wpAny (model P w) A (pyIter (.ref it)) Q E s
abbrev TI:=St->Hp->(It->Hp->Prop)->Prop
def PIE (X:Cx)(pins:List (Addr×Obj))(σ:St)(tg:Expr)(R:It->Hp->Prop)(itv:Value)(s2:Shared):Prop:=
 ∃(it:Addr)(fp:List Addr)(tn:Nat->Heap->Prop)(J:It)(H':Hp),itv=.ref it/\Inv X pins σ H' s2/\A3f X.prog X.w X.K tg J fp it tn/\tn 0 s2.heap/\(∀b∈fp,b6 X pins H' b)/\R J H'
def PI (X:Cx)(tg iter:Expr)(wi:TI):Prop:=
 ∀(pins:List (Addr×Obj))(s:Shared)(σ:St)(H:Hp)(R:It->Hp->Prop),Inv X pins σ H s->wi σ H R->
  wpAny (model X.prog X.w) X.A (eval iter X.env) (λv s1=>wpAny (model X.prog X.w) X.A (pyIter v) (PIE X pins σ tg R) X.xe s1) X.xe s
theorem B04 {M:Model}{A:Around}{E:Value->Shared->Prop}{s:Shared}{tg:Expr}{it:Addr}{u:Value}{o:Obj}{n:String}{vs:Array Value}{Q:Unit->Shared->Prop}(ho:s.heap.get? it=some o)(hc:o.cls=.type n)(hd:o.data=.fields vs)
  (hn:["enumerate","zip","dict_itemiterator","dict_reverseitemiterator","odict_iterator","itertools.zip_longest","itertools.pairwise"].contains n=false) (hQ:Q () s):wpAny M A (letOwnedTupleGo tg (.ref it) u) Q E s:=by
 unfold letOwnedTupleGo;cases tg <;> first
  | exact wpAny_pure hQ
  | (cases u <;> first
    | exact wpAny_pure hQ
    | (refine wpAny_bind (wpAny_load ho ?_)
       rw[hc,hd];show wpAny M A (if (["enumerate","zip","dict_itemiterator","dict_reverseitemiterator","odict_iterator","itertools.zip_longest","itertools.pairwise"].contains n&&vs[0]? == some (rawInt _))=true then _ else _) Q E s;rw[if_neg (by intro h;rw[hn,Bool.false_and] at h;cases h)];exact wpAny_pure hQ))
def Itl (K:A8)(a:Addr):It:=
 ⟨λi H=>∃xs x,SqL K H a xs/\xs[i]?=some x,λi H x H'=>H'=H/\∀xs,SqL K H a xs->xs[i]?=some x,λi H=>∃xs,SqL K H a xs/\xs.length<=i⟩
def Itr (lo:Int)(n:Nat):It:=⟨λi J=>i<n,λi H x H'=>H'=H/\x=.int (lo+i),λi J=>n<=i⟩
theorem C8a {P:Program}{w:World}{K:A8}{tg:Expr}(a it:Addr):A3f P w K tg (Itl K a) [it] it (λi h=>h.IsListIter it a i) where
 mem:=by simp
 obj:=λi h st b hb=>by
  have e:b=it:=by simpa using hb
  subst e;obtain⟨o,e,c,d⟩:=st;exact⟨o,e,λv z=>by rw[d] at z;cases z⟩
 keep:=λi h h' st k=>st.at λo e=>k it (by simp) o e
 item:=by
  intro X hP hw hK hc i pins s σ H E I hf st hg;subst hP hw hK;obtain⟨xs,x,hq,hx⟩:=hg;obtain⟨its,rv,p,hz⟩:=I.list hq;obtain⟨u,hu,ru⟩:=rv.get hx;obtain⟨f0,f1,f2,f3,f4,f5⟩:=hf it (by simp);refine wpAny_pyNext_list_item st p.isList (x:=u) (by simpa using hu) λh' st' sb=>?_;have I1:Inv X pins σ H { s with heap:=h' }:=I.turned (t':=s.toks) (λb o hb e=>(sb.2 b hb).trans e) f0 f1 f3 f4 f5;obtain⟨o,e,c,d⟩:=id st';exact⟨u,rfl,B04 (s:={ s with heap:=h' }) e c d DD ⟨x,H,I1,ru,⟨rfl,λys hy=>by rw[I.list_inj hy hq];exact hx⟩,st',λb hb=>(hf b hb).1⟩⟩
 done:=by
  intro X hP hw hK hc i pins s σ H E I hf st hg;subst hP hw hK;obtain⟨xs,hq,hx⟩:=hg;obtain⟨its,rv,p,hz⟩:=I.list hq;obtain⟨f0,f1,f2,f3,f4,f5⟩:=hf it (by simp);have hl:=rv.length;exact wpAny_pyNext_list_end (I.ok.hd hc) st p.isList (by simp;omega) λh' eb=>⟨rfl,I.turned (t':=s.toks) (λb o hb e=>eb b o hb e) f0 f1 f3 f4 f5⟩
 self:=λJ J J J J st h=>wpAny_pyIter_listiter st h
theorem C8b {P:Program}{w:World}{K:A8}{tg:Expr}(it:Addr)(lo:Int)(n:Nat):A3f P w K tg (Itr lo n) [it] it (λi h=>IsRangeIter h it (lo+(i:Nat)*1) ((n:Int)-(i:Nat)) 1) where
 mem:=by simp
 obj:=λi h st b hb=>by
  have e:b=it:=by simpa using hb
  subst e;exact⟨_,st,λv z=>by
   have z':Data.fields _=Data.cell v:=z;cases z'⟩
 keep:=λi h h' st k=>k it (by simp) _ st
 item:=by
  intro X hP hw hK hc i pins s σ H E I hf st hg;subst hP hw hK;obtain⟨f0,f1,f2,f3,f4,f5⟩:=hf it (by simp);have W:=Walks.range (prog:=X.prog) (w:=X.w) (I.ok.hd hc) it lo 1 n;refine W.item i s _ _ hg st λv h' tk hv st' kk=>?_;obtain⟨t,rfl⟩:=hv;have I1:Inv X pins σ H { s with heap:=h',toks:=tk }:=I.turned (λb o hb e=>kk b o (by simpa using hb) e) f0 f1 f3 f4 f5;refine⟨_,rfl,B04 (s:={ s with heap:=h',toks:=tk }) (n:= "range_iterator") st' rfl rfl DD ⟨.int (lo+i),H,I1,⟨t,?_⟩,⟨rfl,rfl⟩,st',λb hb=>(hf b hb).1⟩⟩;rw[Int.mul_one]
 done:=by
  intro X hP hw hK hc i pins s σ H E I hf st hg;subst hP hw hK;obtain⟨f0,f1,f2,f3,f4,f5⟩:=hf it (by simp);exact wpAny_pyNext_range_end (I.ok.hd hc) st (by have:n<=i:=hg;omega) λh' eb=>⟨rfl,I.turned (t':=s.toks) (λb o hb e=>eb b o hb e) f0 f1 f3 f4 f5⟩
 self:=λJ J J J J st h=>wpAny_pyIter_rangeiter st h
section
variable {tg:Expr}
def C8c (K:A8)(tl:TE):TI:=fun σ H R=>tl σ H λx H1=>∃a,x=.ref a/\(∃xs,SqL K H1 a xs)/\R (Itl K a) H1
theorem W7 {l:Expr}{tl:TE}(hl:PE X l tl):PI X tg l (C8c X.K tl):=by
 intro pins s σ H R I h;refine thn (hl pins s σ H _ I h) λv s1 zz41=>el5 zz41 λx H1 I1 r1 q1=>?_;obtain⟨a,e,⟨xs,hq⟩,q⟩:=q1;subst e;cases r1;obtain⟨its,rv,p,hz⟩:=I1.list hq;refine wpAny_pyIter_list p.isList ?_;refine⟨s1.heap.objs.size,[s1.heap.objs.size],_,_,H1,rfl,I1.kept (t':=s1.toks) λb o e=>M5 _ e,C8a a _,⟨_,R9 _ rfl,rfl,rfl⟩,λb hb=>?_,q⟩;have e:b=s1.heap.objs.size:=by simpa using hb
 subst e;exact I1.fpOk (E8 _) (I1.hok.fresh (E8 _))
theorem C8d {pins:List (Addr×Obj)}{σ:St}{H:Hp}{s:Shared}{R:It->Hp->Prop}{E:Value->Shared->Prop}{lo hi:Int}{t u v:Tok}{tk:Nat}(I:Inv X pins σ H s)(h1:-(2^62)<=lo)(h2:lo<2^62)(h3:-(2^62)<=hi)(h4:hi<2^62)
  (q:R (Itr lo (hi-lo).toNat) H):wpAny (model X.prog X.w) X.A (pyIter (.ref s.heap.objs.size)) (PIE X pins σ tg R) E { s with heap:=s.heap.push { cls:=.type "range",data:=.fields #[.int lo t,.int hi u,.int 1 v] },toks:=tk }:=by
 refine wpAny_pyIter_range (IsRange.new ..) (small_one h1 h2 h3 h4) ?_;have I1:Inv X pins σ H { s with heap:=s.heap.push { cls:=.type "range",data:=.fields #[.int lo t,.int hi u,.int 1 v] },toks:=tk }:=I.kept λb o e=>M5 _ e;refine⟨(s.heap.push { cls:=.type "range",data:=.fields #[.int lo t,.int hi u,.int 1 v] }).objs.size,[(s.heap.push { cls:=.type "range",data:=.fields #[.int lo t,.int hi u,.int 1 v] }).objs.size],_,_,H,rfl,
  I1.kept (t':=tk) λb o e=>M5 _ e,C8b _ lo (hi-lo).toNat,?_,λb hb=>?_,q⟩
 ·have e1:lo+((0:Nat):Int)*1=lo:=by simp
  have e2:(((hi-lo).toNat:Nat):Int)-((0:Nat):Int)=Builtin.Range.rangeSize lo hi 1:=by rw[rangeSize_one];split <;> omega
  show IsRangeIter _ _ (lo+((0:Nat):Int)*1) ((((hi-lo).toNat:Nat):Int)-((0:Nat):Int)) 1;rw[e1,e2];exact R9 _ rfl
 ·have e:b=(s.heap.push { cls:=.type "range",data:=.fields #[.int lo t,.int hi u,.int 1 v] }).objs.size:=by simpa using hb
  subst e;exact I1.fpOk (E8 _) (I1.hok.fresh (E8 _))
def B98 (ta:TA):TI:=fun σ H R=>ta σ H λvs H1=>∃j:Int,vs=[.int j]/\-(2^62)<=j/\j<2^62/\R (Itr 0 j.toNat) H1
theorem A3g {a:Expr}{ta:TA}{p pos:Pos}(hg:Gl X "range")(hm:X.mg "range" = none)(ha:PA X [a] ta)(hs:autoParam (starEach [a] X.env=[(false,eval a X.env)]) RF._auto_1):PI X tg (.Call (.Name "range" p) [a] [] pos) (B98 ta):=by
 intro pins s σ H R I h;refine Call_ (A2d I hg hm boot_range (PyProof.Rows.callWith_type1 (thn (ha pos pins s σ H _ I h) λus s1 zz43=>el5 zz43 λvs H1 I1 r1 q1=>?_) hs rfl));obtain⟨j,e,q1,q2,q⟩:=q1;subst e;cases r1 with
 | cons r rr=>cases rr;obtain⟨t,rfl⟩:=r;exact call_range_1 (C8d I1 (by omega) (by omega) q1 q2 (by simpa using q))
def B99 (wi:TI)(g:TG)(tb:TS):TS:=λD σ H=>wi σ H λJ H1=>∃W:Nat->Nat->St->Hp->Prop,(∃m,W 0 m σ H1)/\∀i m σ H,W i m σ H->
 (J.stop i H/\D.nx σ H)\/(J.go i H/\∃N:St->Hp->Prop,(∀σ' H',N σ' H'->∃m',m'<m/\W (i+1) m' σ' H')/\∀x H',J.yld i H x H'->g x σ H' fun σ2 H2=>tb { D with nx:=N,ct:=N,bk:=D.nx } σ2 H2)
def A63 (fp:List Addr)(h:Heap):List (Addr×Obj):=fp.filterMap λb=>(h.get? b).map λo=>(b,o)
theorem A64 {fp:List Addr}{h:Heap}{b:Addr}{o:Obj}(hb:b∈fp)(e:h.get? b=some o):(b,o)∈A63 fp h:=B0o.mpr ⟨b,hb,by rw[e];rfl⟩
theorem C8e {fp:List Addr}{h:Heap}{p:Addr×Obj}(hp:p∈A63 fp h):p.1∈fp/\h.get? p.1=some p.2:=by
 obtain⟨b,hb,e⟩:=B0o.mp hp;cases q:h.get? b with
 | none=>rw[q] at e;cases e
 | some o=>rw[q] at e;have e':(b,o)=p:=Option.some.inj e;subst e';exact⟨hb,q⟩
theorem Inv.pinned {pins:List (Addr×Obj)}{σ:St}{H:Hp}{s:Shared}{fp:List Addr}(I:Inv X pins σ H s)(hf:∀b∈fp,b6 X pins H b)(ho:∀b∈fp,∃o,s.heap.get? b=some o/\∀v,o.data≠.cell v):Inv X (pins++A63 fp s.heap) σ H s:=
 I.pins_of λp hp=>(A1j.mp hp).elim (λz=>I.pin p (Y8 _ z)) λz=>by
  obtain⟨hb,e⟩:=C8e z;obtain⟨f0,f1,f2,_⟩:=hf p.1 hb;obtain⟨o,e',d⟩:=ho p.1 hb;rw[e] at e';cases e';exact⟨e,f0,f1,f2,d⟩
theorem Inv.unpinned {pins pl:List (Addr×Obj)}{σ:St}{H:Hp}{s:Shared}(I:Inv X (pins++pl) σ H s):Inv X pins σ H s:=I.pins_of λp hp=>I.pin p (Y8 _ (B9f _ hp))
theorem A2e {iter:Expr}{body:List Stmt}{wi:TI}{g:TG}{tb:TS}{pos:Pos}(hp:PassesOwn (model X.prog X.w) X.A X.env X.xe)(hc:X.calm=true)(hi:PI X tg iter wi)(hg:PG X tg g)(hb:PSs X body tb)
  (hs:autoParam (∀x,foldedSetIterable iter X.env x=pure x) A2P._auto_1):PS X (.For tg iter body [] pos) (B99 wi g tb):=by
 intro pins s σ H D I h;refine wpAny_For (thn (hi pins s σ H _ I h) λv s1 h1=>thn h1 λitv s2 h2=>?_) hs;obtain⟨it,fp,tn,J,H2,e,I2,T,st2,f2,W,⟨m0,w0⟩,turn⟩:=h2;subst e;have stat:∀{H':Hp},(∀b∈fp,H' b=none)->∀b∈fp,b6 X pins H' b:=λhn b hb=>⟨hn b hb,(f2 b hb).2⟩;refine codeAny_forLoop_any (λn s'=>∃i σ' H',Inv X pins σ' H' s'/\tn i s'.heap/\(∀b∈fp,H' b=none)/\W i n σ' H') ?_ m0 ⟨0,σ,H2,I2,st2,λb hb=>(f2 b hb).1,w0⟩;rintro n s3 ⟨i,σ3,H3,I3,st3,fr3,w3⟩;rcases turn i n σ3 H3 w3 with ⟨stop,qn⟩ | ⟨go,N,hN,step⟩
 ·refine wpAny_passesOwn hp (thn (T.done X rfl rfl rfl hc i pins s3 σ3 H3 X.xe I3 (stat fr3) st3 stop) λr s4 zz45=>zz45.elim λhr I4=>?_);subst hr;exact wpAny_execs_nil ⟨σ3,H3,I4,qn⟩
 ·refine wpAny_passesOwn hp (thn (T.item X rfl rfl rfl hc i pins s3 σ3 H3 X.xe I3 (stat fr3) st3 go) λr s4 zz46=>el2 zz46 λu hr h4=>?_);subst hr;refine wpAny_passesOwn hp (thn h4 λY s5 zz47=>zz47.elim λx zz48=>zz48.elim λH5 zz49=>zz49.elim λI5 zz50=>zz50.elim λr5 zz51=>zz51.elim λy5 zz52=>zz52.elim λst5 fr5=>?_);have I5':=I5.pinned (stat fr5) (T.obj _ _ st5);refine wpAny_passesOwn hp (thn (hg _ s5 σ3 H5 x u _ I5' r5 (step x H5 y5)) λY s6 zz53=>zz53.elim fun σ6 zz54=>zz54.elim λH6 zz55=>zz55.elim λI6 q6=>?_);refine wpAny_passesOwn hp (thn (hb _ s6 σ6 H6 _ I6 q6) λf s7 q7=>?_);have again:∀{σ7:St}{H7:Hp},Inv X (pins++A63 fp s5.heap) σ7 H7 s7->N σ7 H7->∃m,m<n/\∃i σ' H',Inv X pins σ' H' s7/\tn i s7.heap/\(∀b∈fp,H' b=none)/\W i m σ' H':=λ{σ7 H7} I7 n7=>by
   obtain⟨m',hm,w7⟩:=hN σ7 H7 n7;refine⟨m',hm,i+1,σ7,H7,I7.unpinned,T.keep _ _ _ st5 λb hb o e=>(I7.pin (b,o) (Y8 _ (Y8 _ (A64 hb e)))).1,λb hb=>?_,w7⟩;obtain⟨o,e,d⟩:=T.obj _ _ st5 b hb;exact (I7.pin (b,o) (Y8 _ (Y8 _ (A64 hb e)))).2.1
  cases f with
  | next=>obtain⟨σ7,H7,I7,n7⟩:=q7;exact again I7 n7
  | cont=>obtain⟨σ7,H7,I7,n7⟩:=q7;exact again I7 n7
  | brk=>obtain⟨σ7,H7,I7,q7⟩:=q7;exact⟨σ7,H7,I7.unpinned,q7⟩
  | ret v=>obtain⟨x7,σ7,H7,I7,r7,q7⟩:=q7;exact⟨x7,σ7,H7,I7.unpinned,r7,q7⟩
end
theorem C8f {K:A8}{a:Addr}{xs:List V}{g:TG}{tb:TS}{D:A0j}{σ:St}{H:Hp}(Pv:Nat->St->Hp->Prop)(h0:Pv 0 σ H)(hl:∀i σ H,i<=xs.length->Pv i σ H->SqL K H a xs)
  (hs:∀i x σ H,xs[i]?=some x->Pv i σ H->g x σ H fun σ2 H2=>tb { D with nx:=Pv (i+1),ct:=Pv (i+1),bk:=D.nx } σ2 H2) (hd:∀σ H,Pv xs.length σ H->D.nx σ H) :
  ∃W:Nat->Nat->St->Hp->Prop,(∃m,W 0 m σ H)/\∀i m σ H,W i m σ H->
   ((Itl K a).stop i H/\D.nx σ H)\/((Itl K a).go i H/\∃N:St->Hp->Prop,(∀σ' H',N σ' H'->∃m',m'<m/\W (i+1) m' σ' H')/\∀x H',(Itl K a).yld i H x H'->g x σ H' fun σ2 H2=>tb { D with nx:=N,ct:=N,bk:=D.nx } σ2 H2):=by
 refine⟨λi m σ H=>m=xs.length-i/\i<=xs.length/\Pv i σ H,⟨xs.length,by simp,P5 _,h0⟩,?_⟩;rintro i m σ H ⟨rfl,hi,p⟩;have q:=hl i σ H hi p;by_cases hlt:i<xs.length
 ·refine .inr ⟨⟨xs,xs[i],q,by simp [hlt]⟩,Pv (i+1),fun σ' H' p'=>⟨xs.length-(i+1),by omega,rfl,hlt,p'⟩,λx H' y=>?_⟩;obtain⟨e,y⟩:=y;subst e;exact hs i x σ _ (y xs q) p
 ·have e:i=xs.length:=by omega
  subst e;exact .inl ⟨⟨xs,q,E8 _⟩,hd σ H p⟩
theorem C0a {lo:Int}{n:Nat}{g:TG}{tb:TS}{D:A0j}{σ:St}{H:Hp}(Pv:Nat->St->Hp->Prop)(h0:Pv 0 σ H)
  (hs:∀i σ H,i<n->Pv i σ H->g (.int (lo+i)) σ H fun σ2 H2=>tb { D with nx:=Pv (i+1),ct:=Pv (i+1),bk:=D.nx } σ2 H2) (hd:∀σ H,Pv n σ H->D.nx σ H) :
  ∃W:Nat->Nat->St->Hp->Prop,(∃m,W 0 m σ H)/\∀i m σ H,W i m σ H->
   ((Itr lo n).stop i H/\D.nx σ H)\/((Itr lo n).go i H/\∃N:St->Hp->Prop,(∀σ' H',N σ' H'->∃m',m'<m/\W (i+1) m' σ' H')/\∀x H',(Itr lo n).yld i H x H'->g x σ H' fun σ2 H2=>tb { D with nx:=N,ct:=N,bk:=D.nx } σ2 H2):=by
 refine⟨λi m σ H=>m=n-i/\i<=n/\Pv i σ H,⟨n,by simp,P5 _,h0⟩,?_⟩;rintro i m σ H ⟨rfl,hi,p⟩;by_cases hlt:i<n
 ·refine .inr ⟨hlt,Pv (i+1),fun σ' H' p'=>⟨n-(i+1),by omega,rfl,hlt,p'⟩,λx H' y=>?_⟩;obtain⟨e,y⟩:=y;subst e y;exact hs i σ _ hlt p
 ·have e:i=n:=by omega
  subst e;exact .inl ⟨E8 _,hd σ H p⟩
theorem C8g {c:TT}{tb:TS}{D:A0j}{σ:St}{H:Hp}(Pv:St->Hp->Prop)(μ:St->Hp->Nat)(h0:Pv σ H)
  (hs:∀σ H,Pv σ H->c σ H λb H1=>if b=true then tb { D with nx:=fun σ' H'=>Pv σ' H'/\μ σ' H'<μ σ H,ct:=fun σ' H'=>Pv σ' H'/\μ σ' H'<μ σ H,bk:=D.nx } σ H1 else D.nx σ H1)
  (mono:∀σ H Q Q',(∀b H1,Q b H1->Q' b H1)->c σ H Q->c σ H Q'):B39 c tb D σ H:=by
 refine⟨λm σ H=>m=μ σ H/\Pv σ H,⟨_,rfl,h0⟩,?_⟩;rintro m σ H ⟨rfl,p⟩;refine mono σ H _ _ (λb H1 q=>?_) (hs σ H p);cases b with
 | true=>exact⟨_,fun σ' H' zz56=>zz56.elim λp' l=>⟨_,l,rfl,p'⟩,q⟩
 | false=>exact q
abbrev R2:=V->V->Hp->VK->Prop
def OpR (X:Cx)(f:Value->Value->Sem Value)(r:R2):Prop:=
 ∀(pins:List (Addr×Obj))(s:Shared)(σ:St)(H:Hp)(x y:V)(v u:Value)(Q:VK),Inv X pins σ H s->E1 x v->E1 y u->r x y H Q->
  wpAny (model X.prog X.w) X.A (f v u) (EP X pins σ Q) X.xe s
def UnR (X:Cx)(f:Value->Sem Value)(r:V->Hp->VK->Prop):Prop:=
 ∀(pins:List (Addr×Obj))(s:Shared)(σ:St)(H:Hp)(x:V)(v:Value)(Q:VK),Inv X pins σ H s->E1 x v->r x H Q->
  wpAny (model X.prog X.w) X.A (f v) (EP X pins σ Q) X.xe s
def V5 (X:Cx)(f:Value)(r:List V->Hp->VK->Prop):Prop:=
 ∀(pins:List (Addr×Obj))(s:Shared)(σ:St)(H:Hp)(xs:List V)(us:List Value)(Q:VK),Inv X pins σ H s->C6 xs us->r xs H Q->
  wpAny (model X.prog X.w) X.A (call f us) (EP X pins σ Q) X.xe s
def tOp (r:R2)(ta tb:TE):TE:=fun σ H Q=>ta σ H λx H1=>tb σ H1 λy H2=>r x y H2 Q
def tUn (r:V->Hp->VK->Prop)(ta:TE):TE:=fun σ H Q=>ta σ H λx H1=>r x H1 Q
def rI (C:Int->Int->Prop)(g:Int->Int->V):R2:=λx y H Q=>∃i j,x=.int i/\y=.int j/\C i j/\Q (g i j) H
def rI0 (g:Int->Int->V):R2:=λx y H Q=>∃i j,x=.int i/\y=.int j/\Q (g i j) H
def rU (g:Int->V):V->Hp->VK->Prop:=λx H Q=>∃i,x=.int i/\Q (g i) H
section
variable {a b c:Expr}{tc:TE}
theorem B4a (ha:PE X a ta)(hb:PE X b tb){pins:List (Addr×Obj)}{s:Shared}{σ:St}{H:Hp}{R:V->V->Hp->Prop}(I:Inv X pins σ H s)
  (h:ta σ H λx H1=>tb σ H1 λy H2=>R x y H2) {Q:Value->Shared->Prop} {f:Value->Value->Sem Value}
  (hf:∀v u s2 x y H2,Inv X pins σ H2 s2->E1 x v->E1 y u->R x y H2->wpAny (model X.prog X.w) X.A (f v u) Q X.xe s2) :
  wpAny (model X.prog X.w) X.A (eval a X.env) (λv s₁=>wpAny (model X.prog X.w) X.A (eval b X.env) (λu s₂=>wpAny (model X.prog X.w) X.A (f v u) Q X.xe s₂) X.xe s₁) X.xe s:=by
 refine thn (ha pins s σ H _ I h) λv s1 zz57=>el5 zz57 λx H1 I1 r1 q1=>?_;refine thn (hb pins s1 σ H1 _ I1 q1) λu s2 zz58=>el5 zz58 λy H2 I2 r2 q2=>?_;exact hf v u s2 x y H2 I2 r1 r2 q2
theorem F0 {op:Operator}{r:R2}(ho:OpR X (binaryOp op) r)(ha:PE X a ta)(hb:PE X b tb):PE X (.BinOp a op b pos) (tOp r ta tb):=by
 intro pins s σ H Q I h;exact wpAny_BinOp (B4a ha hb I h λv u s2 x y H2 I2 rx ry q=>ho pins s2 σ H2 x y v u Q I2 rx ry q)
theorem C8h {op:UnaryOp}{r:V->Hp->VK->Prop}(ho:UnR X (unaryOp op) r)(ha:PE X a ta):PE X (.UnaryOp op a pos) (tUn r ta):=by
 intro pins s σ H Q I h;exact UnaryOp_ (thn (ha pins s σ H _ I h) λv s1 zz59=>el5 zz59 λx H1 I1 r1 q1=>ho pins s1 σ H1 x v Q I1 r1 q1)
theorem opI {f:Value->Value->Sem Value}{C:Int->Int->Prop}{g:Int->Int->Int}
  (rule:∀(i j:Int)(t u:Tok)(s:Shared)(Q:Value->Shared->Prop)(E:Value->Shared->Prop),C i j->Q (.int (g i j) s.toks) { s with toks:=s.toks+1 }->wpAny (model X.prog X.w) X.A (f (.int i t) (.int j u)) Q E s) :
  OpR X f (rI C λi j=>.int (g i j)):=by
 intro pins s σ H x y v u Q I rx ry h;obtain⟨i,j,rfl,rfl,hc,q⟩:=h;obtain⟨t,rfl⟩:=rx;obtain⟨t',rfl⟩:=ry;exact rule i j t t' s _ _ hc ⟨.int (g i j),H,I.tok _,⟨_,rfl⟩,q⟩
theorem C0b {f:Value->Value->Sem Value}{g:Int->Int->Int}
  (rule:∀(i j:Int)(t u:Tok)(s:Shared)(Q:Value->Shared->Prop)(E:Value->Shared->Prop),Q (.int (g i j) s.toks) { s with toks:=s.toks+1 }->wpAny (model X.prog X.w) X.A (f (.int i t) (.int j u)) Q E s) :
  OpR X f (rI0 λi j=>.int (g i j)):=by
 intro pins s σ H x y v u Q I rx ry h;obtain⟨i,j,rfl,rfl,q⟩:=h;obtain⟨t,rfl⟩:=rx;obtain⟨t',rfl⟩:=ry;exact rule i j t t' s _ _ ⟨.int (g i j),H,I.tok _,⟨_,rfl⟩,q⟩
theorem B05 {f:Value->Value->Sem Value}{g:Int->Int->Bool}
  (rule:∀(i j:Int)(t u:Tok)(s:Shared)(Q:Value->Shared->Prop)(E:Value->Shared->Prop),Q (.bool (g i j)) s->wpAny (model X.prog X.w) X.A (f (.int i t) (.int j u)) Q E s) :
  OpR X f (rI0 λi j=>.bl (g i j)):=by
 intro pins s σ H x y v u Q I rx ry h;obtain⟨i,j,rfl,rfl,q⟩:=h;obtain⟨t,rfl⟩:=rx;obtain⟨t',rfl⟩:=ry;exact rule i j t t' s _ _ ⟨.bl (g i j),H,I,rfl,q⟩
def B4b (i j:Int):Prop:=0<=j/\j<=1000000/\i.natAbs<2^64
def A84 (i j:Int):Prop:=(-(2^64)<i/\i<2^64)\/(-(2^64)<j/\j<2^64)
theorem A84.ok {i j:Int}(h:A84 i j):IntMulOk i j:=by
 rcases h with ⟨h1,h2⟩ | ⟨h1,h2⟩
 ·exact .of_left (intBits_le_64 h1 h2)
 ·exact .of_right (intBits_le_64 h1 h2)
theorem N3:OpR X (binaryOp .Add) (rI0 λi j=>.int (i+j)):=C0b λJ J J J J J J q=>add_int q
theorem A65:OpR X (binaryOp .Sub) (rI0 λi j=>.int (i-j)):=C0b λJ J J J J J J q=>sub_int q
theorem A03:OpR X (binaryOp .Mult) (rI A84 λi j=>.int (i*j)):=opI λJ J J J J J J hc q=>mul_int q hc.ok
theorem A2f:OpR X (binaryOp .Mod) (rI (λJ j=>0<j) λi j=>.int (i%j)):=opI λi j J J J J J hc q=>by
 have h1:(0:Int)<j:=hc;exact mod_int' (by omega) (by rw[Int.fmod_eq_emod_of_nonneg i (by omega)];exact q)
theorem U5:OpR X (binaryOp .Pow) (rI B4b λi j=>.int (i^j.toNat)):=opI λJ J J J J J J hc q=>pow_int_small hc.1 hc.2.1 hc.2.2 q
theorem unI {f:Value->Sem Value}{g:Int->Int}
  (rule:∀(i:Int)(t:Tok)(s:Shared)(Q:Value->Shared->Prop)(E:Value->Shared->Prop),Q (.int (g i) s.toks) { s with toks:=s.toks+1 }->wpAny (model X.prog X.w) X.A (f (.int i t)) Q E s) :
  UnR X f (rU λi=>.int (g i)):=by
 intro pins s σ H x v Q I rx h;obtain⟨i,rfl,q⟩:=h;obtain⟨t,rfl⟩:=rx;exact rule i t s _ _ ⟨.int (g i),H,I.tok _,⟨_,rfl⟩,q⟩
theorem C8i:UnR X (unaryOp .USub) (rU λi=>.int (-i)):=unI λJ J J J J q=>neg_int q
end
def C0c:V->V->Bool
 | .non,.non=>true | .non,.int _=>true | .int _,.non=>true | .non,.bl _=>true | .bl _,.non=>true | .non,.str _=>true | .str _,.non=>true
 | .int _,.int _=>true | .bl _,.bl _=>true | .str _,.str _=>true | .byt _,.byt _=>true
 | .int _,.str _=>true | .str _,.int _=>true | .bl _,.str _=>true | .str _,.bl _=>true
 | _,_=>false
def rEq:R2:=λx y H Q=>C0c x y=true/\Q (.bl (decide (x=y))) H
def rNe:R2:=λx y H Q=>C0c x y=true/\Q (.bl (!decide (x=y))) H
theorem C0d {i j:Int}:decide (V.int i=V.int j)=(i == j):=by
 rw[A25];simp
theorem C0e {i j:Bool}:decide (V.bl i=V.bl j)=(i == j):=by
 rw[A25];simp
theorem C0f {i j:Str}:decide (V.str i=V.str j)=(i == j):=by
 rw[A25];simp
theorem C0g {i j:Array UInt8}:decide (V.byt i=V.byt j)=(i.toList == j.toList):=by
 rw[A25];cases i;cases j;simp
section
variable {a b c:Expr}{tc:TE}
theorem N0 {pins:List (Addr×Obj)}{σ:St}{H:Hp}{s:Shared}{Q:VK}{k k':Bool}(I:Inv X pins σ H s)(q:Q (.bl k) H)(e:k=k'):EP X pins σ Q (.bool k') s:=by
 subst e;exact⟨.bl k,H,I,rfl,q⟩
theorem Q4:OpR X (compareOp .Eq) rEq:=by
 intro pins s σ H x y v u Q I rx ry h;obtain⟨hs,q⟩:=h;cases x with
 | non=>
  cases rx;cases y with
  | non=>cases ry;exact PySem.EqNone.eq_none_none (N0 I q (by simp))
  | bl j=>cases ry;exact PySem.EqNone.eq_none_bool (N0 I q (by simp))
  | int j=>obtain⟨t',rfl⟩:=ry;exact PySem.EqNone.eq_none_int (N0 I q (by simp))
  | str j=>obtain⟨t',rfl⟩:=ry;exact PySem.EqNone.eq_none_str (N0 I q (by simp))
  | _=>exact absurd (show false=true from hs) P4
 | bl i=>
  cases rx;cases y with
  | non=>cases ry;exact PySem.EqNone.eq_bool_none (N0 I q (by simp))
  | bl j=>cases ry;exact eq_bool (N0 I q C0e)
  | str j=>obtain⟨t',rfl⟩:=ry;exact PySem.EqMixed.eq_bool_str (N0 I q (by simp))
  | _=>exact absurd (show false=true from hs) P4
 | int i=>
  obtain⟨t,rfl⟩:=rx;cases y with
  | non=>cases ry;exact PySem.EqNone.eq_int_none (N0 I q (by simp))
  | int j=>obtain⟨t',rfl⟩:=ry;exact eq_int (N0 I q C0d)
  | str j=>obtain⟨t',rfl⟩:=ry;exact PySem.EqMixed.eq_int_str (N0 I q (by simp))
  | _=>exact absurd (show false=true from hs) P4
 | str i=>
  obtain⟨t,rfl⟩:=rx;cases y with
  | non=>cases ry;exact PySem.EqNone.eq_str_none (N0 I q (by simp))
  | bl j=>cases ry;exact PySem.EqMixed.eq_str_bool (N0 I q (by simp))
  | int j=>obtain⟨t',rfl⟩:=ry;exact PySem.EqMixed.eq_str_int (N0 I q (by simp))
  | str j=>obtain⟨t',rfl⟩:=ry;exact eq_str (N0 I q C0f)
  | _=>exact absurd (show false=true from hs) P4
 | byt i=>
  obtain⟨t,rfl⟩:=rx;cases y with
  | byt j=>obtain⟨t',rfl⟩:=ry;exact PySem.W.eq_bytes (N0 I q C0g)
  | _=>exact absurd (show false=true from hs) P4
 | _=>cases y <;> exact absurd (show false=true from hs) P4
theorem A85:OpR X (compareOp .NotEq) rNe:=by
 intro pins s σ H x y v u Q I rx ry h;obtain⟨hs,q⟩:=h;cases x with
 | non=>
  cases rx;cases y with
  | non=>cases ry;exact PySem.EqNone.ne_none_none (N0 I q (by simp))
  | bl j=>cases ry;exact PySem.EqNone.ne_none_bool (N0 I q (by simp))
  | int j=>obtain⟨t',rfl⟩:=ry;exact PySem.EqNone.ne_none_int (N0 I q (by simp))
  | str j=>obtain⟨t',rfl⟩:=ry;exact PySem.EqNone.ne_none_str (N0 I q (by simp))
  | _=>exact absurd (show false=true from hs) P4
 | bl i=>
  cases rx;cases y with
  | non=>cases ry;exact PySem.EqNone.ne_bool_none (N0 I q (by simp))
  | bl j=>cases ry;exact ne_bool (N0 I q (congrArg not C0e))
  | str j=>obtain⟨t',rfl⟩:=ry;exact PySem.EqMixed.ne_bool_str (N0 I q (by simp))
  | _=>exact absurd (show false=true from hs) P4
 | int i=>
  obtain⟨t,rfl⟩:=rx;cases y with
  | non=>cases ry;exact PySem.EqNone.ne_int_none (N0 I q (by simp))
  | int j=>obtain⟨t',rfl⟩:=ry;exact ne_int (N0 I q (congrArg not C0d))
  | str j=>obtain⟨t',rfl⟩:=ry;exact PySem.EqMixed.ne_int_str (N0 I q (by simp))
  | _=>exact absurd (show false=true from hs) P4
 | str i=>
  obtain⟨t,rfl⟩:=rx;cases y with
  | non=>cases ry;exact PySem.EqNone.ne_str_none (N0 I q (by simp))
  | bl j=>cases ry;exact PySem.EqMixed.ne_str_bool (N0 I q (by simp))
  | int j=>obtain⟨t',rfl⟩:=ry;exact PySem.EqMixed.ne_str_int (N0 I q (by simp))
  | str j=>obtain⟨t',rfl⟩:=ry;exact ne_str (N0 I q (congrArg not C0f))
  | _=>exact absurd (show false=true from hs) P4
 | byt i=>
  obtain⟨t,rfl⟩:=rx;cases y with
  | byt j=>obtain⟨t',rfl⟩:=ry;exact PySem.W.ne_bytes (N0 I q (congrArg not C0g))
  | _=>exact absurd (show false=true from hs) P4
 | _=>cases y <;> exact absurd (show false=true from hs) P4
theorem x6:OpR X (compareOp .Lt) (rI0 λi j=>.bl (decide (i<j))):=B05 λJ J J J J J J q=>lt_int q
theorem V6:OpR X (compareOp .LtE) (rI0 λi j=>.bl (decide (i<=j))):=B05 λJ J J J J J J q=>le_int q
theorem A4u:OpR X (compareOp .Gt) (rI0 λi j=>.bl (decide (j<i))):=B05 λJ J J J J J J q=>gt_int q
theorem B4c:OpR X (compareOp .GtE) (rI0 λi j=>.bl (decide (j<=i))):=B05 λJ J J J J J J q=>ge_int q
theorem C8j:OpR X (compareOp .In) (λx y H Q=>∃i j,x=.str i/\y=.str j/\Q (.bl (!(Builtin.Str.occurrences j i 0 j.length 1).isEmpty)) H):=by
 intro pins s σ H x y v u Q I rx ry h;obtain⟨i,j,rfl,rfl,q⟩:=h;obtain⟨t,rfl⟩:=rx;obtain⟨t',rfl⟩:=ry;exact in_str (N0 I q rfl)
theorem m9:OpR X (compareOp .Is) (λx y H Q=>y=.non/\Q (.bl (decide (x=.non))) H):=by
 intro pins s σ H x y v u Q I rx ry h;obtain⟨rfl,q⟩:=h;cases ry;refine is_none_gen (N0 I q ?_);cases x <;> first
  | (cases rx;rfl)
  | (obtain⟨t,rfl⟩:=rx;rfl)
theorem A2g:OpR X (compareOp .IsNot) (λx y H Q=>y=.non/\Q (.bl (!decide (x=.non))) H):=by
 intro pins s σ H x y v u Q I rx ry h;obtain⟨rfl,q⟩:=h;cases ry;refine isnot_none_gen (N0 I q ?_);cases x <;> first
  | (cases rx;rfl)
  | (obtain⟨t,rfl⟩:=rx;rfl)
theorem D1 (b:Expr){op:CmpOp}(h:autoParam (op≠.In) DD._auto_1)(h2:autoParam (op≠.NotIn) DD._auto_1):behindInMarks op b=false:=by
 have e1:(op == CmpOp.In)=false:=by cases op <;> first | rfl | exact absurd rfl h
 have e2:(op == CmpOp.NotIn)=false:=by cases op <;> first | rfl | exact absurd rfl h2
 cases b <;> simp [behindInMarks,e1,e2]
theorem y7 {op:CmpOp}{r:R2}(ho:OpR X (compareOp op) r)(ha:PE X a ta)(hb:PE X b tb)(hm:behindInMarks op b=false):PE X (.Compare a [op] [b] pos) (tOp r ta tb):=by
 intro pins s σ H Q I h;exact wpAny_Compare1 (B4a ha hb I h λv u s2 x y H2 I2 rx ry q=>ho pins s2 σ H2 x y v u Q I2 rx ry q) hm
def A86 (t:TE):TT:=fun σ H Q=>t σ H λx H'=>∃k,x=.bl k/\Q k H'
theorem K6 {op:CmpOp}{r:R2}(ho:OpR X (compareOp op) r)(ha:PE X a ta)(hb:PE X b tb)(hm:behindInMarks op b=false):PT X (.Compare a [op] [b] pos) (A86 (tOp r ta tb)):=by
 intro pins s σ H Q I h;refine wpAny_isTrue_Compare1 (thn (ha pins s σ H _ I h) λv s1 zz60=>el5 zz60 λx H1 I1 r1 q1=>thn (hb pins s1 σ H1 _ I1 q1) λu s2 zz61=>el5 zz61 λy H2 I2 r2 q2=>
  thn (ho pins s2 σ H2 x y v u _ I2 r1 r2 q2) λc s3 zz62=>zz62.elim λz zz63=>zz63.elim λH3 zz64=>zz64.elim λI3 zz65=>zz65.elim λr3 zz66=>zz66.elim λk zz67=>zz67.elim λe q3=>?_) hm
 subst e;cases r3;exact wpAny_truthy_bool ⟨H3,I3,q3⟩
def B4d (r r':R2)(ta tb tc:TE):TE:=fun σ H Q=>ta σ H λx H1=>tb σ H1 λy H2=>r x y H2 λz H3=>∃k,z=.bl k/\
 (if k=true then tc σ H3 λw' H4=>r' y w' H4 Q else Q (.bl false) H3)
theorem C8k {op op':CmpOp}{r r':R2}(ho:OpR X (compareOp op) r)(ho':OpR X (compareOp op') r')(ha:PE X a ta)(hb:PE X b tb)(hc:PE X c tc)
  (hm:autoParam (lastMarks [op,op'] [b,c]=false) A4P._auto_1):PE X (.Compare a [op,op'] [b,c] pos) (B4d r r' ta tb tc):=by
 intro pins s σ H Q I h;refine Compare_chain (thn (ha pins s σ H _ I h) λv s1 zz68=>el5 zz68 λx H1 I1 r1 q1=>chain_link (thn (hb pins s1 σ H1 _ I1 q1) λu s2 zz69=>el5 zz69 λy H2 I2 r2 q2=>
  thn (ho pins s2 σ H2 x y v u _ I2 r1 r2 q2) λd s3 zz70=>zz70.elim λz zz71=>zz71.elim λH3 zz72=>zz72.elim λI3 zz73=>zz73.elim λr3 zz74=>zz74.elim λk zz75=>zz75.elim λe q3=>?_)) hm
 subst e;cases r3;refine wpAny_truthy_bool ?_;cases k with
 | false=>exact ite_ff ⟨.bl false,H3,I3,rfl,q3⟩
 | true=>exact ite_tt (chain_last (thn (hc pins s3 σ H3 _ I3 q3) λw' s4 zz76=>el5 zz76 λz' H4 I4 r4 q4=>ho' pins s4 σ H4 y z' u w' Q I4 r2 r4 q4))
theorem B06 {op op':CmpOp}{r r':R2}(ho:OpR X (compareOp op) r)(ho':OpR X (compareOp op') r')(ha:PE X a ta)(hb:PE X b tb)(hc:PE X c tc)
  (hm:autoParam (lastMarks [op,op'] [b,c]=false) A4P._auto_1):PT X (.Compare a [op,op'] [b,c] pos) (A86 (B4d r r' ta tb tc)):=by
 intro pins s σ H Q I h;refine isTrue_chain (thn (ha pins s σ H _ I h) λv s1 zz77=>el5 zz77 λx H1 I1 r1 q1=>test_link (thn (hb pins s1 σ H1 _ I1 q1) λu s2 zz78=>el5 zz78 λy H2 I2 r2 q2=>
  thn (ho pins s2 σ H2 x y v u _ I2 r1 r2 q2) λd s3 zz79=>zz79.elim λz zz80=>zz80.elim λH3 zz81=>zz81.elim λI3 zz82=>zz82.elim λr3 zz83=>zz83.elim λk zz84=>zz84.elim λe q3=>?_)) hm
 subst e;cases r3;refine wpAny_truthy_bool ?_;cases k with
 | false=>obtain⟨k',e',q'⟩:=q3;cases e';exact ite_ff ⟨H3,I3,q'⟩
 | true=>refine ite_tt (test_last (thn (hc pins s3 σ H3 _ I3 q3) λw' s4 zz85=>el5 zz85 λz' H4 I4 r4 q4=>thn (ho' pins s4 σ H4 y z' u w' _ I4 r2 r4 q4) λd' s5 zz86=>zz86.elim λz2 zz87=>zz87.elim λH5 zz88=>zz88.elim λI5 zz89=>zz89.elim λr5 zz90=>zz90.elim λk2 zz91=>zz91.elim λe2 q5=>?_));subst e2;cases r5;exact wpAny_truthy_bool ⟨H5,I5,q5⟩
theorem A4v:(sizeLine:Nat)<2^63:=by rw[sizeLine_eq];decide
theorem V7 {x:V}{us:List Value}(r:C6 [x] us):∃u,us=[u]/\E1 x u:=by
 cases r with
 | cons r1 r2=>cases r2;exact⟨_,rfl,r1⟩
theorem B07 {x y:V}{us:List Value}(r:C6 [x,y] us):∃u w',us=[u,w']/\E1 x u/\E1 y w':=by
 cases r with
 | cons r1 r2=>
  cases r2 with
  | cons r3 r4=>cases r4;exact⟨_,_,rfl,r1,r3⟩
theorem C0h:V5 X (.builtin "abs") (λxs H Q=>∃i,xs=[.int i]/\Q (.int (if i<0 then -i else i)) H):=by
 intro pins s σ H xs us Q I r h;obtain⟨i,rfl,q⟩:=h;obtain⟨u,rfl,t,rfl⟩:=V7 r;exact call_abs_int λu tk=>⟨.int (if i<0 then -i else i),H,I.tok _,⟨_,rfl⟩,q⟩
theorem B08 (hc:X.calm=true):V5 X (.builtin "max") (λxs H Q=>∃i j,xs=[.int i,.int j]/\Q (.int (if j>i then j else i)) H):=by
 intro pins s σ H xs us Q I r h;obtain⟨i,j,rfl,q⟩:=h;obtain⟨u,w',rfl,⟨t,rfl⟩,⟨t',rfl⟩⟩:=B07 r;refine max_two_ints (I.ok.hd hc) λh' tk k=>⟨_,H,I.kept k,?_,q⟩;by_cases hj:j>i
 ·rw[if_pos hj,if_pos hj];exact⟨_,rfl⟩
 ·rw[if_neg hj,if_neg hj];exact⟨_,rfl⟩
theorem A1q (hc:X.calm=true):V5 X (.builtin "min") (λxs H Q=>∃i j,xs=[.int i,.int j]/\Q (.int (if j<i then j else i)) H):=by
 intro pins s σ H xs us Q I r h;obtain⟨i,j,rfl,q⟩:=h;obtain⟨u,w',rfl,⟨t,rfl⟩,⟨t',rfl⟩⟩:=B07 r;refine min_two_ints (I.ok.hd hc) λh' tk k=>⟨_,H,I.kept k,?_,q⟩;by_cases hj:j<i
 ·rw[if_pos hj,if_pos hj];exact⟨_,rfl⟩
 ·rw[if_neg hj,if_neg hj];exact⟨_,rfl⟩
theorem C0i:V5 X (.type "int") (λxs H Q=>(∃i,xs=[.int i]/\Q (.int i) H)\/∃k,xs=[.bl k]/\Q (.int (if k then 1 else 0)) H):=by
 intro pins s σ H xs us Q I r h;rcases h with ⟨i,rfl,q⟩ | ⟨k,rfl,q⟩
 ·obtain⟨u,rfl,t,rfl⟩:=V7 r;exact call_int_int ⟨.int i,H,I,⟨_,rfl⟩,q⟩
 ·obtain⟨u,rfl,r1⟩:=V7 r;cases r1;exact call_int_bool ⟨.int (if k then 1 else 0),H,I.tok _,⟨_,rfl⟩,q⟩
theorem A2h:V5 X (.type "str") (λxs H Q=>∃i,xs=[.int i]/\i.natAbs.log2<1920/\Q (.str (toString i)) H):=by
 intro pins s σ H xs us Q I r h;obtain⟨i,rfl,hz,q⟩:=h;obtain⟨u,rfl,t,rfl⟩:=V7 r;exact PySem.P.str_of_int hz ⟨.str _,H,I.tok _,⟨_,rfl⟩,q⟩
end
structure A4w (h:Heap)(x dx C:Addr)(mA:Str->Option Value):Prop where
 obj:h.get? x=some (A6o C dx)
 ns:h.Ns1 dx mA
 ne:dx≠x
set_option tactic.hygienic true in
theorem C8l {h:Heap}{dx:Addr}{mA:Str->Option Value}(n:h.Ns1 dx mA):∃od,h.get? dx=some od/\∀name,B9g name od=some (mA name):=by
 obtain⟨o,es,ep,ho,hd,hk,_,hm⟩:=n;refine⟨o,ho,λname=>?_⟩;have e:=hm name;unfold nsFind findBy at e;rw[<-Array.find?_toList] at e;unfold B9g;rw[hd];dsimp only;split
 ·rename_i y q;rw[q] at e;exact congrArg some e
 ·rename_i q;rw[q] at e;have a:es.toList.any (·.refKey)=false:=by
   rw[List.any_eq_false];intro y hy;obtain⟨z,t,hkey⟩:=hk y (Array.mem_toList_iff.mp hy);simp [DictEntry.refKey,hkey]
  have a':¬ es.toList.any (·.refKey)=true:=by rw[a];exact P4
  rw[if_neg a'];exact congrArg some e
theorem A4w.look {h:Heap}{x dx C:Addr}{mA:Str->Option Value}(I:A4w h x dx C mA):∃od,PySem.W.InstAt h x (A6o C dx) C (some od)/\∀name,B9g name od=some (mA name):=
 let ⟨od,ho,hl⟩:=C8l I.ns
 ⟨od,⟨I.obj,rfl,rfl,ho⟩,hl⟩
variable {A:Around}{dx C f:Addr}
section
variable {prog:Program}{w:World}{K:A8}{x:Addr}{mA:Str->Option Value}{name:Str}{v:Value}
theorem C8m {expr:Bool}{Q:Value->Shared->Prop}(X:K.In s.heap)(I:A4w s.heap x dx C mA)(hg:B9h K C name=true)(hh:PySem.W.hasDictIn K C=true)
  (ha:A1k K (.ref C) name=some none) (hv:mA name=some v) (hv':PySem.W.handedIn v=true) (h:Q v { s with toks:=s.toks+1 }) :
  wpAny (model prog w) A (getAttr (.ref x) name expr) Q E s:=by
 obtain⟨od,J,hl⟩:=I.look;exact PySem.W.get_value X J (C65 hg).1 (PySem.W.findObj_own hh ha rfl (by rw[hl,hv])) hv' h
theorem C8n {pl:Sem Bool}{Q:Value×List Value->Shared->Prop}(X:K.In s.heap)(I:A4w s.heap x dx C mA)(hg:B9h K C name=true)
  (hf:A1k K (.ref C) name=some (some (.ref f))) (ht:PySem.W.isFn K (.ref f)=true) (hv:mA name=none) (h:Q (.ref f,[.ref x]) s) :
  wpAny (model prog w) A (getMethod (.ref x) name pl) Q E s:=by
 obtain⟨od,J,hl⟩:=I.look;exact PySem.W.method_fn X J (C65 hg).1 (C65 hg).2 hf (beq_iff_eq.mp ht) (by show (B9g name od).map (·.isSome)=some false;rw[hl,hv];rfl) h
theorem C8o {ns:List Str}{Q:Unit->Shared->Prop}(X:K.In s.heap)(I:A4w s.heap x dx C mA)
  (hs:A1k K (.ref C) "__setattr__" = some (some (.builtin "object.__setattr__"))) (hp:PySem.W.plainOver K C=true) (ht:PySem.W.takerIn K C name=some none) (hh:PySem.W.hasDictIn K C=true)
  (hw:PySem.Within mA ns) (hsz:ns.length<=sizeLine)
  (h:∀h',A4w h' x dx C (λy=>if y=name then some v else mA y)->Heap.SameBut dx s.heap h'->Q () { s with heap:=h',toks:=s.toks+2 }) :
  wpAny (model prog w) A (setAttr (.ref x) name v) Q E s:=by
 obtain⟨od,J,hl⟩:=I.look;refine PySem.W.set_plain X J hs (PySem.W.osa_open (s:={ s with toks:=s.toks+1 }) (r:=none) X J hp ht λb=>?_);obtain⟨cd,hc,hd'⟩:=PySem.W.any_some hh;have hx:s.heap.get? x=some ⟨.ref C,some dx,.plain,#[]⟩:=I.obj;refine wpAny_bind (wpAny_pure (wpAny_bind (wpAny_bind (wpAny_loadPart hx (wpAny_bind (PySem.W.Looks.here (s:={ s with toks:=s.toks+1 }) (PySem.W.looks_clsIn X hc) ?_))))));rw[hd'];refine wpAny_pure (a:=some dx) (wpAny_bind (wpAny_pure (wpAny_bind ?_)));refine wpAny_nsSet1 (s:={ s with toks:=s.toks+1 }) I.ns λh' hn2 hs2=>?_;obtain⟨oD,esD,epD,hoD,hdD,hcD⟩:=hn2.count (PySem.Within.cons name v hw);refine wpAny_bind (wpAny_lookBehind hoD (by rw[hdD];exact pastItsLine_dict (J1 hcD (by rw[K4];omega))) ?_);exact wpAny_pure (h _ ⟨(hs2.2 _ (Ne.symm I.ne)).trans I.obj,hn2,I.ne⟩ hs2)
theorem C8p {R:Result->Shared->Prop}{vs:List Value}{kw:List (Str×Value)}(X:K.In s.heap)(hm:PySem.W.makesIn K C=true)
  (hi:A1k K (.ref C) "__init__" = some (some (.ref f))) (hf:PySem.W.typeIn K (.ref f)=some (.type "function"))
  (h:codeAny (model prog w) (A.under (.builtin "type.__call__" ⟨.ref C::vs,kw⟩)) (.call (.ref f) ⟨.ref (s.heap.objs.size+1)::vs,kw⟩) (PySem.W.InitBack (s.heap.objs.size+1) R)
   { s with heap:=(s.heap.push A4j).push (A6o C s.heap.objs.size) }) :
  codeAny (model prog w) A (.call (.ref C) ⟨vs,kw⟩) R s:=by
 obtain⟨hh,g,d,t,os⟩:=s;exact PySem.W.make_core (PySem.W.makes_of X hm) (PySem.W.looks_findIn X hi) (λself=>PySem.W.bind_fn X self hf) (.inl rfl) h
end
def S0 (f:Str)(v:V):List (Str×V)->List (Str×V)
 | []=>[(f,v)]
 | (g,x)::r=>if g=f then (g,v)::r else (g,x)::S0 f v r
theorem C0j (f g:Str)(v:V):∀fs:List (Str×V),(S0 f v fs).lookup g=if g=f then some v else fs.lookup g
 | []=>by
  show A8t g [(f,v)]=_;by_cases h:g=f
  ·have hb:(g == f)=true:=beq_iff_eq.mpr h;simp only[A8t,hb,if_pos h]
  ·have hb:(g == f)=false:=beq_eq_false_iff_ne.mpr h;simp only[A8t,hb,if_neg h]
 | (k,x)::r=>by
  have ih:=C0j f g v r;rw[show S0 f v ((k,x)::r)=(if k=f then (k,v)::r else (k,x)::S0 f v r) from rfl];by_cases hk:k=f
  ·rw[if_pos hk];by_cases h:g=k
   ·have hb:(g == k)=true:=beq_iff_eq.mpr h;simp only[A8t,hb,if_pos (h.trans hk)]
   ·have hb:(g == k)=false:=beq_eq_false_iff_ne.mpr h;simp only[A8t,hb,if_neg (λe:g=f=>h (e.trans hk.symm))]
  ·rw[if_neg hk];by_cases h:g=k
   ·have hb:(g == k)=true:=beq_iff_eq.mpr h;simp only[A8t,hb,if_neg (λe:g=f=>hk (h.symm.trans e))]
   ·have hb:(g == k)=false:=beq_eq_false_iff_ne.mpr h;simp only[A8t,hb];exact ih
theorem B4e (f:Str)(v:V):∀fs:List (Str×V),f∈(S0 f v fs).map (·.1)/\∀g,g∈fs.map (·.1)->g∈(S0 f v fs).map (·.1)
 | []=>⟨by simp [S0],λg h=>by simp at h⟩
 | (k,x)::r=>by
  obtain⟨i1,i2⟩:=B4e f v r;rw[show S0 f v ((k,x)::r)=(if k=f then (k,v)::r else (k,x)::S0 f v r) from rfl];by_cases hk:k=f
  ·rw[if_pos hk];subst hk;exact⟨by simp,λg h=>by simpa using h⟩
  ·rw[if_neg hk];refine⟨?_,λg h=>?_⟩
   ·rw[K9];exact C8 _ i1
   ·rw[K9] at h ⊢;rcases G1.mp h with e | e
    ·exact G1.mpr (.inl e)
    ·exact C8 _ (i2 g e)
theorem C0k (f:Str)(v:V):∀fs:List (Str×V),(S0 f v fs).length<=fs.length+1
 | []=>by simp [S0]
 | (k,x)::r=>by
  have ih:=C0k f v r;rw[show S0 f v ((k,x)::r)=(if k=f then (k,v)::r else (k,x)::S0 f v r) from rfl];by_cases hk:k=f
  ·rw[if_pos hk,K4,K4];omega
  ·rw[if_neg hk,K4,K4];omega
theorem U3.some_of {v:V}{o:Option Value}(r:U3 (some v) o):∃u,o=some u/\E1 v u:=by
 cases o with
 | none=>exact (show False from r).elim
 | some u=>exact⟨u,rfl,r⟩
theorem U3.none_of {o:Option Value}(r:U3 none o):o=none:=by
 cases o with
 | none=>rfl
 | some u=>exact (show False from r).elim
theorem C8q {v:V}{u:Value}(r:E1 v u):PySem.W.handedIn u=true:=by
 cases v with
 | non=>cases (show u=Value.none from r);rfl
 | bl b=>cases (show u=Value.bool b from r);rfl
 | int i=>obtain⟨t,e⟩:=(show ∃t,u=Value.int i t from r);cases e;rfl
 | str x=>obtain⟨t,e⟩:=(show ∃t,u=Value.str x t from r);cases e;rfl
 | byt b=>obtain⟨t,e⟩:=(show ∃t,u=Value.bytes b t from r);cases e;rfl
 | flt b=>obtain⟨t,e⟩:=(show ∃t,u=Value.float b t from r);cases e;rfl
 | ref a=>cases (show u=Value.ref a from r);rfl
 | ty n=>cases (show u=Value.type n from r);rfl
section
variable {P:Program}{w:World}{fs fs':List (Str×V)}
theorem B09 (hok:HOk P w H h)(e:H a=some (.ins C dx fs)):∃mA,A4w h a dx C mA/\(∀f,U3 (fs.lookup f) (mA f))/\PySem.Within mA (fs.map (·.1))/\fs.length<=1000/\H dx=some (.own a):=by
 obtain⟨d,z,ne,ob,mA,n,r,q⟩:=(show O7 P w H h a (.ins C dx fs) from hok a _ e);exact⟨mA,⟨ob,n,ne⟩,r,q,z,d⟩
end
structure Cls (K:A8)(C:Addr):Prop where
 pg:B9h K C Str.empty=true
 hd:PySem.W.hasDictIn K C=true
 po:PySem.W.plainOver K C=true
 sa:A1k K (.ref C) "__setattr__" = some (some (.builtin "object.__setattr__"))
theorem Cls.get {K:A8}{C:Addr}(c:Cls K C)(f:Str):B9h K C f=true:=c.pg
def A0l (K:A8)(C:Addr)(f:Str):Prop:=A1k K (.ref C) f=some none
theorem A0l.taker {K:A8}{C:Addr}{f:Str}(n:A0l K C f):PySem.W.takerIn K C f=some none:=by
 unfold PySem.W.takerIn;rw[show A1k K (.ref C) f=some none from n];rfl
structure B1a (K:A8)(C:Addr)(m:Str)(f:Addr):Prop where
 at_:A1k K (.ref C) m=some (some (.ref f))
 fn:PySem.W.isFn K (.ref f)=true
 kp:A6p K (.ref f)=true
section
variable {fs:List (Str×V)}{f:Str}{v:V}
theorem C8r {b:Bool}{Q:Value->Shared->Prop}(I:Inv X pins σ H s)(e:H a=some (.ins C dx fs))(c:Cls X.K C)(n:A0l X.K C f)(l:fs.lookup f=some v)
  (h:∀u s',Inv X pins σ H s'->E1 v u->Q u s'):wpAny (model X.prog X.w) A (getAttr (.ref a) f b) Q E s:=by
 obtain⟨mA,O,r,_,_,_⟩:=B09 I.hok e;obtain⟨u,hu,ru⟩:=U3.some_of (v:=v) (o:=mA f) (by rw[<-l];exact r f);exact C8m I.kIn O (c.get f) c.hd n hu (C8q ru) (h u _ (I.tok _) ru)
theorem C0l {m:Str}{g:Addr}{pl:Sem Bool}{Q:Value×List Value->Shared->Prop}(I:Inv X pins σ H s)(e:H a=some (.ins C dx fs))(c:Cls X.K C)(k:B1a X.K C m g)(l:fs.lookup m=none)
  (h:Q (.ref g,[.ref a]) s):wpAny (model X.prog X.w) A (getMethod (.ref a) m pl) Q E s:=by
 obtain⟨mA,O,r,_,_,_⟩:=B09 I.hok e;have hn:mA m=none:=U3.none_of (by rw[<-l];exact r m);exact C8n I.kIn O (c.get m) k.at_ k.fn hn h
theorem C8s {y:V}{u:Value}{Q:Unit->Shared->Prop}(I:Inv X pins σ H s)(e:H a=some (.ins C dx fs))(c:Cls X.K C)(n:A0l X.K C f)(hl:fs.length<1000)(ry:E1 y u)
  (h:∀s',Inv X pins σ (upd H a (.ins C dx (S0 f y fs))) s'->Q () s'):wpAny (model X.prog X.w) A (setAttr (.ref a) f u) Q E s:=by
 obtain⟨mA,O,r,wi,_,ho⟩:=B09 I.hok e;have hz:(fs.map (·.1)).length<=sizeLine:=by rw[B6,sizeLine_eq];omega
 refine C8o I.kIn O c.sa c.po n.taker c.hd wi hz λh' O' sb=>h _ ?_;have hd:∃o,h'.get? dx=some o:=let ⟨o,_,_,e',_⟩:=O'.ns;⟨o,e'⟩;refine I.write (x:=a) (e:=dx) (by rw[e];exact True.intro) (.inr ho) (λb q hb z=>(sb.2 b hb).trans z) hd ?_;refine⟨by rw[B7 O.ne];exact ho,?_,O.ne,O'.obj,_,O'.ns,λg=>?_,λg hg=>?_⟩
 ·have:=C0k f y fs;omega
 ·show U3 ((S0 f y fs).lookup g) (if g=f then some u else mA g);rw[C0j];by_cases q:g=f
  ·rw[if_pos q,if_pos q];exact ry
  ·rw[if_neg q,if_neg q];exact r g
 ·by_cases q:g=f
  ·rw[q];exact (B4e f y fs).1
  ·refine (B4e f y fs).2 g (wi g λz=>hg ?_);show (if g=f then some u else mA g)=none;rw[if_neg q];exact z
theorem Inv.made (I:Inv X pins σ H s):Inv X pins σ (upd (upd H s.heap.objs.size (.own (s.heap.objs.size+1))) (s.heap.objs.size+1) (.ins C s.heap.objs.size []))
  { s with heap:=(s.heap.push A4j).push (A6o C s.heap.objs.size) }:=by
 have e1:(s.heap.push A4j).get? s.heap.objs.size=some A4j:=R9 s.heap rfl;have e2:((s.heap.push A4j).push (A6o C s.heap.objs.size)).get? (s.heap.objs.size+1)=some (A6o C s.heap.objs.size):=by
  have:=R9 (s.heap.push A4j) (o:=A6o C s.heap.objs.size) rfl
  rwa [B3p] at this
 have e3:(s.heap.push A4j).Ns s.heap.objs.size (λJ=>none):=⟨A4j,#[],_,e1,rfl,(λe he=>absurd he (by simp)),λJ=>rfl⟩;have I1:=I.laid (a:=s.heap.objs.size) (o:=.own (s.heap.objs.size+1)) (h':=s.heap.push A4j) (t':=s.toks) (λb u q=>M5 _ q) (E8 _) ⟨_,e1⟩;refine I1.laid (a:=s.heap.objs.size+1) (o:=.ins C s.heap.objs.size []) (t':=s.toks) (λb u q=>M5 _ q) (Nat.le_of_eq (B3p _ _)) ?_;have ne:s.heap.objs.size≠s.heap.objs.size+1:=O0 (B3q _);refine⟨by rw[B7 ne,B3],P5 _,ne,e2,λJ=>none,(Heap.Ns1.of_empty e3).at λo q=>M5 _ q,λJ=>True.intro,λy hy=>absurd rfl hy⟩
theorem C8t {prog:Program}{w:World}{env:Env}{e:Expr}{f:Str}{pos:Pos}{s:Shared}{Q:Value->Shared->Prop}(hb:attributeBase e f env (eval e env)=eval e env)
  (h:wpAny (model prog w) A (eval e env) (λo s₁=>wpAny (model prog w) A (getAttr o f true) Q E s₁) E s):wpAny (model prog w) A (eval (.Attribute e f pos) env) Q E s:=
 Attribute_any_ h (by rw[arm_eval_Attribute,hb])
end
def C8u (K:A8)(ta:TE)(f:Str):TE:=fun σ H Q=>ta σ H λx H1=>∃a C dx fs v,x=.ref a/\H1 a=some (.ins C dx fs)/\Cls K C/\A0l K C f/\fs.lookup f=some v/\Q v H1
def C8v (K:A8)(ta tv:TE)(f:Str):TS:=λD σ H=>tv σ H λy H1=>ta σ H1 λx H2=>∃a C dx fs,x=.ref a/\H2 a=some (.ins C dx fs)/\Cls K C/\A0l K C f/\fs.length<1000/\
 D.nx σ (upd H2 a (.ins C dx (S0 f y fs)))
variable {o:Expr}
section
variable {value:Expr}{f:Str}{pos' tpos:Pos}{tv:TE}
theorem Q5 (he:PE X e ta)(hb:attributeBase e f X.env (eval e X.env)=eval e X.env):PE X (.Attribute e f pos) (C8u X.K ta f):=by
 intro pins s σ H Q I h;refine C8t hb (thn (he pins s σ H _ I h) λu s1 zz93=>zz93.elim λx zz94=>zz94.elim λH1 zz95=>zz95.elim λI1 zz96=>zz96.elim λrx zz97=>zz97.elim λa zz98=>zz98.elim λC zz99=>zz99.elim λdx zz100=>zz100.elim λfs zz101=>zz101.elim λv zz102=>zz102.elim λex zz103=>zz103.elim λea zz104=>zz104.elim λc zz105=>zz105.elim λn zz106=>zz106.elim λl q=>?_);subst ex;obtain rfl:u=Value.ref a:=rx;exact C8r I1 ea c n l λu' s2 I2 ru=>⟨v,H1,I2,ru,q⟩
theorem A1r (ha:PE X o ta)(hv:PE X value tv)(hs:swapsWith value (some (.Attribute o f pos')) pos.line X.env=pure false):PS X (.Assign [.Attribute o f pos'] value pos) (C8v X.K ta tv f):=by
 intro pins s σ H D I h;refine plainObj_wpAny_Assign_Attribute (thn (hv pins s σ H _ I h) λu s1 zz122=>el5 zz122 λy H1 I1 ry q=>thn (ha pins s1 σ H1 _ I1 q) λov s2 zz123=>zz123.elim λx zz124=>zz124.elim λH2 zz125=>zz125.elim λI2 zz126=>zz126.elim λrx zz127=>zz127.elim λa zz128=>zz128.elim λC zz129=>zz129.elim λdx zz130=>zz130.elim λfs zz131=>zz131.elim λex zz132=>zz132.elim λea zz133=>zz133.elim λc zz134=>zz134.elim λn zz135=>zz135.elim λl q2=>?_) hs;subst ex;obtain rfl:ov=Value.ref a:=rx;exact C8s I2 ea c n l ry λs3 I3=>⟨σ,_,I3,q2⟩
end
section
variable {Q:Value->Shared->Prop}{c:Value}{b:Bool}
inductive n8 (K:A8)(H:Hp):V->Value->Prop where
 | non:n8 K H .non (.type "NoneType")
 | bl (x:Bool):n8 K H (.bl x) (.type "bool")
 | int (i:Int):n8 K H (.int i) (.type "int")
 | str (x:Str):n8 K H (.str x) (.type "str")
 | flt (x:UInt64):n8 K H (.flt x) (.type "float")
 | lst {a:Addr} {xs:List V} (e:H a=some (.lst xs)):n8 K H (.ref a) (.type "list")
 | frz {a:Addr} {o:Obj} {xs:List V} (e:H a=some (.frz o (.lst xs))):n8 K H (.ref a) (.type "list")
 | tup {a:Addr} {xs:List V} (e:H a=some (.tup xs)):n8 K H (.ref a) (.type "tuple")
 | dK {a:Addr} {kvs:List (Key×V)} (e:H a=some (.dK kvs)):n8 K H (.ref a) (.type "dict")
 | dT {a:Addr} {kvs:List (List Key×V)} (e:H a=some (.dT kvs)):n8 K H (.ref a) (.type "dict")
 | ins {a C dx:Addr} {fs:List (Str×V)} (e:H a=some (.ins C dx fs)) (cl:Cls K C) (ha:A1k K (.ref C) "__class__" = some (some (.builtin "object.__class__")))
   (hn:PySem.W.specialIn K (.builtin "object.__class__") "__get__" = some (some (.builtin "getset_descriptor.__get__"))) (htk:PySem.W.takesIn K (.builtin "object.__class__")=some true)
   (hm:PySem.W.mroIn K C (.type "object")=some true):n8 K H (.ref a) (.ref C)
theorem C0m {x:V}{u t:Value}(I:Inv X pins σ H s)(rx:E1 x u)(ty:n8 X.K H x t)(e:A0y X.K t c=some b)(h:∀tk,Q (.bool b) { s with toks:=tk }) :
  wpAny (model X.prog X.w) A (call (.builtin "isinstance") [u,c]) Q E s:=by
 cases ty with
 | non=>cases (show u=Value.none from rx);exact A1l PySem.W.kitx_none I.kIn True.intro e (λz=>nomatch z) h
 | bl y=>cases (show u=Value.bool y from rx);exact A1l PySem.W.kitx_bool I.kIn True.intro e (λz=>nomatch z) h
 | int i=>obtain⟨t,q⟩:=(show ∃t,u=Value.int i t from rx);cases q;exact A1l PySem.W.kitx_int I.kIn True.intro e (λz=>nomatch z) h
 | str y=>obtain⟨t,q⟩:=(show ∃t,u=Value.str y t from rx);cases q;exact A1l PySem.W.kitx_str I.kIn True.intro e (λz=>nomatch z) h
 | flt y=>obtain⟨t,q⟩:=(show ∃t,u=Value.float y t from rx);cases q;exact A1l PySem.W.kitx_float I.kIn True.intro e (λz=>nomatch z) h
 | @lst a xs ea=>cases (show u=Value.ref a from rx);obtain⟨_,_,n,_,h1⟩:=(show O7 X.prog X.w H s.heap a (.lst xs) from I.hok a _ ea);exact A1l PySem.W.kitx_list I.kIn ⟨_,h1,rfl⟩ e (λz=>nomatch z) h
 | @frz a ob xs ea=>cases (show u=Value.ref a from rx);obtain⟨_,_,_,n,_,h1⟩:=(show O7 X.prog X.w H s.heap a (.frz ob (.lst xs)) from I.hok a _ ea);exact A1l PySem.W.kitx_list I.kIn ⟨_,h1,rfl⟩ e (λz=>nomatch z) h
 | @tup a xs ea=>cases (show u=Value.ref a from rx);obtain⟨_,_,_,p⟩:=(show O7 X.prog X.w H s.heap a (.tup xs) from I.hok a _ ea);obtain⟨o,h1,h2,_⟩:=p;exact A1l PySem.W.kitx_tuple I.kIn ⟨o,h1,h2⟩ e (λz=>nomatch z) h
 | @dK a kvs ea=>cases (show u=Value.ref a from rx);obtain⟨_,_,vs,_,p⟩:=(show O7 X.prog X.w H s.heap a (.dK kvs) from I.hok a _ ea);obtain⟨o,es,ep,h1,h2,_⟩:=p;exact A1l PySem.W.kitx_dict I.kIn ⟨o,h1,h2.1⟩ e (λz=>nomatch z) h
 | @dT a kvs ea=>cases (show u=Value.ref a from rx);obtain⟨_,_,xs,_,o,es,ep,h1,h2,_⟩:=(show O7 X.prog X.w H s.heap a (.dT kvs) from I.hok a _ ea);exact A1l PySem.W.kitx_dict I.kIn ⟨o,h1,h2.1⟩ e (λz=>nomatch z) h
 | @ins a C dx fs ea cl ha hn htk hm=>cases (show u=Value.ref a from rx);obtain⟨mA,O,_⟩:=B09 I.hok ea;obtain⟨od,J,_⟩:=O.look;exact A1l (PySem.W.kitx_own (cl.get _) cl.hd ha hn htk hm) I.kIn J e (λz=>nomatch z) h
end
structure P8 (k:Nat)(A:Around):Prop where
 hd:A.handled=none
 dp:A.depth+3*k+5<recursionLimit
 un:A.units+16*k+200<cLine
 gd:A.guards=some []
theorem P8.mono {j k:Nat}{A:Around}(r:P8 k A)(h:j<=k):P8 j A:=⟨r.hd,by have:=r.dp;omega,by have:=r.un;omega,r.gd⟩
theorem P8.deeper {k:Nat}{A:Around}(r:P8 (k+1) A)(env:Env):P8 k (A.deeper env):=
 ⟨r.hd,by have:=r.dp;show A.depth+1+3*k+5<_;omega,by have:=r.un;show A.units+3+16*k+200<_;omega,r.gd⟩
theorem C8w {A:Around}{C:Addr}{us:List Value}{kw:List (Str×Value)}:(A.under (.builtin "type.__call__" ⟨.ref C::us,kw⟩)).depth=A.depth+1:=by
 first | rfl | simp [Around.under,Code.weight,Code.isCreation,Code.isGuard,Code.isCaller,Code.frames,Code.isFrame,guardIds]
theorem C8x {A:Around}{C:Addr}{us:List Value}{kw:List (Str×Value)}:(A.under (.builtin "type.__call__" ⟨.ref C::us,kw⟩)).units=A.units+1:=by
 first | rfl | simp [Around.under,Code.cUnits,Code.frames,Code.isFrame]
theorem P8.make {k:Nat}{A:Around}(r:P8 (k+1) A)(C:Addr)(us:List Value)(kw:List (Str×Value)):P8 k (A.under (.builtin "type.__call__" ⟨.ref C::us,kw⟩)):=
 ⟨r.hd,by have:=r.dp;rw[C8w];omega,by have:=r.un;rw[C8x];omega,by first | exact r.gd | (show pushGuards _ A.guards=_;rw[r.gd];rfl)⟩
theorem P8.depth {k:Nat}{A:Around}(r:P8 k A):A.depth<recursionLimit:=by have:=r.dp;omega
theorem P8.units {k:Nat}{A:Around}(r:P8 k A):A.units+64<cLine:=by have:=r.un;omega
def T8:TA:=λJ H Q=>Q [] H
def V8 (ta:TE)(tr:TA):TA:=fun σ H Q=>ta σ H λx H1=>tr σ H1 λxs H2=>Q (x::xs) H2
variable {es:List Expr}{t:TA}
theorem A3:PA X [] T8:=λJ J J J H Q I h=>Calls.spliced_nil ⟨[],H,I,.nil,h⟩
theorem A1 (ha:PE X e te)(hr:PA X es t)(hs:autoParam (starEach (e::es) X.env=(false,eval e X.env)::starEach es X.env) RF._auto_1):PA X (e::es) (V8 te t):=by
 intro pos pins s σ H Q I h;rw[hs];show wpAny _ _ (spliced ((false,eval e X.env)::backTo pos (starEach es X.env))) _ _ s;refine Calls.spliced_cons (thn (ha pins s σ H _ I h) λu s1 zz173=>el5 zz173 λx H1 I1 r1 q1=>?_);exact thn (hr pos pins s1 σ H1 _ I1 q1) λus s2 zz174=>el5 zz174 λxs H2 I2 r2 q2=>⟨x::xs,H2,I2,.cons r1 r2,q2⟩
def C8y (t:TA):TE:=fun σ H Q=>t σ H λxs H1=>xs.length<=sizeLine/\∀p,H1 p=none->Q (.ref p) (upd H1 p (.tup xs))
def C0n (t:TA):TE:=fun σ H Q=>t σ H λxs H1=>xs.length<=sizeLine/\∀p,H1 p=none->Q (.ref p) (upd H1 p (.lst xs))
theorem o7 {x1}(h:PA X es t):PE X (.Tuple es x1 pos) (C8y t):=by
 intro pins s σ H Q I hq;refine wpAny_Tuple_spliced (thn (h pos pins s σ H _ I hq) λus s1 zz175=>zz175.elim λxs zz176=>zz176.elim λH1 zz177=>zz177.elim λI1 zz178=>zz178.elim λr zz179=>zz179.elim λz q=>⟨by rw[<-r.length];exact z,?_⟩);have hf:H1 s1.heap.objs.size=none:=I1.hok.fresh (E8 _);refine⟨.ref s1.heap.objs.size,upd H1 s1.heap.objs.size (.tup xs),I1.laid (t':=s1.toks) (λb u e=>M5 _ e) (E8 _) ?_,rfl,q _ hf⟩;exact⟨z,us,r,⟨_,R9 _ rfl,rfl,_,rfl⟩⟩
theorem U6 (h:PA X es t):PE X (.List es pos) (C0n t):=by
 intro pins s σ H Q I hq;refine wpAny_List_spliced (thn (h pos pins s σ H _ I hq) λus s1 zz180=>zz180.elim λxs zz181=>zz181.elim λH1 zz182=>zz182.elim λI1 zz183=>zz183.elim λr zz184=>zz184.elim λz q=>⟨by rw[<-r.length];exact z,?_⟩);have hf:H1 s1.heap.objs.size=none:=I1.hok.fresh (E8 _);refine⟨.ref s1.heap.objs.size,upd H1 s1.heap.objs.size (.lst xs),I1.laid (t':=s1.toks) (λb u e=>M5 _ e) (E8 _) ?_,rfl,q _ hf⟩;exact⟨z,us,0,r,R9 _ rfl⟩
abbrev Sp:=List V->Hp->VK->XK->Prop
abbrev CXT:=List Env->Hp->Shared->XK->Value->Shared->Prop
structure A4x (P:Program)(w:World)(K:A8)(mg:Str->Option Value)(base:Heap)(A:Around)(outer:List Env)(s:Shared)(H:Hp):Prop where
 frames:A.frames=some outer
 mod:Mod K mg base
 bs:∀b o,base.get? b=some o->s.heap.get? b=some o/\H b=none
 bsz:base.objs.size<=s.heap.objs.size
 funs:s.heap.FunFrames base outer
 frf:∀b∈frs outer,H b=none
 hok:HOk P w H s.heap
 bare:AllBare s.gens
def CE (outer:List Env)(P:Program)(w:World)(H:Hp)(s:Shared)(Q:VK)(u:Value)(s':Shared):Prop:=
 ∃v H',s'.os=s.os/\AllBare s'.gens/\Un (frs outer) [] H H' s.heap s'.heap/\HOk P w H' s'.heap/\E1 v u/\Q v H'
def CR (CX:CXT)(outer:List Env)(P:Program)(w:World)(H:Hp)(s:Shared)(Q:VK)(E:XK)(r:Result)(s':Shared):Prop:=
 match r with
 | .ok (.ret u)=>CE outer P w H s Q u s'
 | .ok _=>False
 | .error e=>CX outer H s E e s'
structure B8 (P:Program)(w:World)(K:A8)(mg:Str->Option Value)(base:Heap)(CX:CXT)(k:Nat)(f:Addr)(fd:FuncData)(ps:List Str)(sp:Sp):Prop where
 len:∀vs H Q E,sp vs H Q E->vs.length=ps.length
 run:∀(A:Around)(outer:List Env)(s:Shared)(H:Hp)(args:Args)(us:List Value)(vs:List V)(Q:VK)(E:XK),P8 k A->A4x P w K mg base A outer s H->BindsTo s fd args (ps.zip us)->C6 vs us->sp vs H Q E->
  codeAny (model P w) A (.call (.ref f) args) (CR CX outer P w H s Q E) s
theorem B8.imp {P:Program}{w:World}{K:A8}{mg:Str->Option Value}{base:Heap}{CX:CXT}{k:Nat}{f:Addr}{fd:FuncData}{ps:List Str}{sp sp':Sp}(F:B8 P w K mg base CX k f fd ps sp)
  (h:∀vs H Q E,sp' vs H Q E->sp vs H Q E):B8 P w K mg base CX k f fd ps sp':=
 ⟨λvs H Q E q=>F.len vs H Q E (h _ _ _ _ q),λA outer s H args us vs Q E hr he hb hv hs=>F.run A outer s H args us vs Q E hr he hb hv (h _ _ _ _ hs)⟩
theorem A4x.make {P:Program}{w:World}{K:A8}{mg:Str->Option Value}{base:Heap}{A:Around}{outer:List Env}{s:Shared}{H:Hp}(e:A4x P w K mg base A outer s H)(C:Addr)(us:List Value)(kw:List (Str×Value)) :
  A4x P w K mg base (A.under (.builtin "type.__call__" ⟨.ref C::us,kw⟩)) outer s H:=⟨by first | exact e.frames | (simpa [Around.under,Code.envs,Code.isFrame,pushEnvs] using e.frames),e.mod,e.bs,e.bsz,e.funs,e.frf,e.hok,e.bare⟩
section
variable {s':Shared}
theorem Inv.env0 (I:Inv X pins σ H s):A4x X.prog X.w X.K X.mg X.base X.A X.stack s H:=
 ⟨I.ok.frames,I.ok.mod,I.bs,J1 I.ok.bsz I.sz,I.stack,I.stkFree,I.hok,I.bare⟩
theorem Inv.after {Q:VK}{u:Value}(I:Inv X pins σ H s)(h:CE X.stack X.prog X.w H s Q u s'):EP X pins σ Q u s':=by
 obtain⟨v,H',os,bare,un,hok,r,q⟩:=h;obtain⟨hh,g,d,t,os'⟩:=s';obtain rfl:os'=s.os:=os;exact⟨v,H',I.call (h':=hh) (g':=g) (d':=d) (t':=t) (ch:=[]) un hok bare (λb z=>absurd z (by simp)),r,q⟩
end
def C0o (sp:Sp)(dvs:List V)(E:XK)(t:TA):TE:=fun σ H Q=>t σ H λvs H1=>sp (vs++dvs) H1 Q E
def C0p (C:Addr)(m:Str)(sp:Sp)(dvs:List V)(E:XK)(ta:TE)(t:TA):TE:=fun σ H Q=>ta σ H λx H1=>∃a dx fs,x=.ref a/\H1 a=some (.ins C dx fs)/\fs.lookup m=none/\
 t σ H1 λvs H2=>sp (x::(vs++dvs)) H2 Q E
def C0q (C:Addr)(sp:Sp)(dvs:List V)(E:XK)(t:TA):TE:=fun σ H Q=>t σ H λvs H1=>∀x dx,H1 x=none->H1 dx=none->dx≠x->
 sp (.ref x::(vs++dvs)) (upd (upd H1 dx (.own x)) x (.ins C dx [])) (λv H2=>v=.non/\Q (.ref x) H2) E
def y8 (K:A8)(fd:FuncData)(ps:List Str)(ds:List Value):Prop:=
 ∀(s:Shared)(us:List Value),K.In s.heap->(us++ds).length=ps.length->BindsTo s fd ⟨us,[]⟩ (ps.zip (us++ds))
theorem y8.all {K:A8}{fd:FuncData}{ps:List Str}(h:∀us:List Value,us.length=ps.length->bindArgs fd ⟨us,[]⟩=pure (ps.zip us)):y8 K fd ps []:=λs us J hl=>by
 rw[X5] at hl ⊢;exact .of_eq (h us hl)
def A2i (CX:CXT)(X:Cx)(E:XK):Prop:=∀(pins:List (Addr×Obj))(σ:St)(H:Hp)(s:Shared)(e:Value)(s':Shared),Inv X pins σ H s->CX X.stack H s E e s'->X.xe e s'
variable {p:Pos}
section
variable {CX:CXT}{k:Nat}{fd:FuncData}{ps:List Str}{sp:Sp}{dvs:List V}{ds:List Value}{E:XK}{x m:Str}{apos:Pos}
theorem B1b {pins:List (Addr×Obj)}{σ:St}{H:Hp}{s:Shared}{Q:VK}{us:List Value}{vs:List V}(F:B8 X.prog X.w X.K X.mg X.base CX k f fd ps sp)(hr:P8 k X.A)(hb:y8 X.K fd ps ds)(hd:C6 dvs ds)(hx:A2i CX X E)
  (I:Inv X pins σ H s) (r:C6 vs us) (h:sp (vs++dvs) H Q E):wpAny (model X.prog X.w) X.A (call (.ref f) us) (EP X pins σ Q) X.xe s:=by
 have r2:C6 (vs++dvs) (us++ds):=r.append hd;have hl:(us++ds).length=ps.length:=by rw[<-r2.length];exact F.len _ _ _ _ h
 refine wpAny_call (codeAny_mono (F.run X.A X.stack s H ⟨us,[]⟩ (us++ds) (vs++dvs) Q E hr I.env0 (hb s us I.kIn hl) r2 h) λr s' hq=>?_);cases r with
 | error e=>exact hx pins σ H s e s' I hq
 | ok fl=>
  cases fl with
  | ret u=>exact I.after hq
  | next=>exact False.elim hq
  | brk=>exact False.elim hq
  | cont=>exact False.elim hq
theorem A9 (F:B8 X.prog X.w X.K X.mg X.base CX k f fd ps sp)(hr:P8 k X.A)(hg:Gl X x)(hm:X.mg x=some (.ref f))(hk:A6p X.K (.ref f)=true)(hb:y8 X.K fd ps ds)(hd:C6 dvs ds)(hx:A2i CX X E)
  (ha:PA X (e::es) t) (hdb:autoParam ((x == ("__debug__" : Str))=false) DD._auto_1) (he:autoParam (starEach (e::es) X.env=(false,eval e X.env)::starEach es X.env) RF._auto_1) (hpl:autoParam ((backTo pos (starEach es X.env)).any (·.1)=false) RF._auto_1) :
  PE X (.Call (.Name x p) (e::es) [] pos) (C0o sp dvs E t):=by
 intro pins s σ H Q I h;refine wpAny_Call_Name_kw (B00 I hg hm ?_ hdb);refine B9i (h₀:=X.base) I.ok.mod.kin hk (thn (ha pos pins s σ H _ I h) λus s1 zz185=>el5 zz185 λvs H1 I1 r q=>⟨I1.kIn,?_⟩) he hpl;exact B1b F hr hb hd hx I1 r q
theorem R7 {pl:Sem Bool}(he:PE X o ta)(c:Cls X.K C)(hm:B1a X.K C m f)(F:B8 X.prog X.w X.K X.mg X.base CX k f fd ps sp)(hr:P8 k X.A)(hb:y8 X.K fd ps ds)(hd:C6 dvs ds)(hx:A2i CX X E)(ha:PA X (e::es) t)
  (hst:autoParam (starEach (e::es) X.env=(false,eval e X.env)::starEach es X.env) RF._auto_1) (hpl:autoParam ((backTo pos (starEach es X.env)).any (·.1)=false) RF._auto_1)
  (ht:eval (.Call (.Attribute o m apos) (e::es) [] pos) X.env=(do
   let ov <-eval o X.env
   standAt apos.atName
   let (f,first) <-holding [ov] (getMethod ov m pl)
   callWith pos f first (backTo pos (starEach (e::es) X.env)) (backToKw pos (keywordEach [] X.env))):=by rfl) :
  PE X (.Call (.Attribute o m apos) (e::es) [] pos) (C0p C m sp dvs E ta t):=by
 intro pins s σ H Q I h;refine PySem.W.methodCall_KW (pl:=pl) (thn (he pins s σ H _ I h) λu s1 zz186=>zz186.elim λx zz187=>zz187.elim λH1 zz188=>zz188.elim λI1 zz189=>zz189.elim λrx zz190=>zz190.elim λa zz191=>zz191.elim λdx zz192=>zz192.elim λfs zz193=>zz193.elim λex zz194=>zz194.elim λea zz195=>zz195.elim λl q=>?_) ht;subst ex;obtain rfl:u=Value.ref a:=rx;refine C0l I1 ea c hm l ?_;refine B9i (first:=[.ref a]) (h₀:=X.base) I.ok.mod.kin hm.kp (thn (ha pos pins s1 σ H1 _ I1 q) λus s2 zz196=>el5 zz196 λvs H2 I2 r q2=>⟨I2.kIn,?_⟩) hst hpl;exact B1b (us:=.ref a::us) (vs:=.ref a::vs) F hr hb hd hx I2 (.cons rfl r) q2
theorem R8 {pl:Sem Bool}(he:PE X o ta)(c:Cls X.K C)(hm:B1a X.K C m f)(F:B8 X.prog X.w X.K X.mg X.base CX k f fd ps sp)(hr:P8 k X.A)(hb:y8 X.K fd ps ds)(hd:C6 dvs ds)(hx:A2i CX X E)
  (ht:eval (.Call (.Attribute o m apos) [] [] pos) X.env=(do
   let ov <-eval o X.env
   standAt apos.atName
   let (f,first) <-holding [ov] (getMethod ov m pl)
   callWith pos f first (backTo pos (starEach [] X.env)) (backToKw pos (keywordEach [] X.env))):=by rfl) :
  PE X (.Call (.Attribute o m apos) [] [] pos) (C0p C m sp dvs E ta T8):=by
 intro pins s σ H Q I h;refine PySem.W.methodCall_KW (pl:=pl) (thn (he pins s σ H _ I h) λu s1 zz197=>zz197.elim λx zz198=>zz198.elim λH1 zz199=>zz199.elim λI1 zz200=>zz200.elim λrx zz201=>zz201.elim λa zz202=>zz202.elim λdx zz203=>zz203.elim λfs zz204=>zz204.elim λex zz205=>zz205.elim λea zz206=>zz206.elim λl q=>?_) ht;subst ex;obtain rfl:u=Value.ref a:=rx;refine C0l I1 ea c hm l ?_;exact PySem.W.callWith_K0 (first:=[.ref a]) I1.kIn hm.kp (B1b (us:=[.ref a]) (vs:=[.ref a]) F hr hb hd hx I1 (.cons rfl .nil) q)
structure Mk (K:A8)(C f:Addr):Prop where
 makes:PySem.W.makesIn K C=true
 init:A1k K (.ref C) "__init__" = some (some (.ref f))
 fn:PySem.W.isFn K (.ref f)=true
 kp:A6p K (.ref C)=true
theorem C0r {pins:List (Addr×Obj)}{σ:St}{H:Hp}{s:Shared}{Q:VK}{us:List Value}{vs:List V}(M:Mk X.K C f)(F:B8 X.prog X.w X.K X.mg X.base CX k f fd ps sp)(hr:P8 (k+1) X.A)(hb:y8 X.K fd ps ds)(hd:C6 dvs ds)
  (hx:A2i CX X E) (I:Inv X pins σ H s) (r:C6 vs us)
  (h:∀x dx,H x=none->H dx=none->dx≠x->sp (.ref x::(vs++dvs)) (upd (upd H dx (.own x)) x (.ins C dx [])) (λv H2=>v=.non/\Q (.ref x) H2) E) :
  wpAny (model X.prog X.w) X.A (call (.ref C) us) (EP X pins σ Q) X.xe s:=by
 have hq:=h (s.heap.objs.size+1) s.heap.objs.size (I.hok.fresh (A0z _)) (I.hok.fresh (E8 _)) (O0 (B3q _));have I2:=Inv.made (C:=C) I;have r2:C6 (V.ref (s.heap.objs.size+1)::(vs++dvs)) (Value.ref (s.heap.objs.size+1)::(us++ds)):=.cons rfl (r.append hd);have hl:(Value.ref (s.heap.objs.size+1)::us++ds).length=ps.length:=by
  have e:=r2.length;rw[F.len _ _ _ _ hq] at e;exact e.symm
 refine wpAny_call (C8p (f:=f) I.kIn M.makes M.init (beq_iff_eq.mp M.fn) (codeAny_mono (F.run _ X.stack _ _ ⟨Value.ref (s.heap.objs.size+1)::us,[]⟩ (Value.ref (s.heap.objs.size+1)::(us++ds)) _ _ E (hr.make C us [])
  (I2.env0.make C us []) (hb _ (Value.ref (s.heap.objs.size+1)::us) I2.kIn hl) r2 hq) λr s' hq'=>?_))
 cases r with
 | error e=>exact hx pins σ _ _ e s' I2 hq'
 | ok fl=>
  cases fl with
  | ret u=>obtain⟨v,H',I3,rv,ev,q3⟩:=I2.after hq';subst ev;exact⟨rv,⟨V.ref (s.heap.objs.size+1),H',I3,rfl,q3⟩⟩
  | next=>exact False.elim hq'
  | brk=>exact False.elim hq'
  | cont=>exact False.elim hq'
theorem C0s (M:Mk X.K C f)(F:B8 X.prog X.w X.K X.mg X.base CX k f fd ps sp)(hr:P8 (k+1) X.A)(hg:Gl X x)(hm:X.mg x=some (.ref C))(hb:y8 X.K fd ps ds)(hd:C6 dvs ds)(hx:A2i CX X E)
  (ha:PA X (e::es) t) (hdb:autoParam ((x == ("__debug__" : Str))=false) DD._auto_1) (he:autoParam (starEach (e::es) X.env=(false,eval e X.env)::starEach es X.env) RF._auto_1) (hpl:autoParam ((backTo pos (starEach es X.env)).any (·.1)=false) RF._auto_1) :
  PE X (.Call (.Name x p) (e::es) [] pos) (C0q C sp dvs E t):=by
 intro pins s σ H Q I h;refine wpAny_Call_Name_kw (B00 I hg hm ?_ hdb);refine B9i (h₀:=X.base) I.ok.mod.kin M.kp (thn (ha pos pins s σ H _ I h) λus s1 zz207=>el5 zz207 λvs H1 I1 r q=>⟨I1.kIn,?_⟩) he hpl;exact C0r M F hr hb hd hx I1 r q
theorem C8z (M:Mk X.K C f)(F:B8 X.prog X.w X.K X.mg X.base CX k f fd ps sp)(hr:P8 (k+1) X.A)(hg:Gl X x)(hm:X.mg x=some (.ref C))(hb:y8 X.K fd ps ds)(hd:C6 dvs ds)(hx:A2i CX X E)
  (hdb:autoParam ((x == ("__debug__" : Str))=false) DD._auto_1):PE X (.Call (.Name x p) [] [] pos) (C0q C sp dvs E T8):=by
 intro pins s σ H Q I h;refine wpAny_Call_Name_kw (B00 I hg hm ?_ hdb);exact PySem.W.callWith_K0 I.kIn M.kp (C0r (us:=[]) M F hr hb hd hx I .nil h)
end
section
variable {CX:CXT}{k:Nat}{fd:FuncData}{ps ks:List Str}{sp:Sp}{E:XK}{x m:Str}{apos kpos:Pos}{kws:List Keyword}{tk:TA}{nm:Option Str}
variable {g:List Value->List Value->List Value}{gV:List V->List V->List V}
end
structure C3 (N P:List Str)(sc:Scope):Prop where
 kind:sc.kind=.function
 co:sc.isCoroutine=false
 gen:sc.isGenerator=false
 nd:N.Nodup
 pre:N.take P.length=P
 par:∀x∈P,sc.names.lookup x=some .local\/sc.names.lookup x=some .cell
 nofree:∀y∈sc.names,y.2≠.free
theorem C0t {kindOf:Str->Option NameKind}{x:Str}:∀{binds:List (Str×Value)}{m:Str->Option Value},(∀v,(x,v)∉binds)->bindL kindOf binds m x=m x
 | [],_,_=>rfl
 | (n,v)::r,m,h=>by
  unfold bindL;rw[C0t λw hw=>h w (C8 _ hw)];split
  ·have:x≠n:=by rintro rfl;exact h v D6
   simp [this]
  ·rfl
theorem C0u {kindOf:Str->Option NameKind}{x:Str}:∀{binds:List (Str×Value)}{m:Str->Option Value},(∀v,(x,v)∉binds)->bindC kindOf binds m x=m x
 | [],_,_=>rfl
 | (n,v)::r,m,h=>by
  unfold bindC;rw[C0u λw hw=>h w (C8 _ hw)];split
  ·rfl
  ·have:x≠n:=by rintro rfl;exact h v D6
   simp [this]
theorem C0v {kindOf:Str->Option NameKind}{x:Str}{v:Value}:∀{P:List Str}{vs:List Value}{i:Nat}{m:Str->Option Value},P.Nodup->P[i]?=some x->vs[i]?=some v->kindOf x=some .local->
  bindL kindOf (P.zip vs) m x=some v
 | [],_,_,_,_,h,_,_=>by simp at h
 | _::_,[],_,_,_,_,h,_=>by simp at h
 | p::P,w::vs,0,m,nd,h1,h2,hk=>by
  simp at h1 h2;subst h1;subst h2;show bindL kindOf ((p,w)::P.zip vs) m p=_;unfold bindL;rw[C0t λv hv=>(B3r.mp nd).1 (List.of_mem_zip hv).1,if_pos hk];simp
 | p::P,w::vs,i+1,m,nd,h1,h2,hk=>by
  show bindL kindOf ((p,w)::P.zip vs) m x=_;unfold bindL;exact C0v (i:=i) (B3r.mp nd).2 (by simpa using h1) (by simpa using h2) hk
theorem C0w {kindOf:Str->Option NameKind}{x:Str}{v:Value}:∀{P:List Str}{vs:List Value}{i:Nat}{m:Str->Option Value},P.Nodup->P[i]?=some x->vs[i]?=some v->kindOf x≠some .local->
  bindC kindOf (P.zip vs) m x=some v
 | [],_,_,_,_,h,_,_=>by simp at h
 | _::_,[],_,_,_,_,h,_=>by simp at h
 | p::P,w::vs,0,m,nd,h1,h2,hk=>by
  simp at h1 h2;subst h1;subst h2;show bindC kindOf ((p,w)::P.zip vs) m p=_;unfold bindC;rw[C0u λv hv=>(B3r.mp nd).1 (List.of_mem_zip hv).1,if_neg hk];simp
 | p::P,w::vs,i+1,m,nd,h1,h2,hk=>by
  show bindC kindOf ((p,w)::P.zip vs) m x=_;unfold bindC;exact C0w (i:=i) (B3r.mp nd).2 (by simpa using h1) (by simpa using h2) hk
def start (N:List Str)(vs:List V):St:=vs.map some++F2 (N.length-vs.length) none
def G5 (CX:CXT)(P:Program)(w:World)(K:A8)(mg:Str->Option Value)(base:Heap)(N:List Str)(qual:Str)(scope:Scope)(f:Addr)(cd:Value)(A:Around)(outer:List Env)(s:Shared)(H:Hp)(E:XK):Cx where
 prog:=P
 w:=w
 K:=K
 mg:=mg
 base:=base
 A:=A.deeper (envOfC qual scope s.heap.objs.size f cd)
 N:=N
 s₀:=s
 H₀:=H
 env:=envOfC qual scope s.heap.objs.size f cd
 outer:=outer
 stack:=envOfC qual scope s.heap.objs.size f cd::outer
 ex:=[]
 calm:=true
 fn:=λJ=>true
 pn:=[]
 xe:=λe s'=>wpAny (model P w) (A.deeper (envOfC qual scope s.heap.objs.size f cd)) (leaving (envOfC qual scope s.heap.objs.size f cd) e) (λJ s''=>CX outer H s E e s'') (λe' s''=>CX outer H s E e' s'') s'
theorem C0x {sc:Scope}{n:Nat}{x:Str}(h:sc.names.lookup x=some .cell):∃c,(cellsFrom n sc.names []).lookup x=some c:=by
 have q:=PySem.W.cellsFrom_some sc.names n [] (.inl h);exact Option.isSome_iff_exists.mp q
theorem C80 {CX:CXT}{P:Program}{w:World}{K:A8}{mg:Str->Option Value}{base:Heap}{N ps:List Str}{qual:Str}{scope:Scope}{f:Addr}{cd:Value}{A:Around}{outer:List Env}{s s1:Shared}{H:Hp}{E:XK}{us:List Value}{vs:List V}
  (S:C3 N ps scope) (hd:A.handled=none) (e0:A4x P w K mg base A outer s H) (hl:vs.length=ps.length) (r:C6 vs us)
  (x:InCallC s s.heap.objs.size (bindL (envOfC qual scope s.heap.objs.size f cd).kindOf (ps.zip us) λJ=>none) (cellsFrom (s.heap.objs.size+1) scope.names []) (bindC (envOfC qual scope s.heap.objs.size f cd).kindOf (ps.zip us) λJ=>none) s1) :
  Inv (G5 CX P w K mg base N qual scope f cd A outer s H E) [] (start N vs) H s1:=by
 have hpl:ps.length<=N.length:=by have:=congrArg B3s S.pre;rw[Z9] at this;omega
 obtain⟨h1,tk,rfl,hk⟩:=x.done;have noA:∀b:Addr,b∉(G5 CX P w K mg base N qual scope f cd A outer s H E).ex:=λb z=>absurd (show b∈([]:List Addr) from z) (by simp);refine⟨⟨e0.mod,S.kind,rfl,rfl,E8 _,λy z c h1 h2=>?_,λy hy=>?_,λy c J h=>?_,λJ=>hd,Around.frames_deeper e0.frames,.inr ⟨rfl,rfl⟩,λb z=>absurd z (noA b),e0.bs,e0.bsz,λb J J=>noA b,λb z=>absurd z (noA b),e0.funs,e0.frf⟩,
  rfl,e0.bare,Un.kept hk,⟨_,x.toInCall.ns,λi y v h1 h2 h3=>?_⟩,λy c h=>⟨_,x.cell y c h⟩,e0.hok.fresh (E8 _),λy c h=>?_,λp hp=>absurd (show p∈([]:List (Addr×Obj)) from hp) (by simp),e0.hok.kept hk,?_⟩
 ·exact name_of_addr x.apart (B3t h1) (B3t h2)
 ·have hy:scope.names.lookup y=some .cell\/scope.names.lookup y=some .free:=hy;rcases hy with hy | hy
  ·exact C0x hy
  ·exact absurd rfl (S.nofree _ (B3t hy))
 ·exact A24 (x.above y c (B3t h))
 ·have hi:i<vs.length:=by
   unfold start at h2;by_cases hi:i<vs.length
   ·exact hi
   ·rw[k0 (by simpa using hi)] at h2;rw[B9j] at h2;split at h2 <;> cases h2
  have ha:vs[i]?=some v:=by
   unfold start at h2;rw[A26 (by simpa using hi),P6] at h2;cases e:vs[i]? with
   | none=>rw[e] at h2;cases h2
   | some a=>rw[e] at h2;cases h2;rfl
  obtain⟨u,hu,rv⟩:=r.get ha;have hp:ps[i]?=some y:=by
   rw[<-S.pre,List.getElem?_take_of_lt (by omega)];exact h1
  have ndP:ps.Nodup:=by rw[<-S.pre];exact S.nd.sublist (List.take_sublist _ _)
  refine⟨u,rv,?_⟩;rcases S.par y (R6 hp) with k | k
  ·exact .inl ⟨k,C0v ndP hp hu k⟩
  ·obtain⟨c,e⟩:=C0x (n:=s.heap.objs.size+1) k;refine .inr ⟨.inl k,c,e,?_⟩;have q:=x.cell y c e;rw[C0w ndP hp hu (by show scope.names.lookup y≠_;rw[k];decide)] at q;exact q
 ·exact e0.hok.fresh (A24 (x.above y c (B3t h)))
 ·unfold start;show _=N.length;rw[S8,B6,a8];omega
theorem C81 {CX:CXT}{P:Program}{w:World}{K:A8}{mg:Str->Option Value}{base:Heap}{k:Nat}{f:Addr}{name qual:Str}{params:Arguments}{body:List Stmt}{scope:Scope}{dV kV doc pm cdv ct oc:Value}{an od:Option Addr}
  {osl:Array (Option Value)} {N ps:List Str} {sp:Sp} (lk:K.lookup f=some ⟨oc,od,.func (A4k name qual params body scope dV kV doc pm an cdv ct),osl⟩) (hcd:B9k K cdv qual=true) (S:C3 N ps scope)
  (len:∀vs H Q E,sp vs H Q E->vs.length=ps.length)
  (hbody:∀(A:Around)(outer:List Env)(s:Shared)(H:Hp)(vs:List V)(Q:VK)(E:XK),P8 k (A.deeper (envOfC qual scope s.heap.objs.size f cdv))->sp vs H Q E->
   ∃t,PSs (G5 CX P w K mg base N qual scope f cdv A outer s H E) body t/\t { nx:=λY H'=>Q .non H',rt:=Q } (start N vs) H) :
  B8 P w K mg base CX (k+1) f (A4k name qual params body scope dV kV doc pm an cdv ct) ps sp:=by
 refine⟨len,λA outer s H args us vs Q E hr e0 hb r hsp=>?_⟩;have hl:=len _ _ _ _ hsp;have KX:K.In s.heap:=e0.mod.kin.keeps λb o e=>(e0.bs b o e).1;have lim:s.heap.NoLimit:=e0.mod.nolimit.keeps λb o e=>(e0.bs b o e).1;have hkind:∀y∈ps.zip us,scope.names.lookup y.1=some .local\/(scope.names.lookup y.1=some .cell/\((cellsFrom (s.heap.objs.size+1) scope.names []).lookup y.1).isSome=true):=λ⟨n,v⟩ hy=>by
  rcases S.par n (List.of_mem_zip hy).1 with q | q
  ·exact .inl q
  ·exact .inr ⟨q,PySem.W.cellsFrom_some _ _ _ (.inl q)⟩
 refine codeAny_call_function hr.depth (KX _ _ lk) rfl S.co S.gen rfl (PySem.W.codeRec_of KX hcd) (hb _ _ _ _ ?_);refine wpAny_newFunctionEnv_cells S.kind hkind λenv he s1 x=>?_;subst he;refine⟨lim.keeps x.toInCall.keep,codeAny_func ?_⟩;obtain⟨t,ht,hq⟩:=hbody A outer s H vs Q E (hr.deeper _) hsp;have I:Inv (G5 CX P w K mg base N qual scope f cdv A outer s H E) [] (start N vs) H s1:=C80 S hr.hd e0 hl r x;refine wpAny_mono (ht [] s1 (start N vs) H _ I hq) (λfl s' hs=>?_) λe s' hs=>hs;have fin:∀{σ':St}{H':Hp}{v:V}{u:Value},Inv (G5 CX P w K mg base N qual scope f cdv A outer s H E) [] σ' H' s'->E1 v u->Q v H'->CE outer P w H s Q u s':=
  λ{σ' H' v u} J rv q=>⟨v,H',J.os,J.bare,J.base,J.hok,rv,q⟩
 cases fl with
 | ret u=>obtain⟨v,σ',H',J,rv,q⟩:=hs;exact fin J rv q
 | next=>obtain⟨σ',H',J,q⟩:=hs;exact fin (v:=V.non) (u:=Value.none) J rfl q
 | brk=>obtain⟨_,_,_,q⟩:=hs;exact False.elim q
 | cont=>obtain⟨_,_,_,q⟩:=hs;exact False.elim q
section
variable {x:Str}{id T:String}{r:List V->Hp->VK->Prop}
def tCB (r:List V->Hp->VK->Prop)(t:TA):TE:=fun σ H Q=>t σ H λvs H1=>r vs H1 Q
theorem J2 (hc:V5 X (.builtin id) r)(hg:Gl X x)(hm:X.mg x=none)(hv:bootBuiltins x=some (.builtin id))(ha:PA X (e::es) t)(hn:autoParam (x≠ "__name__" ) DD._auto_1)(hdb:autoParam ((x == ("__debug__" : Str))=false) DD._auto_1)
  (he:autoParam (starEach (e::es) X.env=(false,eval e X.env)::starEach es X.env) RF._auto_1) (hpl:autoParam ((backTo pos (starEach es X.env)).any (·.1)=false) RF._auto_1):PE X (.Call (.Name x p) (e::es) [] pos) (tCB r t):=by
 intro pins s σ H Q I h;refine wpAny_Call_Name_kw (A2d I hg hm hv ?_ hn hdb);exact PyProof.Rows.callWith_builtin1 (thn (ha pos pins s σ H _ I h) λus s1 zz213=>el5 zz213 λvs H1 I1 r1 q1=>hc pins s1 σ H1 vs us Q I1 r1 q1) he hpl
theorem T2 (hc:V5 X (.type T) r)(hg:Gl X x)(hm:X.mg x=none)(hv:bootBuiltins x=some (.type T))(ha:PA X (e::es) t)(hn:autoParam (x≠ "__name__" ) DD._auto_1)(hdb:autoParam ((x == ("__debug__" : Str))=false) DD._auto_1)
  (he:autoParam (starEach (e::es) X.env=(false,eval e X.env)::starEach es X.env) RF._auto_1) (hpl:autoParam ((backTo pos (starEach es X.env)).any (·.1)=false) RF._auto_1):PE X (.Call (.Name x p) (e::es) [] pos) (tCB r t):=by
 intro pins s σ H Q I h;refine wpAny_Call_Name_kw (A2d I hg hm hv ?_ hn hdb);exact PyProof.Rows.callWith_type1 (thn (ha pos pins s σ H _ I h) λus s1 zz214=>el5 zz214 λvs H1 I1 r1 q1=>hc pins s1 σ H1 vs us Q I1 r1 q1) he hpl
end
end Lake
namespace HT
open PySem PyProof.Rows
section
open PySem.SeqAt
open PySem.AutoSeq1 (wpAny_loadPart')
open PySem.MeetsSeq PySem.MeetsSeq2 PySem.MeetsSeq3
end
section
variable {prog:Program}{w:World}{A:Around}{E:Value->Shared->Prop}{s:Shared}
def sIx (n d:Nat):Option Int->Nat
 | none=>d
 | some v=>if v<0 then (v+(n:Int)).toNat else min v.toNat n
theorem sIx_none (n d:Nat):sIx n d none=d:=rfl
theorem sIx_nat (n d k:Nat):sIx n d (some (k:Int))=min k n:=by
 show (if (k:Int)<0 then ((k:Int)+(n:Int)).toNat else min (k:Int).toNat n)=min k n;rw[if_neg (by omega),Int.toNat_natCast]
end
end HT
namespace Lake
open PySem PySem.Spec PyProof.Rows
abbrev TO:=St->Hp->(Option Int->Hp->Prop)->Prop
def PO (X:Cx)(e:Option Expr)(t:TO):Prop:=
 ∀(pins:List (Addr×Obj))(s:Shared)(σ:St)(H:Hp)(Q:Option Int->Hp->Prop),Inv X pins σ H s->t σ H Q->
  wpAny (model X.prog X.w) X.A (evalPart e X.env) (λu s'=>∃o H',Inv X pins σ H' s'/\IsPart u o/\Q o H') X.xe s
def C82:TO:=λJ H Q=>Q none H
def C83 (t:TE):TO:=fun σ H Q=>t σ H λx H1=>∃i,x=.int i/\Q (some i) H1
theorem C0y {ns:List Int}:∀{us:List Value},C6 (ns.map V.int) us->IntsAre us ns:=by
 induction ns with
 | nil=>intro us r;rw[A4l] at r;cases r;exact .nil
 | cons n ns ih=>
  intro us r;rw[K9] at r;cases r with
  | cons r1 r2=>obtain⟨t,e⟩:=r1;subst e;exact .cons n t (ih r2)
variable {X:Cx}
section
variable {e:Expr}{te:TE}{lo hi:Option Expr}{tl th:TO}{pos p2:Pos}
theorem A66:PO X none C82:=by
 intro pins s σ H Q I h;rw[evalPart_none];exact wpAny_pure ⟨none,H,I,.none,h⟩
theorem A67 (h:PE X e te):PO X (some e) (C83 te):=by
 intro pins s σ H Q I hw;rw[evalPart_some];refine thn (h pins s σ H _ I hw) λu s1 zz215=>el5 zz215 λx H1 I1 r1 q1=>?_;obtain⟨i,rfl,q⟩:=q1;obtain⟨t,rfl⟩:=r1;exact⟨some i,H1,I1,.int i t,q⟩
def SlR (X:Cx)(r:V->Option Int->Option Int->Hp->VK->Prop):Prop:=
 ∀(pins:List (Addr×Obj))(s:Shared)(σ:St)(H:Hp)(x:V)(v vl vu:Value)(lo hi:Option Int)(sl:Addr)(Q:VK),Inv X pins σ H s->E1 x v->s.heap.IsSliceOf sl vl vu .none->IsPart vl lo->IsPart vu hi->r x lo hi H Q->
  ∃T id,typeLookup (.type T) "__getitem__" = pure (some (.builtin id))/\s.TypeIs v T/\wpAny (model X.prog X.w) X.A (getItem v (.ref sl)) (EP X pins σ Q) X.xe s
def tSl (r:V->Option Int->Option Int->Hp->VK->Prop)(te:TE)(tl th:TO):TE:=fun σ H Q=>te σ H λx H1=>tl σ H1 λl H2=>th σ H2 λu H3=>r x l u H3 Q
theorem A4y {r:V->Option Int->Option Int->Hp->VK->Prop}(hr:SlR X r)(he:PE X e te)(hl:PO X lo tl)(hu:PO X hi th):PE X (.Subscript e (.Slice lo hi none p2) pos) (tSl r te tl th):=by
 intro pins s σ H Q I h;refine Subscript_ (thn (he pins s σ H _ I h) λv s1 zz216=>el5 zz216 λx H1 I1 r1 q1=>?_);refine wpAny_Slice (thn (hl pins s1 σ H1 _ I1 q1) λvl s2 zz217=>el5 zz217 λl H2 I2 pl q2=>thn (hu pins s2 σ H2 _ I2 q2) λvu s3 zz218=>el5 zz218 λu H3 I3 pu q3=>?_);rw[evalPart_none];refine wpAny_pure ?_;have I4:Inv X pins σ H3 { s3 with heap:=s3.heap.push { cls:=.type "slice",data:=.fields #[vl,vu,.none] } }:=I3.kept (t':=s3.toks) λb ob q=>M5 _ q;obtain⟨T,id,hT,ht,hg⟩:=hr pins { s3 with heap:=s3.heap.push { cls:=.type "slice",data:=.fields #[vl,vu,.none] } } σ H3 x v vl vu l u s3.heap.objs.size Q I4 r1 (Heap.IsSliceOf.new ..) pl pu q3;show wpAny (model X.prog X.w) X.A (subscriptTail e (.Slice lo hi none p2) v (.ref s3.heap.objs.size)) (EP X pins σ Q) X.xe { s3 with heap:=s3.heap.push { cls:=.type "slice",data:=.fields #[vl,vu,.none] } };exact tail_any (ops:=[.ref s3.heap.objs.size,v]) ht hT hg (by with_unfolding_all rfl)
def A04 (xs:List V)(lo hi:Option Int):List V:=(xs.drop (HT.sIx xs.length 0 lo)).take (HT.sIx xs.length xs.length hi-HT.sIx xs.length 0 lo)
theorem C84 (xs:List V)(lo hi:Option Int):(A04 xs lo hi).length<=xs.length:=by
 unfold A04;rw[Z9,List.length_drop];omega
end
def ixN (n:Nat)(i:Int):Option Nat:=if 0<=i then (if i<n then some i.toNat else none) else if -(n:Int)<=i then some (i+n).toNat else none
def atI {α:Type}(xs:List α)(i:Int):Option α:=(ixN xs.length i).bind λj=>xs[j]?
theorem C0z {n:Nat}{i:Int}{j:Nat}(h:ixN n i=some j):seqIndex? i n=some j/\j<n/\-(n:Int)<=i/\i<n:=by
 unfold ixN at h;by_cases h0:0<=i
 ·rw[if_pos h0] at h;by_cases h1:i<n
  ·rw[if_pos h1] at h;have e:i.toNat=j:=Option.some.inj h;exact⟨by rw[seqIndex_of h0 h1,e],by omega,by omega,h1⟩
  ·rw[if_neg h1] at h;cases h
 ·rw[if_neg h0] at h;by_cases h1:-(n:Int)<=i
  ·rw[if_pos h1] at h;have e:(i+n).toNat=j:=Option.some.inj h;exact⟨by rw[seqIndex_neg (by omega) h1,e],by omega,h1,by omega⟩
  ·rw[if_neg h1] at h;cases h
theorem B1c {α:Type}{xs:List α}{i:Int}{v:α}(h:atI xs i=some v):∃j,seqIndex? i xs.length=some j/\xs[j]?=some v/\j<xs.length/\-(xs.length:Int)<=i/\i<xs.length:=by
 unfold atI at h;cases e:ixN xs.length i with
 | none=>rw[e] at h;cases h
 | some j=>rw[e] at h;obtain⟨h1,h2,h3,h4⟩:=C0z e;exact⟨j,h1,h,h2,h3,h4⟩
theorem A2j {α:Type}{xs:List α}{j:Nat}{v:α}(h:xs[j]?=some v):atI xs (j:Int)=some v:=by
 have hj:j<xs.length:=(A0h.mp h).1;have e:ixN xs.length (j:Int)=some j:=by
  unfold ixN;rw[if_pos (by omega),if_pos (by omega)];simp
 unfold atI;rw[e];exact h
theorem B1d {α:Type}(xs:List α)(v:α):atI (xs++[v]) (-1)=some v:=by
 have hl:(xs++[v]).length=xs.length+1:=by simp
 have e:ixN (xs++[v]).length (-1)=some xs.length:=by
  unfold ixN;rw[hl,if_neg DD,if_pos (by omega)];congr 1;omega
 unfold atI;rw[e];show (xs++[v])[xs.length]?=some v;simp
def B4f (b:Expr):Prop:=∀o i,subscripted b false o i=operate [o,i] (getItem o i)
def IxR (X:Cx)(r:R2):Prop:=
 ∀(value slice:Expr)(pins:List (Addr×Obj))(s:Shared)(σ:St)(H:Hp)(x y:V)(v u:Value)(Q:VK),Inv X pins σ H s->E1 x v->E1 y u->r x y H Q->
  subscripted slice false v u=operate [v,u] (getItem v u)->wpAny (model X.prog X.w) X.A (subscriptTail value slice v u) (EP X pins σ Q) X.xe s
def MtR (X:Cx)(id:String)(r:V->List V->Hp->VK->Prop):Prop:=
 ∀(pins:List (Addr×Obj))(s:Shared)(σ:St)(H:Hp)(x:V)(xs:List V)(v:Value)(us:List Value)(Q:VK),Inv X pins σ H s->E1 x v->C6 xs us->r x xs H Q->
  wpAny (model X.prog X.w) X.A (call (.builtin id) (v::us)) (EP X pins σ Q) X.xe s
section
variable {a b:Expr}{ta tb:TE}{pos:Pos}
theorem IxR.or {r r':R2}(h:IxR X r)(h':IxR X r'):IxR X (λx y H Q=>r x y H Q\/r' x y H Q):=by
 intro value slice pins s σ H x y v u Q I rx ry q hs;rcases q with q | q
 ·exact h value slice pins s σ H x y v u Q I rx ry q hs
 ·exact h' value slice pins s σ H x y v u Q I rx ry q hs
theorem C7 {r:R2}(hr:IxR X r)(ha:PE X a ta)(hb:PE X b tb)(hs:autoParam (B4f b) IRP._auto_1):PE X (.Subscript a b pos) (tOp r ta tb):=by
 intro pins s σ H Q I h;exact Subscript_ (B4a ha hb I h λv u s2 x y H2 I2 rx ry q=>hr a b pins s2 σ H2 x y v u Q I2 rx ry q (hs _ _))
def B4g (K:A8):R2:=λx y H Q=>∃p xs i v,x=.ref p/\y=.int i/\SqL K H p xs/\atI xs i=some v/\Q v H
def C00 (K:A8):R2:=λx y H Q=>∃p xs i v,x=.ref p/\y=.int i/\SqT K H p xs/\atI xs i=some v/\Q v H
def C01:R2:=λx y H Q=>∃z i c,x=.str z/\y=.int i/\z.length<=sizeLine/\atI z.cps.toList i=some c/\Q (.str ⟨#[c]⟩) H
theorem F1:IxR X (B4g X.K):=by
 intro value slice pins s σ H x y v u Q I rx ry h hs;obtain⟨p,xs,i,z,rfl,rfl,hq,he,q⟩:=h;cases rx;obtain⟨t,rfl⟩:=ry;obtain⟨its,r,pl,hz⟩:=I.list hq;obtain⟨j,h1,h2,h3,h4,h5⟩:=B1c he;obtain⟨w,ew,rw'⟩:=r.get h2;have hl:=r.length;have hn:=A4v;have fin:EP X pins σ Q w s:=⟨z,H,I,rw',q⟩;by_cases h0:0<=i
 ·have hj:i.toNat=j:=by
   rw[seqIndex_of h0 h5] at h1;exact Option.some.inj h1
  exact item_listR pl.isList h0 (by omega) (by rw[hj];simpa using ew) fin hs
 ·have hj:(i+(its.toArray.size:Int)).toNat=j:=by
   rw[seqIndex_neg (by omega) h4] at h1;rw[Q2,<-hl];exact Option.some.inj h1
  exact subscriptTail_builtinR (x:=w) pl.isList.typeIs slot_list_getitem.lookup
   (wpAny_getItem_list_neg (Q:=λr s'=>r=w/\EP X pins σ Q r s') pl.isList (by omega) (by rw[Q2] <;> omega) (by omega) (by rw[hj];simpa using ew) ⟨rfl,fin⟩) hs
theorem U7:IxR X (C00 X.K):=by
 intro value slice pins s σ H x y v u Q I rx ry h hs;obtain⟨p,xs,i,z,rfl,rfl,hq,he,q⟩:=h;cases rx;obtain⟨t,rfl⟩:=ry;obtain⟨its,r,pl,hz⟩:=I.tuple hq;obtain⟨j,h1,h2,h3,h4,h5⟩:=B1c he;obtain⟨w,ew,rw'⟩:=r.get h2;have hl:=r.length;have hn:=A4v;have fin:EP X pins σ Q w s:=⟨z,H,I,rw',q⟩;exact subscriptTail_builtinR (x:=w) pl.typeIs slot_tuple_getitem.lookup
  (getItem_tuple (j:=j) (Q:=λr s'=>r=w/\EP X pins σ Q r s') pl (by omega) (by omega) (by rw[Q2,<-hl];exact h1) (by simpa using ew) ⟨rfl,fin⟩) hs
theorem C02:IxR X C01:=by
 intro value slice pins s σ H x y v u Q I rx ry h hs;obtain⟨z,i,c,rfl,rfl,hz,he,q⟩:=h;obtain⟨t,rfl⟩:=rx;obtain⟨t',rfl⟩:=ry;obtain⟨j,h1,h2,h3,h4,h5⟩:=B1c he;have hl:z.cps.toList.length=z.length:=by simp [Str.length]
 rw[hl] at h1 h4 h5;have hn:=A4v;exact tail_any (typeIs_str s z t) slot_str_getitem.lookup (getItem_str (c:=c) (by
  have e1:decide (i < -(2^63:Int))=false:=decide_eq_false (by omega);have e2:decide (i ≥ 2^63)=false:=decide_eq_false (by omega);rw[e1,e2,Bool.or_false]) (by rw[h1];simpa using h2) ⟨.str ⟨#[c]⟩,H,I.tok _,⟨_,rfl⟩,q⟩) hs
def rIx (K:A8):R2:=λx y H Q=>B4g K x y H Q\/C00 K x y H Q\/C01 x y H Q
theorem A4z:IxR X (rIx X.K):=F1.or (U7.or C02)
theorem C85 (its:List Value)(n j:Nat)(u:Value):A6q (·.setIfInBounds j u) { cls:=.type "list",data:=.seq its.toArray n }={ cls:=.type "list",data:=.seq (its.set j u).toArray n }:=by
 simp [A6q]
theorem Inv.lst {pins:List (Addr×Obj)}{σ:St}{H:Hp}{s:Shared}{p:Addr}{xs:List V}(I:Inv X pins σ H s)(h:H p=some (.lst xs)) :
  ∃(its:List Value)(n:Nat),C6 xs its/\s.heap.get? p=some { cls:=.type "list",data:=.seq its.toArray n }/\xs.length<=sizeLine:=by
 obtain⟨z,its,n,r,e⟩:=I.hok p _ h;exact⟨its,n,r,e,z⟩
theorem Inv.lstUpd {pins:List (Addr×Obj)}{σ:St}{H:Hp}{s:Shared}{p:Addr}{xs ys:List V}{its its':List Value}{n n':Nat}{f:Obj->Obj}(I:Inv X pins σ H s)(h:H p=some (.lst xs))
  (ho:s.heap.get? p=some { cls:=.type "list",data:=.seq its.toArray n }) (hf:f { cls:=.type "list",data:=.seq its.toArray n }={ cls:=.type "list",data:=.seq its'.toArray n' }) (r:C6 ys its') (hz:ys.length<=sizeLine) (t:Nat) :
  Inv X pins σ (upd H p (.lst ys)) { s with heap:=s.heap.update p f,toks:=t }:=by
 have e:(s.heap.update p f).get? p=some { cls:=.type "list",data:=.seq its'.toArray n' }:=by
  rw[B9l f ho (by rw[hf] <;> rfl),hf]
 refine I.write (x:=p) (e:=p) (by rw[h];trivial) (.inl rfl) (λb u hb q=>(A6r _ _ (Ne.symm hb)).trans q) ⟨_,e⟩ ?_;exact⟨hz,its',n',r,e⟩
def C03:V->V->V->Hp->(Hp->Prop)->Prop:=λo i v H Q=>∃p xs k j,o=.ref p/\i=.int k/\H p=some (.lst xs)/\ixN xs.length k=some j/\Q (upd H p (.lst (xs.set j v)))
theorem Z0:B38 X C03:=by
 intro pins s σ H o i v ov iv u Q I ro ri rv h;obtain⟨p,xs,k,j,rfl,rfl,hp,hj,q⟩:=h;cases ro;obtain⟨t,rfl⟩:=ri;obtain⟨its,n,r,ho,hz⟩:=I.lst hp;obtain⟨h1,h2,h3,h4⟩:=C0z hj;have hl:=r.length;have hn:=A4v;have I':Inv X pins σ (upd H p (.lst (xs.set j v))) { s with heap:=s.heap.update p (A6q (·.setIfInBounds j u)) }:=
  I.lstUpd hp ho (C85 its n j u) (r.set rv j) (by rw[S3];exact hz) s.toks
 by_cases h0:0<=k
 ·have hk:k.toNat=j:=by
   rw[seqIndex_of h0 h4] at h1;exact Option.some.inj h1
  exact PySem.W.ki_setAt ho h0 (by omega) (by rw[Q2,<-hl];exact h4) (by rw[hk];exact⟨_,I',q⟩)
 ·have hk:(k+(its.toArray.size:Int)).toNat=j:=by
   rw[seqIndex_neg (by omega) h3] at h1;rw[Q2,<-hl];exact Option.some.inj h1
  exact PySem.W.ki_setBack ho (by omega) (by rw[Q2,<-hl];exact h3) (by omega) (by rw[hk];exact⟨_,I',q⟩)
theorem C86 (lo hi:Option Int)(n:Nat):(sliceBounds lo hi none n).1=((HT.sIx n 0 lo:Nat):Int)/\(sliceBounds lo hi none n).2.1=((HT.sIx n n hi:Nat):Int)/\(sliceBounds lo hi none n).2.2=1:=by
 refine⟨?_,?_,rfl⟩
 ·cases lo with
  | none=>simp [sliceBounds,HT.sIx]
  | some i=>
   simp only[sliceBounds,HT.sIx,Option.getD_none,show (1:Int)>0 by decide,if_true];by_cases h:i<0
   ·simp only[h,if_true] <;> omega
   ·simp only[h,if_false] <;> omega
 ·cases hi with
  | none=>simp [sliceBounds,HT.sIx]
  | some i=>
   simp only[sliceBounds,HT.sIx,Option.getD_none,show (1:Int)>0 by decide,if_true];by_cases h:i<0
   ·simp only[h,if_true] <;> omega
   ·simp only[h,if_false] <;> omega
theorem C87 (its:List Value)(lo hi:Option Int):slicePick its.toArray lo hi none=((its.drop (HT.sIx its.length 0 lo)).take (HT.sIx its.length its.length hi-HT.sIx its.length 0 lo)).toArray:=by
 obtain⟨h1,h2,h3⟩:=C86 lo hi its.toArray.size;unfold slicePick;rw[h1,h2,h3];simp only[sliceRange_one,pick_run,Q2] <;> rfl
def C88 (K:A8):V->Option Int->Option Int->Hp->VK->Prop:=λx lo hi H Q=>∃a xs,x=.ref a/\SqL K H a xs/\∀p,H p=none->Q (.ref p) (upd H p (.lst (A04 xs lo hi)))
theorem A68:SlR X (C88 X.K):=by
 intro pins s σ H x v vl vu lo hi sl Q I rx hs pl pu h;obtain⟨a,xs,rfl,hx,q⟩:=h;cases rx;obtain⟨its,r,ht,hz⟩:=I.list hx;have hlen:=r.length;refine⟨"list",_,slot_list_getitem.lookup,ht.isList.typeIs,?_⟩;refine wpAny_getItem_list_slice ht.isList hs pl pu .none (by simp) ?_ (by rw[Q2] <;> omega);rw[C87,<-hlen];refine⟨.ref s.heap.objs.size,_,I.laid (t':=s.toks) (o:=.lst (A04 xs lo hi)) (λb ob q=>M5 _ q) (E8 _) ?_,rfl,q _ (I.hok.fresh (E8 _))⟩;exact⟨J1 (C84 xs lo hi) hz,_,0,(r.drop (HT.sIx xs.length 0 lo)).take (HT.sIx xs.length xs.length hi-HT.sIx xs.length 0 lo),R9 _ rfl⟩
def A2k:V->Bool
 | .non=>true
 | .bl _=>true
 | .int _=>true
 | .str _=>true
 | _=>false
def eqV:V->V->Bool
 | .non,.non=>true
 | .bl a,.bl b=>a == b
 | .bl a,.int b=>(if a then 1 else 0) == b
 | .int a,.bl b=>a == (if b then 1 else 0)
 | .int a,.int b=>a == b
 | .str a,.str b=>a == b
 | _,_=>false
theorem C89 {A:Around}{s:Shared}{y x:V}{u v:Value}(ry:E1 y u)(rx:E1 x v)(fy:A2k y=true)(fx:A2k x=true):SeqAt.EqAt A s u v (eqV y x):=by
 cases y with
 | non=>
  cases ry;cases x with
  | non=>cases rx;exact SeqAt.EqAt.same _
  | bl b=>cases rx;exact SeqAt.EqAt.none_bool b
  | int b=>obtain⟨t,rfl⟩:=rx;exact SeqAt.EqAt.none_int b t
  | str b=>obtain⟨t,rfl⟩:=rx;exact SeqAt.EqAt.none_str b t
  | _=>exact absurd (show false=true from fx) P4
 | bl a=>
  cases ry;cases x with
  | non=>cases rx;exact SeqAt.EqAt.bool_none a
  | bl b=>cases rx;exact SeqAt.EqAt.bool_bool a b
  | int b=>obtain⟨t,rfl⟩:=rx;exact SeqAt.EqAt.bool_int a b t
  | str b=>obtain⟨t,rfl⟩:=rx;exact SeqAt.EqAt.bool_str a b t
  | _=>exact absurd (show false=true from fx) P4
 | int a=>
  obtain⟨t',rfl⟩:=ry;cases x with
  | non=>cases rx;exact SeqAt.EqAt.int_none a t'
  | bl b=>cases rx;exact SeqAt.EqAt.int_bool a t' b
  | int b=>obtain⟨t,rfl⟩:=rx;exact SeqAt.EqAt.int_int a t' b t
  | str b=>obtain⟨t,rfl⟩:=rx;exact SeqAt.EqAt.int_str a t' b t
  | _=>exact absurd (show false=true from fx) P4
 | str a=>
  obtain⟨t',rfl⟩:=ry;cases x with
  | non=>cases rx;exact SeqAt.EqAt.str_none a t'
  | bl b=>cases rx;exact SeqAt.EqAt.str_bool a t' b
  | int b=>obtain⟨t,rfl⟩:=rx;exact SeqAt.EqAt.str_int a t' b t
  | str b=>obtain⟨t,rfl⟩:=rx;exact SeqAt.EqAt.str_str a t' b t
  | _=>exact absurd (show false=true from fx) P4
 | _=>exact absurd (show false=true from fy) P4
def eqU (x:V)(u:Value):Bool:=match u with
 | .none=>eqV .non x
 | .bool b=>eqV (.bl b) x
 | .int i _=>eqV (.int i) x
 | .str z _=>eqV (.str z) x
 | _=>false
theorem C04 {x y:V}{u:Value}(r:E1 y u)(f:A2k y=true):eqU x u=eqV y x:=by
 cases y with
 | non=>cases r;rfl
 | bl b=>cases r;rfl
 | int i=>obtain⟨t,rfl⟩:=r;rfl
 | str z=>obtain⟨t,rfl⟩:=r;rfl
 | _=>exact absurd (show false=true from f) P4
theorem A87 {x:V}:∀{xs:List V}{us:List Value},C6 xs us->xs.all A2k=true->us.any (eqU x)=xs.any λy=>eqV y x
 | _,_,.nil,_=>rfl
 | y::xs,u::us,.cons r t,f=>by
  rw[List.all_cons,X6] at f;rw[A4m,A4m,C04 r f.1,A87 t f.2]
theorem A88 {A:Around}{s:Shared}{x:V}{v:Value}(rx:E1 x v)(fx:A2k x=true):∀{xs:List V}{us:List Value},C6 xs us->xs.all A2k=true->∀u∈us,SeqAt.EqAt A s u v (eqU x u)
 | _,_,.nil,_=>λu hu=>by cases hu
 | y::xs,u::us,.cons r t,f=>λu' hu=>by
  rw[List.all_cons,X6] at f;rcases G1.mp hu with rfl | hu
  ·rw[C04 r f.1];exact C89 r rx f.1 fx
  ·exact A88 rx fx t f.2 u' hu
def inV (x:V)(xs:List V):Bool:=xs.any λy=>eqV y x
def rIn (K:A8)(neg:Bool):R2:=λx y H Q=>∃p xs,y=.ref p/\(SqL K H p xs\/SqT K H p xs)/\A2k x=true/\xs.all A2k=true/\Q (.bl (if neg then !inV x xs else inV x xs)) H
theorem C9a:OpR X (compareOp .In) (rIn X.K false):=by
 intro pins s σ H x y v u Q I rx ry h;obtain⟨p,xs,rfl,hq,fx,fs,q⟩:=h;cases ry;rcases hq with hq | hq
 ·obtain⟨its,r,pl,hz⟩:=I.list hq;refine SeqAt.in_listAt (eqU x) pl.isList (λw hw=>A88 rx fx r fs w (by simpa using hw)) ⟨.bl _,H,I,rfl,?_⟩;rw[show its.toArray.any (eqU x)=its.any (eqU x) by simp,A87 r fs];exact q
 ·obtain⟨its,r,pl,hz⟩:=I.tuple hq;refine SeqAt.in_tupleAt (eqU x) pl (λw hw=>A88 rx fx r fs w (by simpa using hw)) ⟨.bl _,H,I,rfl,?_⟩;rw[show its.toArray.any (eqU x)=its.any (eqU x) by simp,A87 r fs];exact q
theorem C05:OpR X (compareOp .NotIn) (rIn X.K true):=by
 intro pins s σ H x y v u Q I rx ry h;obtain⟨p,xs,rfl,hq,fx,fs,q⟩:=h;cases ry;rcases hq with hq | hq
 ·obtain⟨its,r,pl,hz⟩:=I.list hq;refine SeqAt.notIn_listAt (eqU x) pl.isList (λw hw=>A88 rx fx r fs w (by simpa using hw)) ⟨.bl _,H,I,rfl,?_⟩;rw[show its.toArray.any (eqU x)=its.any (eqU x) by simp,A87 r fs];exact q
 ·obtain⟨its,r,pl,hz⟩:=I.tuple hq;refine SeqAt.notIn_tupleAt (eqU x) pl (λw hw=>A88 rx fx r fs w (by simpa using hw)) ⟨.bl _,H,I,rfl,?_⟩;rw[show its.toArray.any (eqU x)=its.any (eqU x) by simp,A87 r fs];exact q
theorem Z1:V5 X (.builtin "len") (λxs H Q=>∃p ys,xs=[.ref p]/\(SqL X.K H p ys\/SqT X.K H p ys)/\Q (.int ys.length) H):=by
 intro pins s σ H xs us Q I r h;obtain⟨p,ys,rfl,hq,q⟩:=h;obtain⟨u,rfl,rx⟩:=V7 r;cases rx;have hn:=A4v;rcases hq with hq | hq
 ·obtain⟨its,r',pl,hz⟩:=I.list hq;have hlen:=r'.length;exact Calls.call_len_list pl.isList (by simp only[Q2] <;> omega) ⟨.int ys.length,H,I.tok _,⟨s.toks+1,by rw[Q2,hlen]⟩,q⟩
 ·obtain⟨its,r',pl,hz⟩:=I.tuple hq;have hlen:=r'.length;exact len_tuple pl (by simp only[Q2] <;> omega) ⟨.int ys.length,H,I.tok _,⟨s.toks+1,by rw[Q2,hlen]⟩,q⟩
theorem C9b:V5 X (.builtin "len") (λxs H Q=>∃z,xs=[.str z]/\z.length<=sizeLine/\Q (.int z.length) H):=by
 intro pins s σ H xs us Q I r h;obtain⟨z,rfl,hz,q⟩:=h;obtain⟨u,rfl,t,rfl⟩:=V7 r;have hn:=A4v;exact len_str (by omega) ⟨.int z.length,H,I.tok _,⟨_,rfl⟩,q⟩
theorem A3h:V5 X (.type "list") (λxs H Q=>∃p ys,xs=[.ref p]/\(SqL X.K H p ys\/SqT X.K H p ys)/\∀l,H l=none->Q (.ref l) (upd H l (.lst ys))):=by
 intro pins s σ H xs us Q I r h;obtain⟨p,ys,rfl,hq,q⟩:=h;obtain⟨u,rfl,rx⟩:=V7 r;cases rx;have fin:∀(its:List Value),C6 ys its->ys.length<=sizeLine->∀(h':Heap)(c':Nat),(∀b o',s.heap.get? b=some o'->h'.get? b=some o')->
   h'.get? s.heap.objs.size=some { cls:=.type "list",dict:=none,data:=.seq its.toArray c',slots:=#[] }->EP X pins σ Q (.ref s.heap.objs.size) { s with heap:=h' }:=λits r' hz h' c' kp e=>
  ⟨.ref s.heap.objs.size,_,I.laid (t':=s.toks) kp (E8 _) (show O7 X.prog X.w _ h' _ (.lst ys) from ⟨hz,its,c',r',e⟩),rfl,q _ (I.hok.fresh (E8 _))⟩
 rcases hq with hq | hq
 ·obtain⟨its,r',pl,hz⟩:=I.list hq;have hlen:=r'.length;obtain⟨o,ho,hc,n,hd⟩:=pl.isList;exact call_list_seq p (.inl rfl) ho hc hd (λh' c' kp e=>fin its r' hz h' c' kp e) (by simp only[Q2] <;> omega)
 ·obtain⟨its,r',pl,hz⟩:=I.tuple hq;have hlen:=r'.length;obtain⟨o,ho,hc,n,hd⟩:=pl;exact call_list_seq p (.inr rfl) ho hc hd (λh' c' kp e=>fin its r' hz h' c' kp e) (by simp only[Q2] <;> omega)
def tyV (K:A8)(T:String)(x:V)(H:Hp):Prop:=match x with
 | .str _=>T = "str"
 | .int _=>T = "int"
 | .ref p=>(T = "list" /\∃xs,SqL K H p xs)\/(T = "tuple" /\∃o,K.lookup p=some o/\o.cls=.type "tuple" /\o.dict=none)\/
   (T = "dict" /\((∃kvs,H p=some (.dK kvs))\/∃kvs,H p=some (.dT kvs)))\/(T = "set" /\∃S n,H p=some (.set S n))
 | _=>False
theorem C9c {pins:List (Addr×Obj)}{σ:St}{H:Hp}{s:Shared}{T:String}{x:V}{v:Value}(I:Inv X pins σ H s)(r:E1 x v)(ty:tyV X.K T x H) :
  s.TypeIs v T/\∀a,v=.ref a->∃ob,s.heap.get? a=some ob/\ob.dict=none:=by
 cases x with
 | str z=>obtain⟨t,rfl⟩:=r;cases (show T = "str" from ty);exact⟨typeIs_str s z t,λJ e=>nomatch e⟩
 | int i=>obtain⟨t,rfl⟩:=r;cases (show T = "int" from ty);exact⟨typeIs_int s i t,λJ e=>nomatch e⟩
 | ref p=>
  cases r;rcases ty with ⟨rfl,xs,hq⟩ | ⟨rfl,o,hk,hc,hd⟩ | ⟨rfl,hk⟩ | ⟨rfl,S,n,hk⟩
  ·obtain⟨its,_,pl,_⟩:=I.list hq;refine⟨pl.isList.typeIs,λa e=>?_⟩;cases e;obtain⟨o,n,e,c,hd,_⟩:=pl;exact⟨o,e,hd⟩
  ·refine⟨⟨o,I.kIn p o hk,hc⟩,λa e=>?_⟩;cases e;exact⟨o,I.kIn _ o hk,hd⟩
  ·have z:∃o,s.heap.get? p=some o/\o.ExactDict:=by
    rcases hk with ⟨kvs,hk⟩ | ⟨kvs,hk⟩
    ·obtain⟨_,_,_,_,o,_,_,e,ex,_⟩:=I.hok p _ hk;exact⟨o,e,ex⟩
    ·obtain⟨_,_,_,_,o,_,_,e,ex,_⟩:=I.hok p _ hk;exact⟨o,e,ex⟩
   obtain⟨o,e,ex⟩:=z;refine⟨⟨o,e,ex.1⟩,λa e2=>?_⟩;cases e2;exact⟨o,e,ex.2.1⟩
  ·obtain⟨o,_,_,_,e,ex,_⟩:=I.hok p _ hk;refine⟨⟨o,e,ex.1⟩,λa e2=>?_⟩;cases e2;exact⟨o,e,ex.2.1⟩
 | _=>exact False.elim ty
def tBM (K:A8)(T:String)(r:V->List V->Hp->VK->Prop)(to:TE)(t:TA):TE:=fun σ H Q=>to σ H λx H1=>tyV K T x H1/\t σ H1 λxs H2=>r x xs H2 Q
variable {o e:Expr}{es:List Expr}{to:TE}{t:TA}{name:Str}{apos cpos:Pos}{T id:String}{r:V->List V->Hp->VK->Prop}
theorem Z2 (pa:PlainAttrs T)(slot:Slot T name id)(hty:typeOf (.builtin id)=pure (.type "method_descriptor"))(hm:MtR X id r)(ho:PE X o to)(ha:PA X (e::es) t)
  (hbase:autoParam (attributeBase o name X.env (eval o X.env)=eval o X.env) RF._auto_1)
  (hfew:((backTo cpos (starEach (e::es) X.env)).all (λx=>!x.1)&&(backToKw cpos (keywordEach [] X.env)).all (λx=>x.1.isSome)
   &&decide ((e::es).length+([]:List Keyword).length+(if ([]:List Keyword).isEmpty then 0 else 1)<30))=true:=by rfl)
  (hline:autoParam ((apos.endLine == cpos.line)=true) RF._auto_1) (hs:autoParam (starEach (e::es) X.env=(false,eval e X.env)::starEach es X.env) RF._auto_1) (hplain:autoParam ((backTo cpos (starEach es X.env)).any (·.1)=false) RF._auto_1) :
  PE X (.Call (.Attribute o name apos) (e::es) [] cpos) (tBM X.K T r to t):=by
 intro pins s σ H Q I h;refine wpAny_Call_method_late hbase hfew hline rfl (thn (ho pins s σ H _ I h) λv s1 zz224=>zz224.elim λx zz225=>zz225.elim λH1 zz226=>zz226.elim λI1 zz227=>zz227.elim λr1 zz228=>zz228.elim λty q1=>?_);obtain⟨h1,h2⟩:=C9c I1 r1 ty;refine⟨T,id,pa,slot,hty,h1,h2,?_⟩;have hA:=ha cpos pins s1 σ H1 _ I1 q1;rw[hs] at hA ⊢;refine Calls.callWith_builtin (by show (false||(backTo cpos (starEach es X.env)).any (·.1))=false;rw[hplain] <;> rfl) (Calls.evalArgs_plain ?_);exact thn hA λus s2 zz229=>el5 zz229 λvs H2 I2 r2 q2=>hm pins s2 σ H2 x vs v us Q I2 r1 r2 q2
end
def MtM (X:Cx)(id:String)(r:V->List V->Hp->VK->Prop):Prop:=
 ∀(pins:List (Addr×Obj))(s:Shared)(σ:St)(H:Hp)(x:V)(xs:List V)(v:Value)(us:List Value)(Q:VK),Inv X pins σ H s->E1 x v->C6 xs us->r x xs H Q->
  wpAny (model X.prog X.w) X.A (call (.builtin id) (v::us)) (EP X pins σ Q) X.xe s
theorem C6.one {x:V}{us:List Value}(h:C6 [x] us):∃u,us=[u]/\E1 x u:=by
 cases h with
 | cons r t=>cases t;exact⟨_,rfl,r⟩
theorem C6.rep {xs:List V}{us:List Value}(h:C6 xs us):∀k:Nat,C6 (F2 k xs).flatten (F2 k us).flatten
 | 0=>.nil
 | k+1=>by
  rw[A00,A00,A4n,A4n];exact C6.append h (C6.rep h k)
theorem C06 (its:List Value):∀(k:Nat)(acc:List Value),
  List.foldl (λx1 x2=>x1++x2) acc.toArray (F2 k its.toArray)=(acc++(F2 k its).flatten).toArray
 | 0,acc=>by simp
 | k+1,acc=>by
  have e:acc.toArray++its.toArray=(acc++its).toArray:=by simp
  have e2:(acc++its)++(F2 k its).flatten=acc++(F2 (k+1) its).flatten:=by
   rw[A00,A4n,m5]
  rw[<-e2,<-C06 its k (acc++its),<-e,A00,List.foldl_cons]
section
variable {pins:List (Addr×Obj)}{σ:St}{H:Hp}{s:Shared}{l b:Addr}{xs ys zs:List V}
theorem Inv.lset {its its':List Value}{n:Nat}{f:Array Value->Array Value}{t':Nat}(I:Inv X pins σ H s)(hH:H l=some (.lst xs))
  (e:s.heap.get? l=some { cls:=.type "list",data:=.seq its.toArray n }) (hf:f its.toArray=its'.toArray) (hv:C6 ys its') (hz:ys.length<=sizeLine) :
  Inv X pins σ (upd H l (.lst ys)) { s with heap:=s.heap.update l (A6q f),toks:=t' }:=by
 have q:=PySem.IsL.update e f;rw[hf] at q;refine I.write (x:=l) (e:=l) (by rw[hH];exact trivial) (.inl rfl) (λb' u hb hu=>(A6r s.heap (A6q f) (Ne.symm hb)).trans hu) ⟨_,q⟩ ?_;exact⟨hz,its',_,hv,q⟩
theorem Inv.lnew {its:List Value}{t':Nat}(I:Inv X pins σ H s)(hv:C6 ys its)(hz:ys.length<=sizeLine) :
  Inv X pins σ (upd H s.heap.objs.size (.lst ys)) { s with heap:=s.heap.push { cls:=.type "list",data:=.seq its.toArray },toks:=t' }:=
 I.laid (λJ J q=>M5 _ q) (E8 _) ⟨hz,its,0,hv,R9 _ rfl⟩
theorem Inv.fresh (I:Inv X pins σ H s):H s.heap.objs.size=none:=I.hok.fresh (E8 _)
theorem Inv.lstM (I:Inv X pins σ H s)(hH:H l=some (.lst xs)):xs.length<=sizeLine/\∃(its:List Value)(n:Nat),C6 xs its/\xs.length=its.length/\s.heap.get? l=some { cls:=.type "list",data:=.seq its.toArray n }:=by
 obtain⟨z,its,n,r,e⟩:=I.hok l _ hH;exact⟨z,its,n,r,r.length,e⟩
theorem C9d {n:Nat}(h:n<=sizeLine):Builtin.List.listTooLong n=false:=by
 unfold Builtin.List.listTooLong;exact decide_eq_false (by omega)
end
def C07:V->List V->Hp->VK->Prop:=λx vs H Q=>∃l xs y,x=.ref l/\vs=[y]/\H l=some (.lst xs)/\xs.length<sizeLine/\Q .non (upd H l (.lst (xs++[y])))
theorem A69:MtM X "list.append" C07:=by
 intro pins s σ H x vs v us Q I rx rv h;obtain⟨l,xs,y,rfl,rfl,hH,hz,q⟩:=h;cases rx;obtain⟨u,rfl,ru⟩:=rv.one;obtain⟨z,its,n,r,hl,e⟩:=I.lstM hH;refine call_meets F.slot_list_append ⟨_,e,rfl⟩ F.entry_list_append (F.args_list_append_2 _ _) (PySem.list_append l its.toArray n u (by rw[Q2];omega)) ⟨e,?_⟩;refine⟨.non,_,I.lset (its':=its++[u]) hH e (by simp) (r.append (.cons ru .nil)) ?_,rfl,q⟩;rw[S8,C66];omega
def C9e:R2:=λx y H Q=>∃l b xs zs,x=.ref l/\y=.ref b/\H l=some (.lst xs)/\H b=some (.lst zs)/\xs.length+zs.length<=sizeLine/\∀p,H p=none->Q (.ref p) (upd H p (.lst (xs++zs)))
theorem A1s:OpR X (binaryOp .Add) C9e:=by
 intro pins s σ H x y v u Q I rx ry h;obtain⟨l,b,xs,zs,rfl,rfl,hH,hB,hz,q⟩:=h;cases rx;cases ry;obtain⟨z,its,n,r,hl,e⟩:=I.lstM hH;obtain⟨z2,its2,n2,r2,hl2,e2⟩:=I.lstM hB;refine PySem.P.add_list e e2 ?_ (by rw[Q2,Q2];omega);have ea:its.toArray++its2.toArray=(its++its2).toArray:=by simp
 rw[ea];exact⟨.ref _,_,I.lnew (t':=s.toks) (r.append r2) (by rw[S8];omega),rfl,q _ I.fresh⟩
def C9f:R2:=λx y H Q=>∃l k xs,x=.ref l/\y=.int k/\H l=some (.lst xs)/\-(2^63)<=k/\k<2^63/\xs.length*k.toNat<=sizeLine/\
 ∀p,H p=none->Q (.ref p) (upd H p (.lst (F2 k.toNat xs).flatten))
theorem C9g {α:Type}(xs:List α)(k:Nat):(F2 k xs).flatten.length=k*xs.length:=by
 induction k with
 | zero=>simp
 | succ k ih=>rw[A00,A4n,S8,ih,Nat.succ_mul,Nat.add_comm]
theorem C08:OpR X (binaryOp .Mult) C9f:=by
 intro pins s σ H x y v u Q I rx ry h;obtain⟨l,k,xs,rfl,rfl,hH,h1,h2,hz,q⟩:=h;cases rx;obtain⟨t,rfl⟩:=ry;obtain⟨z,its,n,r,hl,e⟩:=I.lstM hH;have hlen:its.toArray.size*k.toNat<=sizeLine:=by rw[Q2,<-hl];exact hz
 have hcap:¬ its.toArray.size*k.toNat>(2^63-1)/8:=by
  have:(sizeLine:Nat)<=(2^63-1)/8:=by decide
  omega
 have hfit:¬ (!Builtin.List.listFitsIndex k)=true:=by
  rw[fitsIndex_both h1 h2];exact P4
 have hlong:¬ Builtin.List.listTooLong (its.toArray.size*k.toNat)=true:=by
  rw[C9d hlen];exact P4
 have hnew:List.foldl (λx1 x2=>x1++x2) #[] (F2 (if its.toArray.isEmpty=true then 0 else k.toNat) its.toArray)=(F2 k.toNat its).flatten.toArray:=by
  have f0:∀m:Nat,List.foldl (λx1 x2=>x1++x2) #[] (F2 m its.toArray)=(F2 m its).flatten.toArray:=λm=>by
   have:=C06 its m [];rw[O1] at this;exact this
  rw[f0];cases its with
  | nil=>simp
  | cons a r'=>rw[if_neg (by simp)]
 refine wpAny_binaryOp_repeat_ref (T:= "list") (U:= "int") DD ⟨_,e,rfl⟩ (λs'=>typeIs_int s' k t) noFill_list_mul F.fills_int_mul F.slot_int_rmul repeat_list F.slot_int_index.lookup
  (call_meets F.slot_int_rmul (typeIs_int s k t) F.entry_int_rmul (F.args_int_rmul_2 _ _) (int___rmul___int_list k t l its.toArray n)
   ⟨e,rfl,⟨_,e,rfl⟩,call_meets F.slot_list_mul ⟨_,e,rfl⟩ F.entry_list_mul (F.args_list_mul_2 _ _) (AutoListH.list___mul___list_int_3 l its.toArray n k t hfit hcap hlong) ⟨e,?_⟩⟩)
 rw[hnew];exact⟨.ref _,_,I.lnew (t':=s.toks) (r.rep k.toNat) (by rw[C9g,Nat.mul_comm];exact hz),rfl,q _ I.fresh⟩
section
variable {prog:Program}{w:World}{A:Around}{E:Value->Shared->Prop}{s:Shared}
set_option maxRecDepth 100000 in
end
end Lake
namespace Att
open PySem PySem.W PySem.Calls PyProof.Rows
theorem C9h {P:Params}{h:Heap}:∀(ns:List Int)(vs:List Value),WellAll P h vs (ns.map WData.int)->IntsAre vs ns:=by
 intro ns
 induction ns with
 | nil=>intro vs w;rw[A4l] at w;cases w;exact .nil
 | cons n ns ih=>
  intro vs w;rw[K9] at w;cases w with
  | cons a b=>cases a;exact .cons _ _ (ih _ b)
theorem C9i {l:OpenLaw}{n:Nat}(hn:l.most=some n){P:Params}{h:Heap}{args:List WData}{vals:List Value}
  (hpre:l.row.toRowW.claim.pre args=true) (hwl:WellAll P h vals args) :
  ∃a vs ns,vals=[Value.ref a]/\args=[WData.list (ns.map WData.int)]/\h.get? a=some { cls:=.type "list",data:=.seq vs.toArray }/\IntsAre vs ns/\ns.length<=n:=by
 have hsh:WShape.hasAll [] args [.list .int]=true:=(pre_splitW hpre).1;have hc:l.pre.holds [] { args:=args }=true:=(pre_splitW hpre).2;obtain⟨d,r,rfl,h1,h2⟩:=hasAllW_cons hsh;obtain rfl:=hasAllW_nil h2;obtain⟨xs,rfl,h3⟩:=hasW_list h1;obtain⟨ns,rfl⟩:=items_int h3;have hlen:ns.length<=n:=by
  unfold OpenLaw.pre at hc;have h4:(WTm.not (.lt (.lit (.int (n:Int))) (.len (.arg 0)))).holds [] { args:=[.list (ns.map .int)] }=true:=by
   have h4:=(holds_andW hc).1;rw[hn] at h4;exact h4
  have h5:=condW_of h4 (w_not (w_lt w_lit (w_len_list (w_arg rfl))));rw[B6] at h5;refine Nat.le_of_not_lt λq=>?_;have q':(n:Int)<((ns.length:Nat):Int):=by omega
  first
   | (rw[decide_eq_true q'] at h5;exact absurd h5 DD)
   | (simp at h5;omega)
 cases hwl with
 | cons w1 w2=>
  cases w2;cases w1 with
  | list ho hall=>exact⟨_,_,ns,rfl,rfl,ho,C9h ns _ hall,hlen⟩
theorem C9j (l:OpenLaw)(args:List WData):l.row.toRowW.claim.post args (.bool true) args=true:=
 postW_of (r:=l.row.toRowW) (X:=(true == true))
  (show WShape.has [] (.bool true) .bool=true by first | rfl | decide | simp [WShape.has,WShape.arms,WShape.armsAll])
  (show (WTm.eq .res (.lit (.bool true))).value [] { args:=args,res:=some (.bool true),after:=args }=some (.bool (true == true)) from w_eq_bool (w_res rfl) w_lit) rfl
theorem attach_call {l:OpenLaw}{n:Nat}{q:Program}{loose:List Str}{XP:(Str->Option Value)->Heap->Prop}{YP:World->Heap->Prop}{d:DefRec}
  (hn:l.most=some n) (hdf:d.params.defaults=[])
  (call:∀(w:World)(s₀ s₁:Shared)(mg mb:Str->Option Value)(fa:Addr)(o:Obj)(pm cd doc:Value)(a:Addr)(vs:List Value)(ns:List Int),
   Ground q loose [] XP w s₀ mg mb s₁.heap->YP w s₁.heap->
   s₁.heap.get? fa=some o->o.data=.func (docDef d.name d.params d.body d.scope pm cd doc)->s₁.heap.CodeRec cd d.name->mg d.name=some (.ref fa)->
   s₁.heap.get? a=some { cls:=.type "list",data:=.seq vs.toArray }->IntsAre vs ns->ns.length<=n->s₁.gens=#[]->
   codeAny (model l.prog w) callerA (.call (.ref fa) ⟨[.ref a],[]⟩) (λr s'=>r=.ok (.ret (.bool true))/\OldK s₁.heap s'.heap/\s'.os=s₁.os/\AllBare s'.gens) s₁) :
  WalkO q loose XP YP l.row.toRowW d [] (λf vs=>PySem.call f vs):=by
 intro w s₀ s₁ mg mb G Y fa o pm cd doc dV kV ho hd hcd hD hmg hg args vals as hpre hlay hrd hwl hlo;obtain rfl:dV=.none:=Dflts.none hD hdf;obtain rfl:kV=.none:=Dflts.noKw hD;obtain⟨a,vs,ns,rfl,rfl,hobj,hints,hlen⟩:=C9i hn hpre hwl;refine enter_call (codeAny_mono (call w s₀ s₁ mg mb fa o pm cd doc a vs ns G Y ho (fd_plain hd) hcd hmg hobj hints hlen hg) λr s' hq=>?_);obtain⟨rfl,h2,h3,h4⟩:=hq;exact⟨.inl ⟨.bool true,.bool true,[],rfl,λJ=>rfl,.bool true,C9j l _,λJ=>⟨List.Pairwise.nil,λJ hm=>(nomatch hm)⟩⟩,h2,h3,h4⟩
section
variable {prog:Program}{w:World}{A:Around}{E:Value->Shared->Prop}{s:Shared}{K:Frag}
def E1l (h:Heap)(L d:Addr):List (Addr×Obj):=(T5 h.objs.size).filterMap λa=>if a=L\/a=d then none else (h.get? a).map λo=>(a,o)
end
end Att
namespace Lake
open PySem PySem.Spec PyProof.Rows
theorem B4h:∀{vs:List Value}{ns:List Int},IntsAre vs ns->C6 (ns.map V.int) vs
 | _,_,.nil=>.nil
 | _,_,.cons n t h=>.cons ⟨t,rfl⟩ (B4h h)
def B4i (H:Hp):Prop:=∀b,H b=none\/∃o xs,H b=some (.frz o (.lst xs))
theorem C9k {P:Program}{w:World}{K:A8}{mg mb:Str->Option Value}{CX:CXT}{k:Nat}{fa a:Addr}{fd:FuncData}{x:Str}{sp:Sp}{s₁:Shared}{vs:List Value}{ns:List Int}
  (KX:K.In s₁.heap) (hns:s₁.heap.Ns mainGlobals mg) (hb:s₁.heap.Ns builtinsNs mb) (hbb:∀x:Str,x≠ "__name__" ->mb x=bootBuiltins x) (hlim:s₁.heap.NoLimit) (hg:s₁.gens=#[])
  (ha:s₁.heap.get? a=some { cls:=.type "list",data:=.seq vs.toArray }) (hi:IntsAre vs ns) (hl:ns.length<=sizeLine) (hr:P8 k callerA)
  (F:∀base:Heap,K.In base->base.Ns mainGlobals mg->B8 P w K mg base CX k fa fd [x] sp) (hbind:∀(s:Shared)(u:Value),BindsTo s fd ⟨[u],[]⟩ [(x,u)])
  (hsp:∀H:Hp,B4i H->SqL K H a (ns.map V.int)->sp [.ref a] H (λv J=>v=.bl true) λJ J J=>False)
  (hCX:∀H e s',CX [] H s₁ (λJ J J=>False) e s'->False) :
  codeAny (model P w) callerA (.call (.ref fa) ⟨[.ref a],[]⟩) (λr s'=>r=.ok (.ret (.bool true))/\OldK s₁.heap s'.heap/\s'.os=s₁.os/\AllBare s'.gens) s₁:=by
 have rv:=B4h hi;have lenV:=hi.length;have core:∀H:Hp,B4i H->SqL K H a (ns.map V.int)->HOk P w H s₁.heap->(∀b,H b≠none->b=a)->(H a≠none->K.lookup a=none)->
   codeAny (model P w) callerA (.call (.ref fa) ⟨[.ref a],[]⟩) (λr s'=>r=.ok (.ret (.bool true))/\OldK s₁.heap s'.heap/\s'.os=s₁.os/\AllBare s'.gens) s₁:=by
  intro H hO hS hok hA hK;have base_of:∀{b:Addr}{o:Obj},s₁.heap.get? b=some o->H b=none->(A2c s₁.heap H).get? b=some o:=λe n=>C7v e n;have noA:∀{b:Addr}{o:Obj}{es:Array DictEntry}{ep:Nat},s₁.heap.get? b=some o->o.data=.dict es ep->H b=none:=λ{b o es ep} e d=>by
   cases q:H b with
   | none=>rfl
   | some u=>have e':b=a:=hA b (by rw[q];simp);subst e';rw[ha] at e;cases e;have d':Data.seq vs.toArray _=Data.dict es ep:=d;cases d'
  have nsK:∀{b:Addr}{m:Str->Option Value},s₁.heap.Ns b m->(A2c s₁.heap H).Ns b m:=λ{b m} ⟨o,es,ep,e,d,r⟩=>⟨o,es,ep,base_of e (noA e d),d,r⟩;have hKb:K.In (A2c s₁.heap H):=λb o e=>base_of (KX b o e) (by
   cases q:H b with
   | none=>rfl
   | some u=>
    have e':b=a:=hA b (by rw[q];simp);subst e';rw[hK (by rw[q];simp)] at e;cases e)
  have hM:Mod K mg (A2c s₁.heap H):=⟨hKb,nsK hns,⟨mb,nsK hb,hbb⟩,let ⟨mc,h1,h2⟩:=hlim;⟨mc,nsK h1,h2⟩⟩;have e0:A4x P w K mg (A2c s₁.heap H) callerA [] s₁ H:=⟨rfl,hM,λb o e=>C7w e,Nat.le_of_eq (C7u _ _),trivial,λb hb=>absurd (show b∈([]:List Addr) from hb) (by simp),hok,.of_eq hg⟩;refine codeAny_mono ((F _ hKb (nsK hns)).run callerA [] s₁ H ⟨[.ref a],[]⟩ [.ref a] [.ref a] _ _ hr e0 (hbind s₁ (.ref a)) (.cons rfl .nil) (hsp H hO hS)) λr s' h=>?_;cases r with
  | error e=>exact (hCX H e s' h).elim
  | ok fl=>
   cases fl with
   | next=>exact False.elim h
   | brk=>exact False.elim h
   | cont=>exact False.elim h
   | ret u=>
    obtain⟨v,H',os,bare,un,hok',r',q⟩:=h;have q':v=.bl true:=q;subst q';obtain rfl:u=Value.bool true:=r';refine⟨rfl,OldK.of_keep λb o e=>?_,os,bare⟩;cases q:H b with
    | none=>exact un.keep b o e q (by intro z;exact absurd (show b∈([]:List Addr) from z) (by simp)) (by simp)
    | some u=>
     rcases hO b with z | ⟨ob,xs,z⟩
     ·rw[q] at z;cases z
     ·have z2:=un.frzs b ob _ z;obtain⟨e1,_⟩:=hok b _ z;obtain⟨e2,_⟩:=hok' b _ z2;rw[e] at e1;cases e1;exact e2
 cases hk:K.lookup a with
 | some o=>have e:=KX a o hk;rw[ha] at e;cases e;refine core (λJ=>none) (λJ=>.inl rfl) (.inr ⟨_,vs.toArray,_,hk,rfl,rfl,rfl,by rw[Q2,lenV];exact hl,by simpa using rv⟩) (λb u z=>by have z':(none:Option HO)=some u:=z;cases z') (λb z=>absurd rfl z) λz=>absurd rfl z
 | none=>
  refine core (λb=>if b=a then some (.frz { cls:=.type "list",data:=.seq vs.toArray } (.lst (ns.map V.int))) else none) (λb=>?_) (.inl (.inr ⟨{ cls:=.type "list",data:=.seq vs.toArray },if_pos rfl⟩)) (λb u z=>?_) (λb z=>?_) λJ=>hk
  ·by_cases hb:b=a
   ·exact .inr ⟨_,_,if_pos hb⟩
   ·exact .inl (if_neg hb)
  ·by_cases hb:b=a
   ·have z':=(if_pos hb).symm.trans z;cases z';subst hb;exact⟨ha,by rw[B6];exact hl,vs,_,rv,ha⟩
   ·have z':=(if_neg hb).symm.trans z;cases z'
  ·by_cases hb:b=a
   ·exact hb
   ·exact absurd (if_neg hb) z
theorem walk_of {l:PySem.W.OpenLaw}{n k:Nat}{q:Program}{loose:List Str}{XP:(Str->Option Value)->Heap->Prop}{YP:World->Heap->Prop}{d:DefRec}{K:Params->A8}{CX:World->CXT}{sp:World->Sp}{x:Str}
  (hn:l.most=some n) (hn2:n<=sizeLine) (hdf:d.params.defaults=[]) (hr:P8 k callerA)
  (hY:∀(w:World)(h:Heap),YP w h->(K w.params).In h)
  (F:∀(w:World)(mg:Str->Option Value)(fa:Addr)(h:Heap),(K w.params).In h->h.Ns mainGlobals mg->mg d.name=some (.ref fa)->
   ∃fd:FuncData,(∀(s:Shared)(u:Value),BindsTo s fd ⟨[u],[]⟩ [(x,u)])/\
    ∀base:Heap,(K w.params).In base->base.Ns mainGlobals mg->B8 l.prog w (K w.params) mg base (CX w) k fa fd [x] (sp w))
  (hsp:∀(w:World)(H:Hp)(a:Addr)(ns:List Int),ns.length<=n->B4i H->SqL (K w.params) H a (ns.map V.int)->sp w [.ref a] H (λv J=>v=.bl true) λJ J J=>False)
  (hCX:∀(w:World)(H:Hp)(s:Shared)(e:Value)(s':Shared),CX w [] H s (λJ J J=>False) e s'->False) :
  PySem.W.WalkO q loose XP YP l.row.toRowW d [] (λf vs=>PySem.call f vs):=by
 refine Att.attach_call hn hdf λw s₀ s₁ mg mb fa o pm cd doc a vs ns G Y ho hd hcd hmg hobj hints hlen hg=>?_;have KX:=hY w _ Y;obtain⟨fd,hb,hF⟩:=F w mg fa _ KX G.T.g hmg;exact C9k KX G.T.g G.T.b G.T.builtins G.T.nolimit hg hobj hints (J1 hlen hn2) hr hF hb (λH hO hS=>hsp w H a ns hlen hO hS) λH e s'=>hCX w H s₁ e s'
def X8 (s:Stmt)(j:Nat):Stmt:=match s with
 | .ClassDef _ _ _ body _ _ _ _ _ _ _=>body.getD j (.Pass ⟨0,0,0,0⟩)
 | _=>.Pass ⟨0,0,0,0⟩
def A40 (s:Stmt):Arguments:=match s with
 | .FunctionDef _ a _ _ _ _ _ _ _ _=>a
 | _=>{ posonlyargs:=[],args:=[],vararg:=none,kwonlyargs:=[],kw_defaults:=[],kwarg:=none,defaults:=[] }
def A2l (s:Stmt):List Stmt:=match s with
 | .FunctionDef _ _ b _ _ _ _ _ _ _=>b
 | _=>[]
def B1 (s:Stmt):Scope:=match s with
 | .FunctionDef _ _ _ _ _ _ sc _ _ _=>sc
 | _=>{ kind:=.function,names:=[],isGenerator:=false,isCoroutine:=false }
abbrev CX0:CXT:=λJ J J J J J=>False
abbrev E0:XK:=λJ J J=>False
theorem A4 {X:Cx}:A2i CX0 X E0:=λJ J J J J J J h=>h.elim
structure Fun (K:A8)(x qual:Str)(st:Stmt)(f:Addr)(fd:FuncData):Prop where
 ex:∃(oc:Value)(od:Option Addr)(kV doc pm:Value)(an:Option Addr)(cdv ct:Value)(osl:Array (Option Value)),
  fd=A4k x qual (A40 st) (A2l st) (B1 st) .none kV doc pm an cdv ct/\K.lookup f=some ⟨oc,od,.func fd,osl⟩/\B9k K cdv qual=true
 kp:A6p K (.ref f)=true
section
variable {P:Program}{w:World}{K:A8}{mg:Str->Option Value}{base:Heap}
theorem Fun.ok {x qual:Str}{st:Stmt}{f:Addr}{fd:FuncData}{N ps:List Str}{k:Nat}{sp:Sp}(F:Fun K x qual st f fd)(S:C3 N ps (B1 st))(len:∀vs H Q E,sp vs H Q E->vs.length=ps.length)
  (hbody:∀(cdv:Value)(A:Around)(outer:List Env)(s:Shared)(H:Hp)(vs:List V)(Q:VK)(E:XK),P8 k (A.deeper (envOfC qual (B1 st) s.heap.objs.size f cdv))->sp vs H Q E->
   ∃t,PSs (G5 CX0 P w K mg base N qual (B1 st) f cdv A outer s H E).nox (A2l st) t/\t { nx:=λJ H'=>Q .non H',rt:=Q } (start N vs) H):B8 P w K mg base CX0 (k+1) f fd ps sp:=by
 obtain⟨oc,od,kV,doc,pm,an,cdv,ct,osl,rfl,lk,hcd⟩:=F.ex;refine C81 lk hcd S len λA outer s H vs Q E hr hsp=>?_;obtain⟨t,h,q⟩:=hbody cdv A outer s H vs Q E hr hsp;exact⟨t,h.nox,q⟩
theorem Fun.binds {x qual:Str}{st:Stmt}{f:Addr}{fd:FuncData}{ps:List Str}(F:Fun K x qual st f fd)
  (h:∀(kV doc pm:Value)(an:Option Addr)(cdv ct:Value)(us:List Value),us.length=ps.length->bindArgs (A4k x qual (A40 st) (A2l st) (B1 st) .none kV doc pm an cdv ct) ⟨us,[]⟩=pure (ps.zip us)):y8 K fd ps []:=by
 obtain⟨oc,od,kV,doc,pm,an,cdv,ct,osl,rfl,lk,hcd⟩:=F.ex;exact .all (h kV doc pm an cdv ct)
theorem C9l {x qual:Str}{st:Stmt}{f:Addr}{oc:Value}{od an:Option Addr}{osl:Array (Option Value)}{kV doc pm cdv ct:Value}(l:K.lookup f=some ⟨oc,od,.func (A4k x qual (A40 st) (A2l st) (B1 st) .none kV doc pm an cdv ct),osl⟩)
  (c:B9k K cdv qual=true) (k:A6p K (.ref f)=true):Fun K x qual st f (A4k x qual (A40 st) (A2l st) (B1 st) .none kV doc pm an cdv ct):=⟨⟨oc,od,kV,doc,pm,an,cdv,ct,osl,rfl,l,c⟩,k⟩
end
theorem B1e {n:Nat}(h:n<=1000):n<sizeLine:=A0i h (DD)
section
variable {X:Cx}
theorem pv (i:Nat){x:Str}{pos:Pos}(hN:autoParam (X.N[i]?=some x) RF._auto_1)(hv:Vis X.env.scope x:=by first | exact B2 rfl | exact Or.inr (B2 rfl) | exact Or.inr (Or.inr rfl))(hd:autoParam ((x == ("__debug__" : Str))=false) DD._auto_1)
  (hcd:autoParam ((x == ("__classdict__" : Str))=false) DD._auto_1):PE X (.Name x pos) (Y9 i):=C7y hN hv hd hcd
end
theorem E4 {A B:Prop}(h:B):if false=true then A else B:=by
 rw[if_neg P4];exact h
theorem G4 {A B:Prop}(h:A):if true=true then A else B:=by
 rw[if_pos rfl];exact h
theorem A7a {c A B:Prop}[Decidable c](h1:c->A)(h2:¬ c->B):if c then A else B:=by
 by_cases h:c
 ·rw[if_pos h];exact h1 h
 ·rw[if_neg h];exact h2 h
def Same (H H':Hp):Prop:=∀b o,H b=some o->H' b=some o
theorem Same.refl (H:Hp):Same H H:=λJ J h=>h
end Lake
set_option maxHeartbeats 4000000
namespace Lake
open PySem PySem.Spec PyProof.Rows
def U8 (cells:List (Str×Addr)):List (Str×NameKind)->List (Str×Addr)->List (Str×Addr)
 | [],cs=>cs
 | (n,k)::r,cs=>U8 cells r (if k == .free then (n,(cells.lookup n).getD 0)::cs else cs)
theorem B4j {scope:Scope}{env:Env}(h:∀y∈scope.names,y.2=.free->∃c,env.cells.lookup y.1=some c):closureFor scope env=pure (U8 env.cells scope.names []):=by
 have key:∀(l:List (Str×NameKind))(cs:List (Str×Addr)),(∀y∈l,y.2=.free->∃c,env.cells.lookup y.1=some c)->
   (forIn l cs λ(x:Str×NameKind) (r:List (Str×Addr))=>if (x.2 == NameKind.free)=true then do let a <-cellOf env x.1;pure (ForInStep.yield ((x.1,a)::r)) else pure (ForInStep.yield r):Sem (List (Str×Addr)))=pure (U8 env.cells l cs):=by
  intro l
  induction l with
  | nil=>intro cs _;rfl
  | cons y r ih=>
   intro cs hl;obtain⟨n,k⟩:=y;rw[List.forIn_cons];by_cases hk:k=.free
   ·subst hk;obtain⟨c,hc⟩:=hl (n,.free) D6 rfl;have hc':env.cells.lookup n=some c:=hc;have e1:cellOf env n=pure c:=by unfold cellOf;rw[hc']
    simp only[beq_self_eq_true,if_true,e1,pure_bind];rw[ih _ λz hz=>hl z (C8 _ hz)];show _=pure (U8 env.cells r (if (NameKind.free == NameKind.free)=true then (n,(env.cells.lookup n).getD 0)::cs else cs));rw[hc'];rfl
   ·have hb:(k == NameKind.free)=false:=by simpa using hk
    simp only[hb,A8u,if_false,pure_bind];rw[ih _ λz hz=>hl z (C8 _ hz)];show _=pure (U8 env.cells r (if (k == NameKind.free)=true then (n,(env.cells.lookup n).getD 0)::cs else cs));rw[hb];rfl
 have k2:=key scope.names [] h;have e:closureFor scope env=((forIn scope.names [] λ(x:Str×NameKind) (r:List (Str×Addr))=>if (x.2 == NameKind.free)=true then do let a <-cellOf env x.1;pure (ForInStep.yield ((x.1,a)::r)) else pure (ForInStep.yield r):Sem (List (Str×Addr))) >>= λcs=>pure cs):=rfl;rw[e,k2];rfl
set_option tactic.hygienic true in
theorem B4k {cells:List (Str×Addr)}:∀{l:List (Str×NameKind)}{cs:List (Str×Addr)},(∀y∈l,y.2=.free->∃c,cells.lookup y.1=some c)->(∀x c,cs.lookup x=some c->cells.lookup x=some c)->
  ∀x c,(U8 cells l cs).lookup x=some c->cells.lookup x=some c
 | [],_,_,h,x,c,e=>h x c e
 | (n,k)::r,cs,hl,h,x,c,e=>by
  unfold U8 at e;refine B4k (l:=r) (λz hz=>hl z (C8 _ hz)) (λy d q=>?_) x c e;split at q
  ·rename_i hk;obtain⟨c0,hc0⟩:=hl (n,k) D6 (by simpa using hk);have hc0':cells.lookup n=some c0:=hc0;rw[hc0'] at q;rw[A1m] at q;split at q
   ·rename_i hb;have:=eq_of_beq hb;subst this;rw[hc0'];exact q
   ·exact h y d q
  ·exact h y d q
theorem C09 {cells:List (Str×Addr)}{x:Str}:∀{l:List (Str×NameKind)}{cs:List (Str×Addr)},(∃c,cs.lookup x=some c)->∃c,(U8 cells l cs).lookup x=some c
 | [],_,h=>h
 | (n,k)::r,cs,h=>by
  unfold U8;refine C09 (l:=r) ?_;split
  ·rw[A1m];split
   ·exact⟨_,rfl⟩
   ·exact h
  ·exact h
theorem A89 {cells:List (Str×Addr)}{x:Str}:∀{l:List (Str×NameKind)}{cs:List (Str×Addr)},(x,NameKind.free)∈l->∃c,(U8 cells l cs).lookup x=some c
 | (n,k)::r,cs,h=>by
  unfold U8;rcases G1.mp h with e | h
  ·injection e with e1 e2
   subst e1 e2;refine C09 (l:=r) ?_;simp only[beq_self_eq_true,if_true];rw[A1m];simp
  ·exact A89 (l:=r) h
structure CA where
 s:Shared
 H:Hp
 C:Addr
 fp:List Addr
abbrev M6 (X:Cx)(scope:Scope)(N':List Str)(a:CA):Cx where
 prog:=X.prog
 w:=X.w
 K:=X.K
 mg:=X.mg
 base:=X.base
 A:=X.A
 N:=N'
 s₀:=a.s
 H₀:=a.H
 env:=compEnvC scope (U8 X.env.cells scope.names []) a.C X.env
 outer:=X.stack
 stack:=X.stack
 ex:=a.fp
 fn:=λJ=>false
 calm:=X.calm
 pn:=[]
 xe:=λJ J=>False
structure M7 (N N':List Str)(osc scope:Scope)(j:Nat)(x:Str):Prop where
 nd:N'.Nodup
 at_:N'[j]?=some x
 sub:∀(i:Nat) y,i≠j->N'[i]?=some y->N[i]?=some y
 len:N'.length<=N.length+1
 kind:scope.kind=.function
 cell:∀y∈scope.names,y.2≠.cell
 names:∀y∈scope.names,y.2=.local->scope.names.lookup y.1=some .local
 only:∀y∈scope.names,y.2=.local->y.1=x\/y.1∉N'
 loc:scope.names.lookup x=some .local
 okind:osc.kind=.function
 free:∀y∈scope.names,y.2=.free->osc.names.lookup y.1=some .cell
def C1a (N:List Str)(osc scope:Scope)(x:Str):Bool:=
 decide (N++[x]).Nodup&&decide (scope.kind=.function)&&decide (osc.kind=.function)&&(scope.names.lookup x == some .local)&&
  scope.names.all λy=>match y.2 with
   | .cell=>false
   | .local=>scope.names.lookup y.1 == some .local&&(y.1 == x||!((N++[x]).contains y.1))
   | .free=>osc.names.lookup y.1 == some .cell
   | _=>true
theorem M7.new {N:List Str}{osc scope:Scope}{x:Str}(h:C1a N osc scope x=true):M7 N (N++[x]) osc scope N.length x:=by
 unfold C1a at h;simp only[X6,decide_eq_true_eq,B9m,beq_iff_eq] at h;obtain⟨⟨⟨⟨h1,h2⟩,h3⟩,h4⟩,h5⟩:=h;refine⟨h1,by simp,λi y ne e=>?_,by simp,h2,λy hy e=>?_,λy hy e=>?_,λy hy e=>?_,h4,h3,λy hy e=>?_⟩
 ·by_cases hi:i<N.length
  ·rw[A26 hi] at e;exact e
  ·rw[k0 (by omega)] at e;cases q:i-N.length with
   | zero=>exact absurd (by omega) ne
   | succ k=>rw[q] at e;simp at e
 ·have:=h5 y hy;rw[e] at this;cases this
 ·have:=h5 y hy;rw[e] at this;simp only[X6,beq_iff_eq] at this;exact this.1
 ·have:=h5 y hy;rw[e] at this;simp only[X6,A8v,beq_iff_eq,B9n,List.contains_eq_mem,decide_eq_false_iff_not] at this;exact this.2
 ·have:=h5 y hy;rw[e] at this;simp only[beq_iff_eq] at this;exact this
def S4 (n j:Nat)(σ:St):St:=((σ++[none]).take n).set j none
theorem C1b {n j i:Nat}{σ:St}{v:V}(h:(S4 n j σ)[i]?=some (some v)):i≠j/\σ[i]?=some (some v):=by
 unfold S4 at h;by_cases e:i=j
 ·subst e;rw[A4o] at h;simp only[if_true] at h;split at h <;> cases h
 ·refine⟨e,?_⟩;rw[v8 (Ne.symm e)] at h;have h2:(σ++[none])[i]?=some (some v):=by
   by_cases hi:i<n
   ·rw[List.getElem?_take_of_lt hi] at h;exact h
   ·rw[A4p (by rw[Z9];omega)] at h;cases h
  by_cases hi:i<σ.length
  ·rw[A26 hi] at h2;exact h2
  ·rw[k0 (by omega)] at h2;cases q:i-σ.length with
   | zero=>rw[q] at h2;cases h2
   | succ k=>rw[q] at h2;cases h2
theorem C9m {n j:Nat}{σ:St}(h:n<=σ.length+1):(S4 n j σ).length=n:=by
 unfold S4;rw[S3,Z9,S8];simp;omega
theorem A3i {env:Env}:∀{names:List (Str×NameKind)}{x:Str},((names.map λ(n,k)=>if (k == NameKind.free&&env.scope.kind == .function&&env.kindOf n == some .cell) then (n,NameKind.cell) else (n,k)).lookup x=some .cell\/
  (names.map λ(n,k)=>if (k == NameKind.free&&env.scope.kind == .function&&env.kindOf n == some .cell) then (n,NameKind.cell) else (n,k)).lookup x=some .free)->(∀y∈names,y.2≠.cell)->(x,NameKind.free)∈names
 | [],_,h,_=>by rcases h with h | h <;> cases h
 | (n,k)::r,x,h,hc=>by
  rw[K9] at h;dsimp only at h;by_cases hk:(k == NameKind.free&&env.scope.kind == .function&&env.kindOf n == some .cell)=true
  ·rw[if_pos hk] at h;simp only[A1m] at h;cases hx:x == n with
   | true=>
    have e:=eq_of_beq hx;subst e;have k':k=.free:=by
     rw[X6,X6] at hk
     simpa using hk.1.1
    subst k';exact D6
   | false=>simp only[hx] at h;exact C8 _ (A3i h λy hy=>hc y (C8 _ hy))
  ·rw[if_neg hk] at h;simp only[A1m] at h;cases hx:x == n with
   | true=>
    have e:=eq_of_beq hx;subst e;simp only[hx] at h;rcases h with h | h
    ·exact absurd (Option.some.inj h) (hc (x,k) D6)
    ·have:=Option.some.inj h;subst this;exact D6
   | false=>simp only[hx] at h;exact C8 _ (A3i h λy hy=>hc y (C8 _ hy))
theorem A7b {env:Env}:∀{names:List (Str×NameKind)}{x:Str},(names.map λ(n,k)=>if (k == NameKind.free&&env.scope.kind == .function&&env.kindOf n == some .cell) then (n,NameKind.cell) else (n,k)).lookup x=some .local->(x,NameKind.local)∈names
 | [],_,h=>by cases h
 | (n,k)::r,x,h=>by
  rw[K9] at h;dsimp only at h;by_cases hk:(k == NameKind.free&&env.scope.kind == .function&&env.kindOf n == some .cell)=true
  ·rw[if_pos hk] at h;simp only[A1m] at h;cases hx:x == n with
   | true=>simp only[hx] at h;cases h
   | false=>simp only[hx] at h;exact C8 _ (A7b h)
  ·rw[if_neg hk] at h;simp only[A1m] at h;cases hx:x == n with
   | true=>have e:=eq_of_beq hx;subst e;simp only[hx] at h;have:=Option.some.inj h;subst this;exact D6
   | false=>simp only[hx] at h;exact C8 _ (A7b h)
variable {X:Cx}{pins:List (Addr×Obj)}{H:Hp}{s:Shared}
section
variable {σ:St}
structure Own (X:Cx)(pins:List (Addr×Obj))(H:Hp)(C:Addr):Prop where
 no:H C=none
 ne:C≠X.env.locals
 ab:X.s₀.heap.objs.size<=C
 ce:∀x c,X.env.cells.lookup x=some c->c≠C
 pi:∀p∈X.pn++pins,p.1≠C
theorem Inv.own {C:Addr}{H':Hp}(I:Inv X pins σ H s)(h:s.heap.objs.size<=C)(hn:H' C=none):Own X pins H' C:=by
 refine⟨hn,A8s (Q7 I.lt h),J1 I.sz h,λx c e z=>?_,λp hp z=>?_⟩
 ·obtain⟨v,q⟩:=I.cell x c e;exact absurd (Q7 q.lt (by rw[z];exact h)) (Z8 _)
 ·exact absurd (Q7 (G6 (I.pin p hp).1) (by rw[z];exact h)) (Z8 _)
theorem Inv.own_turn {C:Addr}{h':Heap}(I:Inv X pins σ H s)(o:Own X pins H C)(hs:Heap.SameBut C s.heap h'):Inv X pins σ H { s with heap:=h' }:=
 I.turned (t':=s.toks) (λb ob hb e=>(hs.2 b hb).trans e) o.no o.ne (.inr o.ab) o.ce o.pi
theorem Inv.track {D:Addr}{ys:List V}{its:List Value}{n:Nat}(I:Inv X pins σ H s)(o:Own X pins H D)(e:s.heap.get? D=some { cls:=.type "list",data:=.seq its.toArray n })(r:C6 ys its)(hz:ys.length<=sizeLine) :
  Inv X pins σ (upd H D (.lst ys)) s:=by
 have nD:∀b u,H b=some u->b≠D:=λb u q z=>by rw[z,o.no] at q;cases q
 have hok:HOk X.prog X.w (upd H D (.lst ys)) s.heap:=λb u q=>by
  by_cases hb:b=D
  ·subst hb;rw[B3] at q;cases q;exact⟨hz,its,n,r,e⟩
  ·rw[B7 hb] at q;exact (I.hok b u q).stay (λJ J J z=>z) (λc z=>by rw[B7 (nD c _ z)];exact z) λc xs z=>by rw[B7 (nD c _ z)];exact z
 have:=I.step (H':=upd H D (.lst ys)) (h':=s.heap) (g':=s.gens) (t':=s.toks) (d':=s.drawn) (ch:=[D]) (λb hb=>by
   have e':b=D:=by simpa using hb
   subst e';exact⟨.inr o.ab,o.ne,o.ce,o.pi⟩) (λb ob J J J q J=>q) (λb ob J J J q J=>⟨ob.slots,q⟩) (λb ob hc q z=>by rw[B7 (by simpa using hc)];exact z) (λb ob J q=>⟨ob,q⟩)
  (λb xs q=>by rw[B7 (nD b _ q)];exact q) (λb ob u q=>by rw[B7 (nD b _ q)];exact q) (λb ps q=>⟨#[],by rw[B7 (nD b _ q),q];simp⟩) (λm z=>z) hok I.bare
 exact this
end
variable {prog:Program}{A:Around}{R:Result->Shared->Prop}
section
variable {w:World}
theorem C1c {elt target iter:Expr}{ifs:List Expr}{scope:Scope}{pos:Pos}{it acc:Value}{env:Env}(I:Nat->Shared->Prop)
  (turn:∀n s,I n s->∀E:Value->Shared->Prop,wpAny (model prog w) A (pyNext it) (λr s₁=>match r with
   | none=>R (.ok .next) s₁
   | some v=>wpAny (model prog w) A (letOwnedTupleGo target it v) (λJ s₁'=>wpAny (model prog w) A (assign target env v) (λJ s₂=>
     wpAny (model prog w) A (forIn ifs true λc r=>if r=true then do let ok <-isTrue c env (eval c env);pure (ForInStep.yield ok) else pure (ForInStep.yield r)) (λok s₃=>
      if ok=true then wpAny (model prog w) A (eval elt env) (λx s₄=>
       wpAny (model prog w) A (call (.builtin "list.append") [acc,x]) (λJ s₅=>∃m,m<n/\I m s₅) E s₄) E s₃
      else ∃m,m<n/\I m s₃) E s₂) E s₁') E s₁) E s)
  (n:Nat) (h:I n s) :
  codeAny (model prog w) A (.compLoop (.ListComp elt [⟨target,iter,ifs,0⟩] scope pos) 0 it acc env) R s:=by
 refine codeAny_loop rfl I (λn s hI=>?_) n h;show wpAny _ A ((compTurn (.ListComp elt [⟨target,iter,ifs,0⟩] scope pos) 0 it acc env).onRaise (λx=>do noteFrame x env;theTreesLotGoes x)) _ _ s;refine wpAny_noted ?_;rw[compTurn_list];refine wpAny_bind (wpAny_standAt (wpAny_bind (wpAny_mono (turn n s hI _) (λr s₁ h₁=>?_) λJ J h'=>h')));cases r with
 | none=>exact wpAny_pure h₁
 | some v=>
  refine wpAny_bind (wpAny_mono h₁ (λJ s₁' h₁'=>?_) λJ J h'=>h');refine wpAny_bind (wpAny_mono h₁' (λJ s₂ h₂=>wpAny_bind (wpAny_mono h₂ (λok s₃ h₃=>?_) λJ J h'=>h')) λJ J h'=>h');cases ok with
  | false=>exact wpAny_pure ⟨rfl,h₃⟩
  | true=>exact wpAny_bind (wpAny_bind (wpAny_mono h₃ (λx s₄ h₄=>wpAny_bind (wpAny_mono h₄ (λJ s₅ h₅=>wpAny_pure (wpAny_pure ⟨rfl,h₅⟩)) λJ J h'=>h')) λJ J h'=>h'))
end
def PTs (X:Cx)(ifs:List Expr)(t:TT):Prop:=
 ∀(pins:List (Addr×Obj))(s:Shared)(σ:St)(H:Hp)(Q:Bool->Hp->Prop),Inv X pins σ H s->t σ H Q->
  wpAny (model X.prog X.w) X.A (forIn ifs true λc r=>if r=true then do let ok <-isTrue c X.env (eval c X.env);pure (ForInStep.yield ok) else pure (ForInStep.yield r)) (TP X pins σ Q) X.xe s
def o8:TT:=λJ H Q=>Q true H
theorem W8 {X:Cx}:PTs X [] o8:=λJ J J H J I h=>wpAny_tests_nil ⟨H,I,h⟩
theorem B1f {X:Cx}{c:Expr}{t:TT}(h:PT X c t):PTs X [c] t:=λpins s σ H Q I q=>wpAny_tests_one (h pins s σ H Q I q)
def A3j (σ:St)(n j:Nat)(tt:CA->TT)(te:CA->TE)(J:It)(H1:Hp)(Q:List V->Hp->Prop):Prop:=
 ∃W:Nat->Nat->List V->Hp->Prop,(∃m,W 0 m [] H1)/\∀i m ys H,W i m ys H->ys.length<=sizeLine/\
  ((J.stop i H/\Q ys H)\/(J.go i H/\∃N:List V->Hp->Prop,(∀ys' H',N ys' H'->∃m',m'<m/\W (i+1) m' ys' H')/\
   ∀x H',J.yld i H x H'->∀a:CA,tt a ((S4 n j σ).set j (some x)) H' λb H2=>if b=true then te a ((S4 n j σ).set j (some x)) H2 λy H3=>N (ys++[y]) H3 else N ys H2))
def A7c (wi:TI)(n j:Nat)(tt:CA->TT)(te:CA->TE):TE:=fun σ H Q=>wi σ H λJ H1=>A3j σ n j tt te J H1 λys H2=>∀p,H2 p=none->Q (.ref p) (upd H2 p (.lst ys))
section
variable {σ:St}
theorem C1d {elt iter:Expr}{x:Str}{px pos:Pos}{ifs:List Expr}{scope:Scope}{N':List Str}{j:Nat}{tt:CA->TT}{te:CA->TE}{it:Addr}{fp:List Addr}{tn:Nat->Heap->Prop}{J:It}{Q:List V->Hp->Prop}
  {RR:Value->Addr->Result->Shared->Prop} {E:Value->Shared->Prop}
  (S:M7 X.N N' X.env.scope scope j x) (hc:X.calm=true)
  (ht:∀a:CA,PTs (M6 X scope N' a) ifs (tt a)) (he:∀a:CA,PE (M6 X scope N' a) elt (te a))
  (I:Inv X pins σ H s) (T:A3f X.prog X.w X.K (.Name x px) J fp it tn) (st:tn 0 s.heap) (f2:∀b∈fp,b6 X pins H b) (h:A3j σ N'.length j tt te J H Q)
  (hRR:∀(D C:Addr)(ys:List V)(H':Hp)(s':Shared)(m:Str->Option Value),s'.heap.Ns C m->Own X pins (upd H' D (.lst ys)) C->Inv X pins σ (upd H' D (.lst ys)) s'->H' D=none->Q ys H'->RR (.ref D) C (.ok .next) s') :
  wpAny (model X.prog X.w) X.A (newList []) (λacc s₃=>wpAny (model X.prog X.w) X.A (newFunctionEnv scope X.env.globals (U8 X.env.cells scope.names []) [] X.env.qual none .none (some X.env)) (λcenv s₄=>
   codeAny (model X.prog X.w) X.A (.compStart (.ListComp elt [⟨.Name x px,iter,ifs,0⟩] scope pos) 0 (.ref it) acc { cenv with scope:=relabel scope X.env }) (RR acc cenv.locals) s₄) E s₃) E s:=by
 refine wpAny_newObj_type (wpAny_newFunctionEnv S.cell (by intro y hy;simp at hy) (λh₁ hns₁ hsb₁=>?_) S.kind);dsimp only at hns₁ hsb₁ ⊢;generalize hH2:s.heap.push { cls:=.type "list",dict:=none,data:=.seq ([]:List Value).toArray }=H2 at hns₁ hsb₁ ⊢;have hC:H2.objs.size=s.heap.objs.size+1:=by rw[<-hH2,B3p]
 have hDC:s.heap.objs.size≠H2.objs.size:=by rw[hC];exact O0 (B3q _)
 have hCle:s.heap.objs.size<=H2.objs.size:=by rw[hC];exact A0z _
 have below:∀b,b<s.heap.objs.size->b≠H2.objs.size/\b≠s.heap.objs.size:=λb hb=>⟨by rw[hC];exact O0 (B9o hb),O0 hb⟩;have old:∀b o,s.heap.get? b=some o->h₁.get? b=some o:=λb o e=>hsb₁.extBut b o (below b (G6 e)).1 (M5 _ (hH2▸M5 _ e));have hacc:h₁.get? s.heap.objs.size=some { cls:=.type "list",data:=.seq ([]:List Value).toArray }:=hsb₁.extBut _ _ hDC (M5 _ (hH2▸R9 _ rfl));have fplt:∀b∈fp,b<s.heap.objs.size:=λb hb=>let ⟨_,e,_⟩:=T.obj 0 _ st b hb;G6 e;have hcells:∀y∈scope.names,y.2=.free->∃c,X.env.cells.lookup y.1=some c:=λy hy e=>I.ok.has y.1 (.inl (S.free y hy e));have sub:∀y c,(U8 X.env.cells scope.names []).lookup y=some c->X.env.cells.lookup y=some c:=B4k hcells (λy c e=>by cases e)
 let a:CA:=⟨s,H,H2.objs.size,fp⟩
 have ok:(M6 X scope N' a).Ok:=by
  refine⟨I.ok.mod,S.kind,I.ok.glob,I.ok.blt,hCle,λy z c e1 e2=>I.ok.inj y z c (sub y c e1) (sub z c e2),λy hy=>?_,λy c z=>?_,I.ok.hd,I.ok.frames,.inl rfl,λb hb=>⟨(below b (fplt b hb)).1,λy c e=>(f2 b hb).2.2.2.2.1 y c (sub y c e)⟩,I.bs,
   J1 I.ok.bsz I.sz,λb o e hb=>?_,λb hb z=>?_,I.stack,I.stkFree⟩
  ·exact A89 (A3i hy S.cell)
  ·cases z
  ·rcases (f2 b hb).2.2.2.1 with z | z
   ·exact I.ok.noex b o e z
   ·exact absurd (Q7 (G6 (I.ok.bs b o e).1) z) (Z8 _)
  ·rcases G1.mp (I.stkSub b z) with e | e
   ·exact (f2 b hb).2.1 e
   ·exact (f2 b hb).2.2.1 e
 have look:∀(h':Heap)(m':Str->Option Value),(∀y c,X.env.cells.lookup y=some c->∀v,s.heap.IsCell c v->h'.IsCell c v)->∀(i:Nat)(y:Str)(v:V),N'[i]?=some y->(S4 N'.length j σ)[i]?=some (some v)->
   Vis (relabel scope X.env) y->∃u,E1 v u/\B33 (compEnvC scope (U8 X.env.cells scope.names []) H2.objs.size X.env) h' m' y u:=by
  intro h' m' kc i y v e1 e2 e3;obtain⟨ne,e4⟩:=C1b e2;have e5:=S.sub i y ne e1;have hy:(y,NameKind.free)∈scope.names:=by
   rcases e3 with e3 | e3 | e3
   ·rcases S.only _ (A7b e3) rfl with z | z
    ·exact absurd (A3b S.nd e1 (by rw[S.at_];exact congrArg some z.symm)) ne
    ·exact absurd (R6 e1) z
   ·exact A3i (.inl e3) S.cell
   ·exact A3i (.inr e3) S.cell
  have kcell:X.env.scope.names.lookup y=some .cell:=S.free _ hy rfl;obtain⟨m0,hn0,hl0⟩:=I.loc;obtain⟨u,r,l⟩:=hl0 i y v e5 e4 (.inr (.inl kcell));refine⟨u,r,.inr ⟨?_,?_⟩⟩
  ·rcases e3 with e3 | e3 | e3
   ·rcases S.only _ (A7b e3) rfl with z | z
    ·exact absurd (A3b S.nd e1 (by rw[S.at_];exact congrArg some z.symm)) ne
    ·exact absurd (R6 e1) z
   ·exact .inl e3
   ·exact .inr e3
  ·rcases l with ⟨k,_⟩ | ⟨k,c,e,z⟩
   ·have k':X.env.scope.names.lookup y=some .local:=k;rw[kcell] at k';cases k'
   ·obtain⟨c',e'⟩:=A89 (cells:=X.env.cells) (cs:=[]) hy;have e'':=sub y c' e';rw[e] at e'';cases e'';exact⟨c,e',kc y c e _ z⟩
 have cellOld:∀y c,X.env.cells.lookup y=some c->∀v,s.heap.IsCell c v->h₁.IsCell c v:=λy c Y v zz232=>el2 zz232 λo ho hd=>⟨o,old c o ho,hd⟩;have fr0:∀b,s.heap.objs.size<=b->H b=none:=λb hb=>I.hok.fresh hb;have noPn:∀p,p∉(M6 X scope N' a).pn++([]:List (Addr×Obj)):=λp hp=>by simp at hp
 have I0:Inv (M6 X scope N' a) [] (S4 N'.length j σ) H { s with heap:=h₁,toks:=s.toks+([]:List (Str×Value)).length }:=by
  refine⟨ok,rfl,I.bare,Un.kept old,⟨_,hns₁,look h₁ _ cellOld⟩,λy c e=>?_,fr0 _ hCle,λy c e=>I.freeC y c (sub y c e),λp hp=>absurd hp (noPn p),I.hok.kept old,C9m (by rw[I.len];exact S.len)⟩;obtain⟨v,z⟩:=I.cell y c (sub y c e);exact⟨v,cellOld y c (sub y c e) v z⟩
 obtain⟨W,⟨m0,w0⟩,turn⟩:=h;have loop:∀s₃:Shared,s₃={ s with heap:=h₁,toks:=s.toks+([]:List (Str×Value)).length }->
   codeAny (model X.prog X.w) X.A (.compLoop (.ListComp elt [⟨.Name x px,iter,ifs,0⟩] scope pos) 0 (.ref it) (.ref s.heap.objs.size) (compEnvC scope (U8 X.env.cells scope.names []) H2.objs.size X.env)) (RR (.ref s.heap.objs.size) H2.objs.size) s₃:=by
  rintro s₃ rfl;refine C1c (λk s'=>∃(i:Nat)(ys:List V)(its:List Value)(n:Nat)(H':Hp),Inv (M6 X scope N' a) [] (S4 N'.length j σ) H' s'/\s'.heap.get? s.heap.objs.size=some { cls:=.type "list",data:=.seq its.toArray n }/\C6 ys its/\
   H' s.heap.objs.size=none/\tn i s'.heap/\(∀b∈fp,H' b=none)/\W i k ys H') ?_ m0
   ⟨0,[],[],0,H,I0,hacc,.nil,fr0 _ (E8 _),T.keep _ _ _ st λb hb o e=>old b o e,λb hb=>(f2 b hb).1,w0⟩
  rintro k s' ⟨i,ys,its,n,H',I',hD,rv,nD',st',fr',w'⟩ E';obtain⟨hz,hw⟩:=turn i k ys H' w';have ownD:Own (M6 X scope N' a) [] H' s.heap.objs.size:=⟨nD',hDC,E8 _,λy c e z=>by
   obtain⟨v,q⟩:=I.cell y c (sub y c e);exact absurd q.lt (by rw[z];exact Z8 _),λp hp=>absurd hp (noPn p)⟩
  have fpok:∀(pl:List (Addr×Obj))(H'':Hp),(∀b∈fp,H'' b=none)->(∀p∈pl,p.1∉fp)->∀b∈fp,b6 (M6 X scope N' a) pl H'' b:=λpl H'' hn hpl b hb=>
   ⟨hn b hb,(below b (fplt b hb)).1,λz=>by
    rcases G1.mp (I.stkSub b z) with e | e
    ·exact (f2 b hb).2.1 e
    ·exact (f2 b hb).2.2.1 e,.inl hb,λy c e=>(f2 b hb).2.2.2.2.1 y c (sub y c e),λp hp z=>by
    have hp':p∈pl:=by simpa using hp
    exact hpl p hp' (z▸hb)⟩
  have nDfp:s.heap.objs.size∉fp:=λz=>absurd (fplt _ z) (Z8 _);have pinD:∀p∈([(s.heap.objs.size,{ cls:=.type "list",data:=.seq its.toArray n })]:List (Addr×Obj)),s'.heap.get? p.1=some p.2/\H' p.1=none/\p.1≠(M6 X scope N' a).env.locals/\p.1∉(M6 X scope N' a).fs/\∀v,p.2.data≠.cell v:=λp hp=>by
   have e:p=(s.heap.objs.size,{ cls:=.type "list",data:=.seq its.toArray n }):=by simpa using hp
   subst e;refine⟨hD,nD',hDC,λz=>?_,λv z=>by cases z⟩;rcases G1.mp (I.stkSub _ z) with e | e
   ·exact absurd I.lt (by rw[<-e];exact Z8 _)
   ·exact I.nofs (E8 _) e
  have Ip:=I'.pins_of pinD;have hpl:∀p∈([(s.heap.objs.size,{ cls:=.type "list",data:=.seq its.toArray n })]:List (Addr×Obj)),p.1∉fp:=λp hp=>by
   have e:p=(s.heap.objs.size,{ cls:=.type "list",data:=.seq its.toArray n }):=by simpa using hp
   subst e;exact nDfp
  rcases hw with ⟨stop,q⟩ | ⟨go,N,hN,step⟩
  ·refine thn (T.done (M6 X scope N' a) rfl rfl rfl hc i _ s' _ H' E' Ip (fpok _ H' fr' hpl) st' stop) λr s4 zz233=>zz233.elim λhr I4=>?_;subst hr;have hD4:=(I4.pin (s.heap.objs.size,{ cls:=.type "list",data:=.seq its.toArray n }) (by simp)).1;have J4:Inv X pins σ H' s4:=I.call' (ch:=fp) I4.os I4.base I4.hok I4.bare λb hb=>⟨(f2 b hb).2.2.2.1,(f2 b hb).2.1,(f2 b hb).2.2.2.2.1,(f2 b hb).2.2.2.2.2⟩;obtain⟨m4,hn4,_⟩:=I4.loc;have hC4:H' H2.objs.size=none:=I4.free;exact hRR _ _ ys H' s4 m4 hn4 (I.own hCle (by rw[B7 (Ne.symm hDC)];exact hC4)) (J4.track (I.own (E8 _) nD') hD4 rv hz) nD' q
  ·refine thn (T.item (M6 X scope N' a) rfl rfl rfl hc i _ s' _ H' E' Ip (fpok _ H' fr' hpl) st' go) λr s5 zz234=>el2 zz234 λu hr h5=>?_;subst hr;refine thn h5 λY s6 zz235=>zz235.elim λxv zz236=>zz236.elim λH6 zz237=>zz237.elim λI6 zz238=>zz238.elim λr6 zz239=>zz239.elim λy6 zz240=>zz240.elim λst6 fr6=>?_;have I6':=I6.pinned (fpok _ H6 fr6 hpl) (T.obj _ _ st6);refine wpAny_assign_Name (B35 I6' S.nd S.at_ (.inl (lookup_relabel_local S.loc)) r6 (λs7 I7=>?_) (.inr (lookup_relabel_local S.loc)));have wk:∀(i:Nat) v,(S4 N'.length j σ)[i]?=some (some v)->((S4 N'.length j σ).set j (some xv))[i]?=some (some v):=λi v e=>by
    rw[v8 (Ne.symm (C1b e).1)];exact e
   refine wpAny_mono (ht a _ s7 _ H6 _ I7 (step xv H6 y6 a)) (λok s8 zz241=>el2 zz241 λH8 I8 q8=>?_) λY Y z=>z.elim;have tnk:∀{H9:Hp}{s9:Shared}{σ9:St},Inv (M6 X scope N' a) ([(s.heap.objs.size,{ cls:=.type "list",data:=.seq its.toArray n })]++A63 fp s6.heap) σ9 H9 s9->tn (i+1) s9.heap/\(∀b∈fp,H9 b=none)/\s9.heap.get? s.heap.objs.size=some { cls:=.type "list",data:=.seq its.toArray n }/\H9 s.heap.objs.size=none:=λ{H9 s9 σ9} I9=>by
    refine⟨T.keep _ _ _ st6 λb hb o e=>(I9.pin (b,o) (Y8 _ (Y8 _ (A64 hb e)))).1,λb hb=>?_,?_⟩
    ·obtain⟨o,e,d⟩:=T.obj _ _ st6 b hb;exact (I9.pin (b,o) (Y8 _ (Y8 _ (A64 hb e)))).2.1
    ·have z:=I9.pin (s.heap.objs.size,{ cls:=.type "list",data:=.seq its.toArray n }) (Y8 _ (B9f _ (by simp)));exact⟨z.1,z.2.1⟩
   cases ok with
   | false=>obtain⟨m',hm,w8⟩:∃m',m'<k/\W (i+1) m' ys H8:=hN _ _ (by simpa using q8);obtain⟨t1,t2,t3,t4⟩:=tnk I8;exact⟨m',hm,i+1,ys,its,n,H8,(I8.pins_of (pins':=[]) λp hp=>nomatch hp).weak (by rw[S3]) wk,t3,rv,t4,t1,t2,w8⟩
   | true=>have q8':=q8;simp only[if_true] at q8';refine wpAny_mono (he a _ s8 _ H8 _ I8 q8') (λu9 s9 zz242=>el5 zz242 λv9 H9 I9 r9 q9=>?_) λY Y z=>z.elim;obtain⟨m',hm,w9⟩:=hN _ _ q9;obtain⟨t1,t2,t3,t4⟩:=tnk I9;have hl:=rv.length;refine append_at (hsz:=by show its.toArray.size<=sizeLine;rw[Q2,<-hl];exact hz) t3 λh' hs' hD'=>?_;have J9:=((I9.pins_of (pins':=[]) λp hp=>nomatch hp).weak (σ':=S4 N'.length j σ) (by rw[S3]) wk).own_turn (C:=s.heap.objs.size) ⟨t4,ownD.ne,ownD.ab,ownD.ce,ownD.pi⟩ hs';refine⟨m',hm,i+1,ys++[v9],its++[u9],n+1,H9,J9,?_,C6.append rv (.cons r9 .nil),t4,T.keep _ _ _ t1 λb hb o e=>(hs'.2 b λz=>nDfp (z▸hb)).trans e,t2,w9⟩;rw[List.push_toArray] at hD';exact hD'
 exact codeAny_compStart_list (loop _ rfl) (T.self _ 0 _ _ _ (T.keep _ _ _ st λb hb o e=>old b o e) (loop _ rfl))
theorem S1 {elt iter:Expr}{x:Str}{px pos:Pos}{ifs:List Expr}{scope:Scope}{N':List Str}{j:Nat}{wi:TI}{tt:CA->TT}{te:CA->TE}{osc:Scope}{N:List Str}
  (S:M7 N N' osc scope j x) (hc:X.calm=true) (hi:PI X (.Name x px) iter wi) (ht:∀a:CA,PTs (M6 X scope N' a) ifs (tt a)) (he:∀a:CA,PE (M6 X scope N' a) elt (te a))
  (ho:autoParam (X.env.scope=osc) RF._auto_1) (hN:autoParam (X.N=N) RF._auto_1) (hs:autoParam (∀x,foldedSetIterable iter X.env x=pure x) A2P._auto_1):PE X (.ListComp elt [⟨.Name x px,iter,ifs,0⟩] scope pos) (A7c wi N'.length j tt te):=by
 subst ho hN;intro pins s σ H Q I h;rw[eval_ListComp];have hcells:∀y∈scope.names,y.2=.free->∃c,X.env.cells.lookup y.1=some c:=λy hy e=>I.ok.has y.1 (.inl (S.free y hy e));refine wpAny_comprehension_free (use:=none) rfl hs (B4j hcells) S.kind S.names (wpAny_mono (hi pins s σ H _ I h) (λxv s₁ h₁=>wpAny_mono h₁ (λitv s₂ h₂=>?_) λY Y e=>e) λY Y e=>e);obtain⟨it,fp,tn,J,H2,rfl,I2,T,st2,f2,q2⟩:=h₂;refine C1d (RR:=λacc C=>compPost (model X.prog X.w) X.A X.xe none (EP X pins σ Q) acc C) S hc ht he I2 T st2 f2 q2 ?_;intro D C ys H' s' m hn own I' hD q;refine⟨m,hn,λh' hs'=>⟨.ref D,_,I'.own_turn own hs',rfl,q D hD⟩⟩
set_option tactic.hygienic true in
theorem A9a {elt iter:Expr}{x y:Str}{px pos py spos:Pos}{ifs:List Expr}{scope:Scope}{N':List Str}{j i:Nat}{wi:TI}{tt:CA->TT}{te:CA->TE}{osc:Scope}{N:List Str}
  (nd:X.N.Nodup) (hi':X.N[i]?=some y) (hy:Loc X.env.scope y)
  (S:M7 N N' osc scope j x) (hc:X.calm=true) (hi:PI X (.Name x px) iter wi) (ht:∀a:CA,PTs (M6 X scope N' a) ifs (tt a)) (he:∀a:CA,PE (M6 X scope N' a) elt (te a))
  (hsw:autoParam (swapsWith (.ListComp elt [⟨.Name x px,iter,ifs,0⟩] scope pos) (some (.Name y py)) spos.line X.env=pure true) RF._auto_1)
  (hf:autoParam (X.fn y=true\/X.env.scope.names.lookup y=some .local) A0P._auto_1)
  (ho:autoParam (X.env.scope=osc) RF._auto_1) (hN:autoParam (X.N=N) RF._auto_1) (hs:autoParam (∀x,foldedSetIterable iter X.env x=pure x) A2P._auto_1) :
  PS X (.Assign [.Name y py] (.ListComp elt [⟨.Name x px,iter,ifs,0⟩] scope pos) spos) (λD σ H=>A7c wi N'.length j tt te σ H λv H1=>D.nx (σ.set i (some v)) H1):=by
 subst ho hN;intro pins s σ H D I h;have hcells:∀y∈scope.names,y.2=.free->∃c,X.env.cells.lookup y.1=some c:=λy hy e=>I.ok.has y.1 (.inl (S.free y hy e));rw[exec_Assign_Name_used _ _ _ _ hsw];refine wpAny_bind (wpAny_standAt (wpAny_bind ?_));show wpAny _ X.A (do let _ <-comprehension (.ListComp elt [⟨.Name x px,iter,ifs,0⟩] scope pos) scope X.env _ (newList []) false (eval iter X.env) (some (assign (.Name y py) X.env))) _ _ s;refine wpAny_bind (wpAny_mono (wpAny_comprehension_free (use:=some (assign (.Name y py) X.env)) (Q:=λY s'=>SP X pins D .next s') rfl hs (B4j hcells) S.kind S.names
  (wpAny_mono (hi pins s σ H _ I h) (λxv s₁ h₁=>wpAny_mono h₁ (λitv s₂ h₂=>?_) λY Y e=>e) λY Y e=>e)) (λY s' hq=>wpAny_pure (wpAny_pure hq)) λY Y e=>e)
 obtain⟨it,fp,tn,J,H2,rfl,I2,T,st2,f2,q2⟩:=h₂;refine C1d (RR:=λacc C=>compPost (model X.prog X.w) X.A X.xe (some (assign (.Name y py) X.env)) (λY s'=>SP X pins D .next s') acc C) S hc ht he I2 T st2 f2 q2 ?_;intro Da C ys H' s' m hn own I' hD q;show wpAny _ X.A (assign (.Name y py) X.env (.ref Da)) _ _ _;refine wpAny_assign_Name (B34 (v:=V.ref Da) I' nd hi' hy rfl (λs2 I2' hsb=>?_) hf);obtain⟨b,hs2,hb⟩:=hsb;have hCb:C≠b:=by
  rcases hb with rfl | hb
  ·exact own.ne
  ·exact λz=>own.ce _ _ hb z.symm
 refine⟨m,hn.sameBut hs2 hCb,λh' hs'=>⟨_,_,I2'.own_turn own hs',q Da hD⟩⟩
end
theorem B4l {lo:Int}{n nn j:Nat}{σ:St}{tt:CA->TT}{te:CA->TE}{H1:Hp}{Q:List V->Hp->Prop}(Pv:Nat->List V->Hp->Prop)(hz:n<sizeLine)(h0:Pv 0 [] H1)(hl:∀i ys H,i<=n->Pv i ys H->ys.length<=i)
  (hs:∀i ys H,i<n->Pv i ys H->∀a:CA,tt a ((S4 nn j σ).set j (some (.int (lo+i)))) H λb H2=>if b=true then te a ((S4 nn j σ).set j (some (.int (lo+i)))) H2 λy H3=>Pv (i+1) (ys++[y]) H3 else Pv (i+1) ys H2)
  (hd:∀ys H,Pv n ys H->Q ys H):A3j σ nn j tt te (Itr lo n) H1 Q:=by
 refine⟨λi m ys H=>m=n-i/\i<=n/\Pv i ys H,⟨n,by simp,P5 _,h0⟩,?_⟩;rintro i m ys H ⟨rfl,hi,p⟩;have hy:=hl i ys H hi p;refine⟨by omega,?_⟩;by_cases hlt:i<n
 ·refine .inr ⟨hlt,Pv (i+1),λys' H' p'=>⟨n-(i+1),by omega,rfl,hlt,p'⟩,λx H' y=>?_⟩;obtain⟨e,e2⟩:=y;subst e e2;exact hs i ys _ hlt p
 ·have e:i=n:=by omega
  subst e;exact .inl ⟨E8 _,hd ys H p⟩
theorem A7d {K:A8}{a0:Addr}{xs:List V}{nn j:Nat}{σ:St}{tt:CA->TT}{te:CA->TE}{H1:Hp}{Q:List V->Hp->Prop}(Pv:Nat->List V->Hp->Prop)(hz:xs.length<sizeLine)(h0:Pv 0 [] H1)
  (hl:∀i ys H,i<=xs.length->Pv i ys H->ys.length<=i/\SqL K H a0 xs)
  (hs:∀i x ys H,xs[i]?=some x->Pv i ys H->∀a:CA,tt a ((S4 nn j σ).set j (some x)) H λb H2=>if b=true then te a ((S4 nn j σ).set j (some x)) H2 λy H3=>Pv (i+1) (ys++[y]) H3 else Pv (i+1) ys H2)
  (hd:∀ys H,Pv xs.length ys H->Q ys H):A3j σ nn j tt te (Itl K a0) H1 Q:=by
 refine⟨λi m ys H=>m=xs.length-i/\i<=xs.length/\Pv i ys H,⟨xs.length,by simp,P5 _,h0⟩,?_⟩;rintro i m ys H ⟨rfl,hi,p⟩;obtain⟨hy,q⟩:=hl i ys H hi p;refine⟨by omega,?_⟩;by_cases hlt:i<xs.length
 ·refine .inr ⟨⟨xs,xs[i],q,by simp [hlt]⟩,Pv (i+1),λys' H' p'=>⟨xs.length-(i+1),by omega,rfl,hlt,p'⟩,λx H' y=>?_⟩;obtain⟨e,y⟩:=y;subst e;exact hs i x ys _ (y xs q) p
 ·have e:i=xs.length:=by omega
  subst e;exact .inl ⟨⟨xs,q,E8 _⟩,hd ys H p⟩
def B4m (_ j:Int):Prop:=0<j/\j<100000000000000000000000000000000000000000000000000000000000000
theorem B4n:OpR X (binaryOp .FloorDiv) (rI B4m λi j=>.int (i/j)):=opI λi j J J J J J hc q=>by
 have h1:(0:Int)<j:=hc.1;have h2:j<2^250:=Int.lt_trans hc.2 (DD);refine floordiv_int (by omega) (by rw[Int.fdiv_eq_ediv_of_nonneg i (by omega)];exact q) (.inl (PyProof.noPylong_of_log2 ?_));have h3:j.natAbs<2^250:=by
  have:((j.natAbs:Nat):Int)<((2^250:Nat):Int):=by
   rw[Int.natAbs_of_nonneg (Int.le_of_lt h1)];exact h2
  exact Int.ofNat_lt.mp this
 have h4:j.natAbs≠0:=by omega
 exact Nat.lt_trans ((Nat.log2_lt h4).mpr h3) (DD)
theorem C1e:∀{bs:List Bool}{us:List Value},C6 (bs.map V.bl) us->LSm.BoolsAre us bs
 | [],_,.nil=>.nil
 | b::bs,_,.cons r t=>by
  cases (show _=Value.bool b from r);exact .cons b (C1e t)
theorem C1f (hc:X.calm=true):V5 X (.builtin "all") (λxs H Q=>∃(p:Addr)(bs:List Bool),xs=[.ref p]/\SqL X.K H p (bs.map V.bl)/\Q (.bl (bs.all id)) H):=by
 intro pins s σ H xs us Q I r h;obtain⟨p,bs,rfl,hq,q⟩:=h;obtain⟨u,rfl,rx⟩:=V7 r;cases rx;obtain⟨its,rv,pl,hz⟩:=I.list hq;have hb:=C1e rv;have hl:=pl.isList;have hlt:p<s.heap.objs.size:=by obtain⟨_,e,_⟩:=hl;exact G6 e
 refine call_all_walk (wpAny_pyIter_list hl ?_);refine⟨s.heap.objs.size,[s.heap.objs.size,p],[s.heap.objs.size],its.toArray.size,_,_,λi=>(bs[i]?).getD true,rfl,Walks.list (A:=X.A.in1) (I.ok.hd hc) _ p (O0 hlt) its.toArray,
  ⟨⟨_,R9 _ rfl,rfl,rfl⟩,hl.push _⟩,λi v s' Q' E' hP hQ=>?_,λh' tk hk=>?_⟩
 ·obtain⟨b,e,rfl⟩:=hb.get i v (by simpa using hP);simp only[e,Option.getD_some] at hQ;exact wpAny_truthy_bool hQ
 ·have e:((T5 its.toArray.size).all λi=>(bs[i]?).getD true)=bs.all id:=by
   rw[Q2,hb.length];exact LSm.range_all bs
  rw[e];exact⟨.bl _,H,I.kept (t':=tk) (LSm.kept_iter hk),rfl,q⟩
theorem C9n:V5 X (.builtin "isinstance") (λxs H Q=>∃x cv c t b,xs=[x,cv]/\E1 cv c/\n8 X.K H x t/\A0y X.K t c=some b/\Q (.bl b) H):=by
 intro pins s σ H xs us Q I r h;obtain⟨x,cv,c,t,b,rfl,rc,ty,k,q⟩:=h;obtain⟨u,w',rfl,r1,r2⟩:=B07 r;have e:w'=c:=by
  cases cv with
  | non=>exact r2.trans rc.symm
  | bl y=>exact r2.trans rc.symm
  | ref y=>exact r2.trans rc.symm
  | ty y=>exact r2.trans rc.symm
  | int y=>obtain⟨t1,rfl⟩:=rc;exfalso;unfold A0y A6s at k;cases ty <;> simp at k
  | str y=>obtain⟨t1,rfl⟩:=rc;exfalso;unfold A0y A6s at k;cases ty <;> simp at k
  | byt y=>obtain⟨t1,rfl⟩:=rc;exfalso;unfold A0y A6s at k;cases ty <;> simp at k
  | flt y=>obtain⟨t1,rfl⟩:=rc;exfalso;unfold A0y A6s at k;cases ty <;> simp at k
 subst e;exact C0m I r1 ty k λtk=>⟨.bl b,H,I.tok tk,rfl,q⟩
mutual
inductive y9 (K:A8)(H:Hp):V->PyData->Prop
 | non:y9 K H .non .none
 | bl (b):y9 K H (.bl b) (.bool b)
 | int (i):y9 K H (.int i) (.int i)
 | str (x):y9 K H (.str x) (.str x)
 | lst {a xs ds}:SqL K H a xs->A05 K H xs ds->y9 K H (.ref a) (.list ds)
 | tup {a xs ds}:SqT K H a xs->A05 K H xs ds->y9 K H (.ref a) (.tuple ds)
inductive A05 (K:A8)(H:Hp):List V->List PyData->Prop
 | nil:A05 K H [] []
 | cons {x xs d ds}:y9 K H x d->A05 K H xs ds->A05 K H (x::xs) (d::ds)
end
section
variable {σ:St}
theorem dv_ind {K:_}{H:Hp}{m1:V->PyData->Prop}{m2:List V->List PyData->Prop}(c1:m1 .non .none)(c2:∀b,m1 (.bl b) (.bool b))(c3:∀i,m1 (.int i) (.int i))(c4:∀x,m1 (.str x) (.str x))(c5:∀{a xs ds},SqL K H a xs->A05 K H xs ds->m2 xs ds->m1 (.ref a) (.list ds))(c6:∀{a xs ds},SqT K H a xs->A05 K H xs ds->m2 xs ds->m1 (.ref a) (.tuple ds))(c8:m2 [] [])(c9:∀{x xs d ds},y9 K H x d->A05 K H xs ds->m1 x d->m2 xs ds->m2 (x::xs) (d::ds)):(∀{v d},y9 K H v d->m1 v d)/\∀{vs ds},A05 K H vs ds->m2 vs ds:=
 ⟨λt=>y9.rec (motive_1:=λv d J=>m1 v d) (motive_2:=λv d J=>m2 v d) c1 c2 c3 c4 c5 c6 c8 c9 t,λt=>A05.rec (motive_1:=λv d J=>m1 v d) (motive_2:=λv d J=>m2 v d) c1 c2 c3 c4 c5 c6 c8 c9 t⟩
theorem dv_reads (I:Inv X pins σ H s):(∀{x d},y9 X.K H x d->∀u,E1 x u->∃as,Reads s.heap u d as)/\∀{xs ds},A05 X.K H xs ds->∀us,C6 xs us->∃as,ReadsAll s.heap us ds as:=dv_ind (m1:=λx d=>∀u,E1 x u->∃as,Reads s.heap u d as) (m2:=λxs ds=>∀us,C6 xs us->∃as,ReadsAll s.heap us ds as) (λJ r=>by cases r;exact⟨_,.none⟩) (λb J r=>by cases r;exact⟨_,.bool b⟩) (λi J r=>by obtain⟨t,rfl⟩:=r;exact⟨_,.int i t⟩) (λx J r=>by obtain⟨t,rfl⟩:=r;exact⟨_,.str x t⟩) (λhq J hs J r=>by cases r;obtain⟨its,rv,pl,hz⟩:=I.list hq;obtain⟨as,ra⟩:=hs _ rv;obtain⟨o,e,c,n,d⟩:=pl.isList;exact⟨_,.list e c d (by simpa using ra)⟩) (λhq J hs J r=>by cases r;obtain⟨its,rv,pl,hz⟩:=I.tuple hq;obtain⟨as,ra⟩:=hs _ rv;obtain⟨o,e,c,n,d⟩:=pl;exact⟨_,.tuple e c d (by simpa using ra)⟩) (λJ r=>by cases r;exact⟨_,.nil⟩) λJ J h t J r=>by
 cases r with
 | cons r rs=>obtain⟨as,ra⟩:=h _ r;obtain⟨bs,rb⟩:=t _ rs;exact⟨_,.cons ra rb⟩
theorem y9.reads (I:Inv X pins σ H s){x:V}{d:PyData}{u:Value}(t:y9 X.K H x d)(r:E1 x u):∃as,Reads s.heap u d as:=(dv_reads I).1 t u r
theorem A05.reads (I:Inv X pins σ H s){xs:List V}{ds:List PyData}{us:List Value}(t:A05 X.K H xs ds)(r:C6 xs us):∃as,ReadsAll s.heap us ds as:=(dv_reads I).2 t us r
end
def B1g (K:A8)(neg:Bool):R2:=λx y H Q=>∃da db,y9 K H x da/\y9 K H y db/\da.canLay0=true/\db.canLay0=true/\min da.depth db.depth<=64/\Q (.bl (if neg then !PyData.eqv da db else PyData.eqv da db)) H
theorem B4o (hu:X.A.units+64<cLine):OpR X (compareOp .Eq) (B1g X.K false):=by
 intro pins s σ H x y v u Q I rx ry h;obtain⟨da,db,d1,d2,c1,c2,hd,q⟩:=h;obtain⟨as,ra⟩:=d1.reads I rx;obtain⟨bs,rb⟩:=d2.reads I ry;exact SeqAt.compareEq_reads ra rb c1 c2 (by omega) ⟨.bl _,H,I,rfl,q⟩
theorem B1h (hu:X.A.units+64<cLine):OpR X (compareOp .NotEq) (B1g X.K true):=by
 intro pins s σ H x y v u Q I rx ry h;obtain⟨da,db,d1,d2,c1,c2,hd,q⟩:=h;obtain⟨as,ra⟩:=d1.reads I rx;obtain⟨bs,rb⟩:=d2.reads I ry;exact SeqAt.compareNe_reads ra rb c1 c2 (by omega) ⟨.bl _,H,I,rfl,q⟩
theorem C1g:B96 X (λo i H Q=>∃p xs j v,o=.ref p/\i=.int j/\0<=j/\SqL X.K H p xs/\atI xs j=some v/\Q v H):=by
 intro pins s σ H o i ov iv Q I r1 r2 h;obtain⟨p,xs,j,v,rfl,rfl,h0,hq,he,q⟩:=h;cases r1;obtain⟨t,rfl⟩:=r2;obtain⟨its,r,pl,hz⟩:=I.list hq;obtain⟨k,h1,h2,h3,h4,h5⟩:=B1c he;obtain⟨w,ew,rw'⟩:=r.get h2;have hl:=r.length;have hn:=A4v;have hj:j.toNat=k:=by
  rw[seqIndex_of h0 h5] at h1;exact Option.some.inj h1
 exact wpAny_getItem_list pl.isList h0 (by omega) (by rw[hj];simpa using ew) ⟨v,H,I,rw',q⟩
theorem K5 {st:Stmt}{t:TS}(h:PS X st t):PS X st (λD σ H=>∃M:St->Hp->Prop,t { D with nx:=M } σ H/\∀σ' H',M σ' H'->D.nx σ' H'):=by
 intro pins s σ H D I q;obtain⟨M,q1,q2⟩:=q;refine thn (h pins s σ H _ I q1) λf s' z=>?_;cases f with
 | next=>obtain⟨σ',H',I',m⟩:=z;exact⟨σ',H',I',q2 _ _ m⟩
 | brk=>exact z
 | cont=>exact z
 | ret v=>exact z
theorem A1t:bootBuiltins "list" = some (.type "list"):=by decide +kernel
theorem C1h:bootBuiltins "abs" = some (.builtin "abs"):=by decide +kernel
theorem A1u:bootBuiltins "min" = some (.builtin "min"):=by decide +kernel
theorem A41:bootBuiltins "max" = some (.builtin "max"):=by decide +kernel
theorem A9b:bootBuiltins "isinstance" = some (.builtin "isinstance"):=by decide +kernel
theorem A9c:bootBuiltins "int" = some (.type "int"):=by decide +kernel
theorem C9o:bootBuiltins "bool" = some (.type "bool"):=by decide +kernel
theorem C1i:bootBuiltins "all" = some (.builtin "all"):=by decide +kernel
theorem C9p:bootBuiltins "tuple" = some (.type "tuple"):=by decide +kernel
theorem B4p:bootBuiltins "sorted" = some (.builtin "sorted"):=by decide +kernel
theorem V9:bootBuiltins "len" = some (.builtin "len"):=by decide +kernel
theorem A06:bootBuiltins "str" = some (.type "str"):=by decide +kernel
theorem C9q:bootBuiltins "enumerate" = some (.type "enumerate"):=by decide +kernel
section
variable {es:List Expr}{env:Env}
theorem E6 {c j p}:starEach (.Constant c j p::es) env=(false,eval (.Constant c j p) env)::starEach es env:=by rfl
theorem A0 {c p}:starEach (.Name c p::es) env=(false,eval (.Name c p) env)::starEach es env:=by rfl
theorem E9 {a o b p}:starEach (.BinOp a o b p::es) env=(false,eval (.BinOp a o b p) env)::starEach es env:=by rfl
theorem C1j {o b p}:starEach (.UnaryOp o b p::es) env=(false,eval (.UnaryOp o b p) env)::starEach es env:=by rfl
theorem B1i {a o b p}:starEach (.Compare a o b p::es) env=(false,eval (.Compare a o b p) env)::starEach es env:=by rfl
theorem C0 {a o b p}:starEach (.Call a o b p::es) env=(false,eval (.Call a o b p) env)::starEach es env:=by rfl
theorem B0 {a o p}:starEach (.Subscript a o p::es) env=(false,eval (.Subscript a o p) env)::starEach es env:=by rfl
theorem O2 {a o p}:starEach (.Attribute a o p::es) env=(false,eval (.Attribute a o p) env)::starEach es env:=by rfl
theorem C1k {a p}:starEach (.List a p::es) env=(false,eval (.List a p) env)::starEach es env:=by rfl
theorem A42 {a k p}:starEach (.Tuple a k p::es) env=(false,eval (.Tuple a k p) env)::starEach es env:=by rfl
theorem C9r {a k p}:starEach (.Dict a k p::es) env=(false,eval (.Dict a k p) env)::starEach es env:=by rfl
theorem b7 {a b c p}:starEach (.ListComp a b c p::es) env=(false,eval (.ListComp a b c p) env)::starEach es env:=by rfl
theorem A2 {pos:Pos}:(backTo pos (starEach [] env)).any (·.1)=false:=by rfl
theorem A6 {pos:Pos}{e:Expr}(hs:starEach (e::es) env=(false,eval e env)::starEach es env)(h:(backTo pos (starEach es env)).any (·.1)=false):(backTo pos (starEach (e::es) env)).any (·.1)=false:=by
 rw[hs];exact h
end
section
variable {pos:Pos}
end
section
variable {σ:St}{h':Heap}
theorem Inv.turned2 {t':Nat}{e it:Addr}(I:Inv X pins σ H s)(k:∀b o,b≠e->b≠it->s.heap.get? b=some o->h'.get? b=some o)(fe:b6 X pins H e)(fi:b6 X pins H it):Inv X pins σ H { s with heap:=h',toks:=t' }:=by
 obtain⟨e0,e1,e2,e3,e4,e5⟩:=fe;obtain⟨f0,f1,f2,f3,f4,f5⟩:=fi;have nit:∀b u,H b=some u->b≠it:=λb u e z=>by rw[z,f0] at e;cases e
 have nie:∀b u,H b=some u->b≠e:=λb u q z=>by rw[z,e0] at q;cases q
 have kc:∀b o,b∉[e,it]->s.heap.get? b=some o->h'.get? b=some o:=λb o hc q=>k b o (λz=>hc (by simp [z])) (λz=>hc (by simp [z])) q;refine I.step (g':=s.gens) (d':=s.drawn) (ch:=[e,it]) (λb hb=>?_) (λb o J J hc e J=>kc b o hc e) (λb o J J hc e J=>⟨o.slots,kc b o hc e⟩) (λJ J J J n=>n)
  (λb o hc e=>⟨o,kc b o hc e⟩) (λJ J e=>e) (λJ J J e=>e) (λb ps e=>⟨#[],by rw[e];simp⟩) (λm hm=>?_) (λb u q=>?_) I.bare
 ·rcases G1.mp hb with z | z
  ·subst z;exact⟨e3,e1,e4,e5⟩
  ·have z':b=it:=by simpa using z
   subst z';exact⟨f3,f1,f4,f5⟩
 ·obtain⟨o,es,ep,ho,r⟩:=hm;exact⟨o,es,ep,k _ o (Ne.symm e1) (Ne.symm f1) ho,r⟩
 ·refine (I.hok b u q).stay (λc v hc z=>k c v ?_ ?_ z) (λJ z=>z) λJ J z=>z
  ·rcases hc with z | z
   ·rw[z];exact nie b u q
   ·exact nie c _ z
  ·rcases hc with z | z
   ·rw[z];exact nit b u q
   ·exact nit c _ z
end
def Ite (K:A8)(a:Addr):It:=
 ⟨λi H=>∃xs x,SqL K H a xs/\xs[i]?=some x,λi H x H'=>∃p v,x=.ref p/\H p=none/\H'=upd H p (.tup [.int ((i:Nat):Int),v])/\∀xs,SqL K H a xs->xs[i]?=some v,λi H=>∃xs,SqL K H a xs/\xs.length<=i⟩
theorem C9s {P:Program}{w:World}{K:A8}{elts:List Expr} {x1} {tpos:Pos} (a e it:Addr) (hne:e≠it):A3f P w K (.Tuple elts x1 tpos) (Ite K a) [e,it] e (λi h=>(∃old,IsEnum h e it ((i:Nat):Int) old)/\h.IsListIter it a i) where
 mem:=by simp
 obj:=λi h st b hb=>by
  obtain⟨⟨old,h1⟩,h2⟩:=st;rcases G1.mp hb with z | z
  ·subst z;exact⟨_,h1,λv z=>by
    have z':Data.fields _=Data.cell v:=z;cases z'⟩
  ·have z':b=it:=by simpa using z
   subst z';obtain⟨o,e,c,d⟩:=h2;exact⟨o,e,λv z=>by rw[d] at z;cases z⟩
 keep:=λi h h' st k=>by
  obtain⟨⟨old,h1⟩,h2⟩:=st;exact⟨⟨old,k e (by simp) _ h1⟩,h2.at λo q=>k it (by simp) o q⟩
 item:=by
  intro X hP hw hK hc i pins s σ H E I hf st hg;subst hP hw hK;obtain⟨⟨old,st1⟩,st2⟩:=st;obtain⟨xs,x,hq,hx⟩:=hg;obtain⟨its,rv,p,hz⟩:=I.list hq;obtain⟨u,hu,ru⟩:=rv.get hx;have fe:=hf e (by simp);have fi:=hf it (by simp);have le:e<s.heap.objs.size:=G6 st1;have li:it<s.heap.objs.size:=by obtain⟨_,q,_⟩:=id st2;exact G6 q
  refine wpAny_pyNext_enum_item st1 st2 p.isList (x:=u) (by simpa using hu) hne λh' ho hit' hT hsz hk=>?_;refine⟨_,rfl,wpAny_letOwnedTupleGo_enum ho λh2 he2 hs2=>?_⟩;replace hs2:Heap.SameBut e h' h2:=hs2;have hn:H s.heap.objs.size=none:=I.hok.fresh (E8 _);have I1:Inv X pins σ (upd H s.heap.objs.size (.tup [.int ((i:Nat):Int),x])) { s with heap:=s.heap.push { cls:=.type "tuple",data:=.seq #[.int i s.toks,u] },toks:=s.toks }:=
   I.laid (λb o q=>M5 _ q) (E8 _) ⟨SZ (n:=2),[.int i s.toks,u],.cons ⟨_,rfl⟩ (.cons ru .nil),⟨_,R9 _ rfl,rfl,_,rfl⟩⟩
  have ge:∀b,b<s.heap.objs.size->b6 X pins H b->b6 X pins (upd H s.heap.objs.size (.tup [.int ((i:Nat):Int),x])) b:=λb hb f=>⟨by rw[B7 (O0 hb)];exact f.1,f.2⟩;have I2:=I1.turned2 (h':=h2) (t':=s.toks+1) (e:=e) (it:=it) (λb o n1 n2 q=>by
   rw[hs2.2 b n1];rcases Heap.get?_push_cases q with ⟨z,z2⟩ | q
   ·subst z z2;exact hT
   ·exact hk b o n1 n2 q) (ge e le fe) (ge it li fi)
  refine⟨.ref s.heap.objs.size,_,I2,rfl,⟨_,x,rfl,hn,rfl,λys hy=>by rw[I.list_inj hy hq];exact hx⟩,⟨⟨u,he2⟩,hit'.at λo q=>(hs2.2 it hne.symm).trans q⟩,λb hb=>?_⟩;rcases G1.mp hb with z | z
  ·subst z;exact (ge b le fe).1
  ·have z':b=it:=by simpa using z
   subst z';exact (ge b li fi).1
 done:=by
  intro X hP hw hK hc i pins s σ H E I hf st hg;subst hP hw hK;obtain⟨⟨old,st1⟩,st2⟩:=st;obtain⟨xs,hq,hx⟩:=hg;obtain⟨its,rv,p,hz⟩:=I.list hq;have hl:=rv.length;exact wpAny_pyNext_enum_end (I.ok.hd hc) st1 st2 p.isList (by simp;omega) λh' eb=>⟨rfl,I.turned2 (t':=s.toks) (λb o n1 n2 q=>eb b o n2 q) (hf e (by simp)) (hf it (by simp))⟩
 self:=λJ J J J J st h=>by
  obtain⟨⟨old,st1⟩,_⟩:=st;exact wpAny_pyIter_enum st1 h
def C1l (K:A8)(ta:TA):TI:=fun σ H R=>ta σ H λvs H1=>∃a,vs=[.ref a]/\(∃xs,SqL K H1 a xs)/\R (Ite K a) H1
theorem C1m {elts:List Expr} {x1} {tpos:Pos} {a:Expr} {ta:TA} {p pos:Pos} (hg:Gl X "enumerate") (hm:X.mg "enumerate" = none) (ha:PA X [a] ta) (hs:autoParam (starEach [a] X.env=[(false,eval a X.env)]) RF._auto_1):PI X (.Tuple elts x1 tpos) (.Call (.Name "enumerate" p) [a] [] pos) (C1l X.K ta):=by
 intro pins s σ H R I h;refine Call_ (A2d I hg hm C9q (PyProof.Rows.callWith_type1 (thn (ha pos pins s σ H _ I h) λus s1 zz244=>el5 zz244 λvs H1 I1 r1 q1=>?_) hs rfl));obtain⟨a',e,⟨xs,hq⟩,q⟩:=q1;subst e;obtain⟨u,rfl,rx⟩:=V7 r1;cases rx;obtain⟨its,rv,pl,hz⟩:=I1.list hq;refine call_enumerate_list pl.isList λh' he hit hsz hk=>?_;refine wpAny_pyIter_enum (s:={ s1 with heap:=h' }) he ?_;have I2:Inv X pins σ H1 { s1 with heap:=h' }:=I1.kept (t':=s1.toks) hk;refine⟨_,[s1.heap.objs.size+1,s1.heap.objs.size],_,_,H1,rfl,I2,C9s a' _ _ (A8s (B3q _)),⟨⟨.none,he⟩,hit⟩,λb hb=>?_,q⟩;rcases G1.mp hb with z | z
 ·subst z;exact I1.fpOk (A0z _) (I1.hok.fresh (A0z _))
 ·have z':b=s1.heap.objs.size:=by simpa using z
  subst z';exact I1.fpOk (E8 _) (I1.hok.fresh (E8 _))
theorem W9 {st:Stmt}:PS X st (λJ J J=>False):=λJ J J J J J h=>h.elim
section
variable {σ:St}
end
def C1n (K:A8):V->List V->Hp->VK->Prop:=λx vs H Q=>∃(l:Addr)(ns:List Int)(k:Int),x=.ref l/\vs=[.int k]/\SqL K H l (ns.map V.int)/\k∈ns/\ns.length<=100000/\Q (.int (ns.idxOf k:Nat)) H
theorem C1o:MtM X "list.index" (C1n X.K):=by
 intro pins s σ H x vs v us Q I rx rv h;obtain⟨l,ns,k,rfl,rfl,hq,hk,hn,q⟩:=h;cases rx;obtain⟨u,rfl,t,rfl⟩:=V7 rv;obtain⟨its,r,pl,hz⟩:=I.list hq;have hi:=C0y r;obtain⟨⟨cls,dd,data,sl⟩,ho,hc,n,hd⟩:=pl.isList;simp only at hc hd;subst hc hd;have hlen:=hi.length;have hj:ns.idxOf k<ns.length:=B3u.mpr hk;refine call_meets C67 ⟨_,ho,rfl⟩ PySem.F.entry_list_index (PySem.F.args_list_index_2 _ _)
  (SeqAt.list_indexAt l its.toArray n dd sl (.int k t) (isInt k) (ns.idxOf k) (by simpa [hlen] using hj) (by omega) ?_ ?_) ⟨ho,λy hy=>(eq_isInt k t hi y (by simpa using hy)).at _ _,⟨.int _,H,I.tok _,⟨_,rfl⟩,q⟩⟩
 ·show isInt k its[ns.idxOf k]=true;rw[isInt_at k hi _ (by omega) hj]
  simpa using C68 hj
 ·intro j hjs hlt;show isInt k its[j]=false;rw[isInt_at k hi j (by simpa using hjs) (by omega)];exact ne_of_lt_idxOf hlt _
inductive A9d (K:A8)(H:Hp):V->Value->Prop where
 | o {x:V} {t:Value}:n8 K H x t->A9d K H x t
 | f {a:Addr} {o:Obj} {kvs:List (List Key×V)}:H a=some (.frz o (.dT kvs))->A9d K H (.ref a) (.type "dict")
theorem B1j:V5 X (.builtin "isinstance") (λxs H Q=>∃x cv c t b,xs=[x,cv]/\E1 cv c/\A9d X.K H x t/\A0y X.K t c=some b/\Q (.bl b) H):=by
 intro pins s σ H xs us Q I r h;obtain⟨x,cv,c,t,b,rfl,rc,ty,k,q⟩:=h;obtain⟨u,w',rfl,r1,r2⟩:=B07 r;have e:w'=c:=by
  cases cv with
  | non=>exact r2.trans rc.symm
  | bl y=>exact r2.trans rc.symm
  | ref y=>exact r2.trans rc.symm
  | ty y=>exact r2.trans rc.symm
  | int y=>
   obtain⟨t1,rfl⟩:=rc;exfalso;unfold A0y A6s at k;cases ty with
   | o ty=>cases ty <;> simp at k
   | f e=>simp at k
  | str y=>
   obtain⟨t1,rfl⟩:=rc;exfalso;unfold A0y A6s at k;cases ty with
   | o ty=>cases ty <;> simp at k
   | f e=>simp at k
  | byt y=>
   obtain⟨t1,rfl⟩:=rc;exfalso;unfold A0y A6s at k;cases ty with
   | o ty=>cases ty <;> simp at k
   | f e=>simp at k
  | flt y=>
   obtain⟨t1,rfl⟩:=rc;exfalso;unfold A0y A6s at k;cases ty with
   | o ty=>cases ty <;> simp at k
   | f e=>simp at k
 subst e;cases ty with
 | o ty=>exact C0m I r1 ty k λtk=>⟨.bl b,H,I.tok tk,rfl,q⟩
 | @f a o kvs ea=>cases (show u=Value.ref a from r1);obtain⟨_,_,_,xs,_,o',es,ep,h1,h2,_⟩:=(show O7 X.prog X.w H s.heap a (.frz o (.dT kvs)) from I.hok a _ ea);exact A1l PySem.W.kitx_dict I.kIn ⟨o',h1,h2.1⟩ k (λz=>nomatch z) λtk=>⟨.bl b,H,I.tok tk,rfl,q⟩
theorem C6.rev:∀{xs:List V}{us:List Value},C6 xs us->C6 xs.reverse us.reverse
 | _,_,.nil=>.nil
 | _::xs,_::us,.cons r t=>by
  rw[B9p,B9p];exact (C6.rev t).append (.cons r .nil)
theorem C9t:typeLookup (.type "list_reverseiterator") "__len__" = pure none:=by
 rw[typeLookup_type,builtinLookup_eq_fast];kernel_rfl
theorem C9u:typeLookup (.type "list_reverseiterator") "__length_hint__" = pure (some (.builtin "list_reverseiterator.__length_hint__")):=by
 rw[typeLookup_type,builtinLookup_eq_fast];kernel_rfl
section
variable {w:World}{E:Value->Shared->Prop}
theorem C9v {r l:Addr}{i:Int}{Q:Bool->Shared->Prop}(hr:s.heap.IsRevIter r l i)(h:∀tk,Q false { s with toks:=tk }):wpAny (model prog w) A (Builtin.List.listLengthHint (.ref r)) Q E s:=by
 have hT:=hr.typeIs;unfold Builtin.List.listLengthHint;refine wpAny_bind (wpAny_specialOf hT C9t ?_);show wpAny _ A (specialOf (Value.ref r) (Str.ofString "__length_hint__") >>= _) _ _ _;refine wpAny_bind (wpAny_specialOf hT C9u ?_);generalize hid:("list_reverseiterator.__length_hint__" : String)=id0
 wp_delta
 rw[show splitId id0=some ("list_reverseiterator","__length_hint__") from by subst hid;decide +kernel];subst hid;refine wpAny_bind (wpAny_isInstance (b:=true) hT (by rw[isSubtype_type];kernel_rfl) ?_);exact wpAny_pure (h s.toks)
theorem C9w {r l:Addr}{items:Array Value}{Q:Value->Shared->Prop}(hh:A.handled=none)(hr:s.heap.IsRevIter r l ((items.size:Int)-1))(hl:s.heap.IsList l items)(hne:l≠r)(hz:items.size<=sizeLine)
  (hQ:∀(h':Heap)(tk:Nat)(acc:Array Value)(c:Nat),(∀b o,b≠r->s.heap.get? b=some o->h'.get? b=some o)->h'.get? s.heap.objs.size=some { cls:=.type "list",dict:=none,data:=.seq acc c,slots:=#[] }->
   ItemsOf (λi v=>items[items.size-1-i]?=some v) acc items.size->Q (.ref s.heap.objs.size) { s with heap:=h',toks:=tk }):wpAny (model prog w) A (call (.type "list") [.ref r]) Q E s:=by
 have rlt:r<s.heap.objs.size:=by obtain⟨_,q,_⟩:=hr;exact G6 q
 have llt:l<s.heap.objs.size:=by obtain⟨_,q,_⟩:=hl;exact G6 q
 refine callType_codes (Q₁:=λobj t=>obj=.ref s.heap.objs.size/\t={ s with heap:=s.heap.push { cls:=.type "list",data:=.seq #[] } }) F.called_list (F.typeCall_list_1 _) F.entry_list_init (code_list_new _ ⟨rfl,rfl⟩) λobj t ht=>?_;obtain⟨rfl,rfl⟩:=ht;have hS:(s.heap.push { cls:=.type "list",data:=.seq #[] }).get? s.heap.objs.size=some { cls:=.type "list",data:=.seq #[] }:=R9 _ rfl;refine⟨⟨_,hS,rfl⟩,F.args_list_init_2 _ _,?_⟩;generalize hh2:s.heap.push { cls:=.type "list",data:=.seq #[] }=h2 at hS;have old:∀b o,s.heap.get? b=some o->h2.get? b=some o:=λb o e=>hh2▸M5 _ e;have hSr:s.heap.objs.size≠r:=A8s rlt;have hSl:s.heap.objs.size≠l:=A8s llt;show wpAny _ _ (do let was <-Builtin.List.listItems (.ref s.heap.objs.size);Builtin.List.listUpdate (.ref s.heap.objs.size) (λJ=>#[]);letGo was.toList.reverse;Builtin.List.listExtendWith (.ref s.heap.objs.size) (.ref r) .none) _ _ _;refine wpAny_bind ?_;unfold Builtin.List.listItems;refine wpAny_bind (wpAny_seqItems hS rfl (wpAny_pure ?_));show wpAny _ _ (updateSeq s.heap.objs.size (λJ=>#[]) >>= λJ=>letGo (#[]:Array Value).toList.reverse >>= λJ=>Builtin.List.listExtendWith (.ref s.heap.objs.size) (.ref r) .none) _ _ _;refine wpAny_bind (wpAny_updateSeq hS rfl ?_);have hS3:=B9l (A6q (λJ=>(#[]:Array Value))) hS rfl;refine wpAny_bind (wpAny_letGo ?_);have oth:∀b o,b≠s.heap.objs.size->h2.get? b=some o->(h2.update s.heap.objs.size (A6q (λJ=>(#[]:Array Value)))).get? b=some o:=λb o n e=>(A6r _ _ (Ne.symm n)).trans e;generalize h2.update s.heap.objs.size (A6q (λJ=>(#[]:Array Value)))=h3 at hS3 oth;have old3:∀b o,s.heap.get? b=some o->h3.get? b=some o:=λb o e=>oth b o (O0 (G6 e)) (old b o e);have hr3:h3.IsRevIter r l ((items.size:Int)-1):=hr.at λo e=>old3 r o e;have hl3:h3.IsList l items:=hl.at λo e=>old3 l o e;have W:=(Walks.listRev (prog:=prog) (w:=w) (A:=A.in1.in1) hh r l hne items).toS;unfold Builtin.List.listExtendWith;refine wpAny_bind (wpAny_typeOf (T:= "list_reverseiterator") (s:={ s with heap:=h3 }) hr3.typeIs ?_);have z1:Builtin.List.listSameRef (.ref s.heap.objs.size) (.ref r)=false:=by simp [Builtin.List.listSameRef,hSr]
 rw[if_neg (by rw[z1];decide)];refine wpAny_bind (wpAny_pyIter_revIter (s:={ s with heap:=h3 }) hr3 ?_);refine wpAny_bind (wpAny_holding (C9v (s:={ s with heap:=h3 }) hr3 λtk=>?_));rw[if_neg (DD)];have nf:s.heap.objs.size∉[r,l]:=λq=>by
  rcases G1.mp q with e | e
  ·exact hSr e
  ·exact hSl (by simpa using e)
 have st0:0<=items.size/\h3.IsRevIter r l ((items.size:Int)-1-((0:Nat):Int))/\h3.IsList l items:=⟨P5 _,by simpa using hr3,hl3⟩;refine wpAny_pure ⟨plainId_quiet F.plain_extend_loop _,codeAny_extend_loopS W hz _ nf _ items.size 0 _ _ _ rfl (P5 _) st0 hS3 (ItemsOf.nil _) λs' acc c hm hS' hacc=>?_⟩;rw[Moved.eq_with hm];refine⟨rfl,hQ s'.heap s'.toks acc c (λb o n e=>hm.heap b o (λq=>?_) (old3 b o e)) hS' hacc⟩;rcases G1.mp q with z | z
 ·exact O0 (G6 e) z
 ·exact n (by simpa using z)
end
theorem C1p:bootBuiltins "reversed" = some (.type "reversed"):=by decide +kernel
theorem C9x {items:Array Value}{acc:Array Value}(h:ItemsOf (λi v=>items[items.size-1-i]?=some v) acc items.size):acc.toList=items.toList.reverse:=by
 have hl:acc.size=items.size:=h.1;apply List.ext_getElem?;intro i;by_cases c:i<items.size
 ·have ha:i<acc.size:=by omega
  have e:=h.2 i acc[i] (Array.getElem?_eq_getElem ha);rw[List.getElem?_reverse (by rw[A8r];exact c),A8r,B9q,B9q,Array.getElem?_eq_getElem ha];exact e.symm
 ·rw[A4p (by rw[A8r];omega),A4p (by rw[A6t,A8r];omega)]
theorem C9y {e:Expr}{te:TA}{p1 p2 p3 p4:Pos}(hg1:Gl X "list")(hm1:X.mg "list" = none)(hg2:Gl X "reversed")(hm2:X.mg "reversed" = none)(hc:X.calm=true)(he:PA X [e] te)(hs:autoParam (starEach [e] X.env=[(false,eval e X.env)]) RF._auto_1)
  (hs2:autoParam (starEach [.Call (.Name "reversed" p2) [e] [] p3] X.env=[(false,eval (.Call (.Name "reversed" p2) [e] [] p3) X.env)]) RF._auto_1):PE X (.Call (.Name "list" p1) [.Call (.Name "reversed" p2) [e] [] p3] [] p4)
   (fun σ H Q=>te σ H λvs H1=>∃a xs,vs=[.ref a]/\SqL X.K H1 a xs/\∀p,H1 p=none->Q (.ref p) (upd H1 p (.lst xs.reverse))):=by
 intro pins s σ H Q I h;refine Call_ (A2d I hg1 hm1 A1t (PyProof.Rows.callWith_type1 ?_ hs2 rfl));rw[hs2];show wpAny _ _ (spliced [(false,eval (.Call (.Name "reversed" p2) [e] [] p3) X.env)]) _ _ s;refine Calls.spliced_cons ?_;refine Call_ (A2d I hg2 hm2 C1p (PyProof.Rows.callWith_type1 (thn (he p3 pins s σ H _ I h) λus s1 zz271=>el5 zz271 λvs H1 I1 r1 q1=>?_) hs rfl));obtain⟨a,xs,rfl,hq,q⟩:=q1;obtain⟨u,rfl,rx⟩:=V7 r1;cases rx;obtain⟨its,rv,pl,hz⟩:=I1.list hq;have alt:a<s1.heap.objs.size:=by obtain⟨_,z,_⟩:=pl.isList;exact G6 z
 refine call_reversed_list pl.isList (Calls.spliced_nil ?_);have hr:(s1.heap.push (revObj a ((its.toArray.size:Int)-1))).IsRevIter s1.heap.objs.size a ((its.toArray.size:Int)-1):=⟨_,R9 _ rfl,rfl,rfl⟩;have hl2:(s1.heap.push (revObj a ((its.toArray.size:Int)-1))).IsList a its.toArray:=pl.isList.push _;have hsz:(s1.heap.push (revObj a ((its.toArray.size:Int)-1))).objs.size=s1.heap.objs.size+1:=B3p ..;refine C9w (s:={ s1 with heap:=s1.heap.push (revObj a ((its.toArray.size:Int)-1)) }) (I1.ok.hd hc) hr hl2 (O0 alt) (by rw[Q2,<-rv.length];exact hz) λh' tk acc c hk hS hacc=>?_;have eq:=C9x hacc;refine⟨.ref _,_,I1.laid (t':=tk) (o:=.lst xs.reverse) (λb o z=>hk b o (O0 (G6 z)) (M5 _ z)) (by show s1.heap.objs.size<=_;rw[hsz];exact A0z _) (show O7 X.prog X.w _ h' _ (.lst xs.reverse) from ⟨by rw[A6t];exact hz,acc.toList,c,?_,by simpa using hS⟩),rfl,q _ (I1.hok.fresh (by show s1.heap.objs.size<=_;rw[hsz];exact A0z _))⟩;rw[eq];exact C6.rev rv
def Itv (K:A8)(a:Addr)(n:Nat):It:=
 ⟨λi H=>∃xs x,SqL K H a xs/\xs.length=n/\xs.reverse[i]?=some x,λi H x H'=>H'=H/\∀xs,SqL K H a xs->xs.reverse[i]?=some x,λi J=>n<=i⟩
theorem C9z {P:Program}{w:World}{K:A8}{tg:Expr}(a it:Addr)(n:Nat):A3f P w K tg (Itv K a n) [it] it (λi h=>i<=n/\h.IsRevIter it a ((n:Int)-1-((i:Nat):Int))) where
 mem:=by simp
 obj:=λi h st b hb=>by
  have e:b=it:=by simpa using hb
  subst e;obtain⟨_,o,e,c,d⟩:=st;exact⟨o,e,λv z=>by rw[d] at z;cases z⟩
 keep:=λi h h' st k=>⟨st.1,st.2.at λo e=>k it (by simp) o e⟩
 item:=by
  intro X hP hw hK hc i pins s σ H E I hf st hg;subst hP hw hK;obtain⟨xs,x,hq,hn,hx⟩:=hg;obtain⟨its,rv,p,hz⟩:=I.list hq;have hil:i<n:=by
   have:=(A0h.mp hx).1;rw[A6t,hn] at this;exact this
  have hx':xs[n-1-i]?=some x:=by rw[List.getElem?_reverse (by omega),hn] at hx;exact hx
  obtain⟨u,hu,ru⟩:=rv.get hx';obtain⟨f0,f1,f2,f3,f4,f5⟩:=hf it (by simp);have ei:(n:Int)-1-((i:Nat):Int)=((n-1-i:Nat):Int):=by omega
  refine wpAny_pyNext_rev_item (i:=n-1-i) (by rw[<-ei];exact st.2) p.isList (x:=u) (by simpa using hu) λh' st' sb=>?_;have I1:Inv X pins σ H { s with heap:=h' }:=I.turned (t':=s.toks) (λb o hb e=>(sb.2 b hb).trans e) f0 f1 f3 f4 f5;obtain⟨o,e,c,d⟩:=id st';have ej:((n-1-i:Nat):Int)-1=(n:Int)-1-((i+1:Nat):Int):=by omega
  exact⟨u,rfl,B04 (s:={ s with heap:=h' }) e c d DD ⟨x,H,I1,ru,⟨rfl,λys hy=>by rw[I.list_inj hy hq];exact hx⟩,⟨hil,by rw[<-ej];exact st'⟩,λb hb=>(hf b hb).1⟩⟩
 done:=by
  intro X hP hw hK hc i pins s σ H E I hf st hg;subst hP hw hK;obtain⟨f0,f1,f2,f3,f4,f5⟩:=hf it (by simp);have e:i=n:=Nat.le_antisymm st.1 hg;have em:(n:Int)-1-((i:Nat):Int)=-1:=by omega
  exact wpAny_pyNext_rev_end (I.ok.hd hc) (by rw[<-em];exact st.2) λh' eb=>⟨rfl,I.turned (t':=s.toks) (λb o hb e=>eb b o hb e) f0 f1 f3 f4 f5⟩
 self:=λJ J J J J st h=>wpAny_pyIter_revIter st.2 h
def C1q (K:A8)(ta:TA):TI:=fun σ H R=>ta σ H λvs H1=>∃a xs,vs=[.ref a]/\SqL K H1 a xs/\R (Itv K a xs.length) H1
theorem C90 {tg a:Expr}{ta:TA}{p pos:Pos}(hg:Gl X "reversed")(hm:X.mg "reversed" = none)(ha:PA X [a] ta)(hs:autoParam (starEach [a] X.env=[(false,eval a X.env)]) RF._auto_1):PI X tg (.Call (.Name "reversed" p) [a] [] pos) (C1q X.K ta):=by
 intro pins s σ H R I h;refine Call_ (A2d I hg hm C1p (PyProof.Rows.callWith_type1 (thn (ha pos pins s σ H _ I h) λus s1 zz272=>el5 zz272 λvs H1 I1 r1 q1=>?_) hs rfl));obtain⟨a',xs,rfl,hq,q⟩:=q1;obtain⟨u,rfl,rx⟩:=V7 r1;cases rx;obtain⟨its,rv,pl,hz⟩:=I1.list hq;have en:((its.toArray.size:Nat):Int)-1=((xs.length:Nat):Int)-1:=by rw[Q2,<-rv.length]
 refine call_reversed_list pl.isList ?_;rw[en];have hr:(s1.heap.push (revObj a' ((xs.length:Int)-1))).IsRevIter s1.heap.objs.size a' ((xs.length:Int)-1):=⟨_,R9 _ rfl,rfl,rfl⟩;refine wpAny_pyIter_revIter (s:={ s1 with heap:=s1.heap.push (revObj a' ((xs.length:Int)-1)) }) hr ?_;refine⟨_,[s1.heap.objs.size],_,_,H1,rfl,I1.kept (t':=s1.toks) λb o e=>M5 _ e,C9z a' _ xs.length,⟨P5 _,by simpa using hr⟩,λb hb=>?_,q⟩;have e:b=s1.heap.objs.size:=by simpa using hb
 subst e;exact I1.fpOk (E8 _) (I1.hok.fresh (E8 _))
section
variable {σ:St}
end
structure A7e (N N':List Str)(osc scope:Scope)(x y u gg:Str):Prop where
 eqN:N'=N++[x,y,u,gg]
 nd:N'.Nodup
 kind:scope.kind=.function
 cell:∀z∈scope.names,z.2≠.cell
 names:∀z∈scope.names,z.2=.local->scope.names.lookup z.1=some .local
 only:∀z∈scope.names,z.2=.local->z.1=x\/z.1=y\/z.1=u\/z.1=gg\/z.1∉N'
 locx:scope.names.lookup x=some .local
 locy:scope.names.lookup y=some .local
 locu:scope.names.lookup u=some .local
 locg:scope.names.lookup gg=some .local
 free:∀z∈scope.names,z.2=.free->osc.names.lookup z.1=some .cell
def C1r (N:List Str)(osc scope:Scope)(x y u gg:Str):Bool:=
 decide (N++[x,y,u,gg]).Nodup&&decide (scope.kind=.function)&&(scope.names.lookup x == some .local)&&(scope.names.lookup y == some .local)&&(scope.names.lookup u == some .local)&&(scope.names.lookup gg == some .local)&&
  scope.names.all λz=>match z.2 with
   | .cell=>false
   | .local=>scope.names.lookup z.1 == some .local&&(z.1 == x||(z.1 == y||(z.1 == u||(z.1 == gg||!((N++[x,y,u,gg]).contains z.1)))))
   | .free=>osc.names.lookup z.1 == some .cell
   | _=>true
theorem A7e.new {N:List Str}{osc scope:Scope}{x y u gg:Str}(h:C1r N osc scope x y u gg=true):A7e N (N++[x,y,u,gg]) osc scope x y u gg:=by
 unfold C1r at h;simp only[X6,decide_eq_true_eq,B9m,beq_iff_eq] at h;obtain⟨⟨⟨⟨⟨⟨h1,h2⟩,h3⟩,h4⟩,h4'⟩,h4''⟩,h5⟩:=h;refine⟨rfl,h1,h2,λy hy e=>?_,λy hy e=>?_,λy hy e=>?_,h3,h4,h4',h4'',λy hy e=>?_⟩
 ·have:=h5 y hy;rw[e] at this;cases this
 ·have:=h5 y hy;rw[e] at this;simp only[X6,beq_iff_eq] at this;exact this.1
 ·have:=h5 y hy;rw[e] at this;simp only[X6,A8v,beq_iff_eq,B9n,List.contains_eq_mem,decide_eq_false_iff_not] at this;exact this.2
 ·have:=h5 y hy;rw[e] at this;simp only[beq_iff_eq] at this;exact this
def z4 (σ:St):St:=σ++[none,none,none,none]
theorem C1s {i:Nat}{σ:St}{v:V}(h:(z4 σ)[i]?=some (some v)):i<σ.length/\σ[i]?=some (some v):=by
 unfold z4 at h;by_cases hi:i<σ.length
 ·rw[A26 hi] at h;exact⟨hi,h⟩
 ·rw[k0 (by omega)] at h
  match q:i-σ.length with
  | 0=>rw[q] at h;cases h
  | 1=>rw[q] at h;cases h
  | 2=>rw[q] at h;cases h
  | 3=>rw[q] at h;cases h
  | n+4=>rw[q] at h;simp at h
def B4q (K:A8)(σ:St)(tt:CA->TT)(te:CA->TE)(J:It)(H1:Hp)(Q:List V->Hp->Prop):Prop:=
 ∃W:Nat->Nat->List V->Hp->Prop,(∃m,W 0 m [] H1)/\∀i m ys H,W i m ys H->ys.length<=sizeLine/\
  ((J.stop i H/\Q ys H)\/(J.go i H/\∃N:List V->Hp->Prop,(∀ys' H',N ys' H'->∃m',m'<m/\W (i+1) m' ys' H')/\
   ∀x H',J.yld i H x H'->∀a:CA,∃p v1 v2 v3 v4,x=.ref p/\SqT K H' p [v1,v2,v3,v4]/\tt a (σ++[some v1,some v2,some v3,some v4]) H' λb H2=>if b=true then te a (σ++[some v1,some v2,some v3,some v4]) H2 λy H3=>N (ys++[y]) H3 else N ys H2))
def C91 (K:A8)(wi:TI)(tt:CA->TT)(te:CA->TE):TE:=fun σ H Q=>wi σ H λJ H1=>B4q K σ tt te J H1 λys H2=>∀p,H2 p=none->Q (.ref p) (upd H2 p (.lst ys))
section
variable {σ:St}
theorem C92 {N':List Str}{scope:Scope}{x y u gg:Str}{px py pu pg pt:Pos} {kt} (S:A7e X.N N' X.env.scope scope x y u gg) (hc:X.calm=true) (a:CA) :
  PG (M6 X scope N' a) (.Tuple [.Name x px,.Name y py,.Name u pu,.Name gg pg] kt pt) (B03 X.K 4 (A02 (G3 X.N.length) (A02 (G3 (X.N.length+1)) (A02 (G3 (X.N.length+2)) (A02 (G3 (X.N.length+3)) B02))))):=by
 have qx:N'[X.N.length]?=some x:=by rw[S.eqN,k0 (E8 _)];simp
 have qy:N'[X.N.length+1]?=some y:=by rw[S.eqN,k0 (A0z _)];simp
 have qu:N'[X.N.length+2]?=some u:=by rw[S.eqN,k0 (by omega)];simp
 have qg:N'[X.N.length+3]?=some gg:=by rw[S.eqN,k0 (by omega)];simp
 exact A4s (X:=M6 X scope N' a) (n:=4) hc (T1 (O8 S.nd qx (.inl (lookup_relabel_local S.locx)) (.inr (lookup_relabel_local S.locx))) (T1 (O8 S.nd qy (.inl (lookup_relabel_local S.locy)) (.inr (lookup_relabel_local S.locy))) (T1 (O8 S.nd qu (.inl (lookup_relabel_local S.locu)) (.inr (lookup_relabel_local S.locu))) (T1 (O8 S.nd qg (.inl (lookup_relabel_local S.locg)) (.inr (lookup_relabel_local S.locg))) A3e))))
theorem C93 {elt iter:Expr}{x y2 u2 g2:Str}{px py pu pg pt pos:Pos} {kt} {ifs:List Expr} {scope:Scope} {N':List Str} {tt:CA->TT} {te:CA->TE} {it:Addr} {fp:List Addr} {tn:Nat->Heap->Prop} {J:It} {Q:List V->Hp->Prop}
  {RR:Value->Addr->Result->Shared->Prop} {E:Value->Shared->Prop}
  (S:A7e X.N N' X.env.scope scope x y2 u2 g2) (hc:X.calm=true)
  (ht:∀a:CA,PTs (M6 X scope N' a) ifs (tt a)) (he:∀a:CA,PE (M6 X scope N' a) elt (te a))
  (I:Inv X pins σ H s) (T:A3f X.prog X.w X.K (.Tuple [.Name x px,.Name y2 py,.Name u2 pu,.Name g2 pg] kt pt) J fp it tn) (st:tn 0 s.heap) (f2:∀b∈fp,b6 X pins H b) (h:B4q X.K σ tt te J H Q)
  (hRR:∀(D C:Addr)(ys:List V)(H':Hp)(s':Shared)(m:Str->Option Value),s'.heap.Ns C m->Own X pins (upd H' D (.lst ys)) C->Inv X pins σ (upd H' D (.lst ys)) s'->H' D=none->Q ys H'->RR (.ref D) C (.ok .next) s') :
  wpAny (model X.prog X.w) X.A (newList []) (λacc s₃=>wpAny (model X.prog X.w) X.A (newFunctionEnv scope X.env.globals (U8 X.env.cells scope.names []) [] X.env.qual none .none (some X.env)) (λcenv s₄=>
   codeAny (model X.prog X.w) X.A (.compStart (.ListComp elt [⟨.Tuple [.Name x px,.Name y2 py,.Name u2 pu,.Name g2 pg] kt pt,iter,ifs,0⟩] scope pos) 0 (.ref it) acc { cenv with scope:=relabel scope X.env }) (RR acc cenv.locals) s₄) E s₃) E s:=by
 refine wpAny_newObj_type (wpAny_newFunctionEnv S.cell (by intro y hy;simp at hy) (λh₁ hns₁ hsb₁=>?_) S.kind);dsimp only at hns₁ hsb₁ ⊢;generalize hH2:s.heap.push { cls:=.type "list",dict:=none,data:=.seq ([]:List Value).toArray }=H2 at hns₁ hsb₁ ⊢;have hC:H2.objs.size=s.heap.objs.size+1:=by rw[<-hH2,B3p]
 have hDC:s.heap.objs.size≠H2.objs.size:=by rw[hC];exact O0 (B3q _)
 have hCle:s.heap.objs.size<=H2.objs.size:=by rw[hC];exact A0z _
 have below:∀b,b<s.heap.objs.size->b≠H2.objs.size/\b≠s.heap.objs.size:=λb hb=>⟨by rw[hC];exact O0 (B9o hb),O0 hb⟩;have old:∀b o,s.heap.get? b=some o->h₁.get? b=some o:=λb o e=>hsb₁.extBut b o (below b (G6 e)).1 (M5 _ (hH2▸M5 _ e));have hacc:h₁.get? s.heap.objs.size=some { cls:=.type "list",data:=.seq ([]:List Value).toArray }:=hsb₁.extBut _ _ hDC (M5 _ (hH2▸R9 _ rfl));have fplt:∀b∈fp,b<s.heap.objs.size:=λb hb=>let ⟨_,e,_⟩:=T.obj 0 _ st b hb;G6 e;have hcells:∀y∈scope.names,y.2=.free->∃c,X.env.cells.lookup y.1=some c:=λy hy e=>I.ok.has y.1 (.inl (S.free y hy e));have sub:∀y c,(U8 X.env.cells scope.names []).lookup y=some c->X.env.cells.lookup y=some c:=B4k hcells (λy c e=>by cases e)
 let a:CA:=⟨s,H,H2.objs.size,fp⟩
 have ok:(M6 X scope N' a).Ok:=by
  refine⟨I.ok.mod,S.kind,I.ok.glob,I.ok.blt,hCle,λy z c e1 e2=>I.ok.inj y z c (sub y c e1) (sub z c e2),λy hy=>?_,λy c z=>?_,I.ok.hd,I.ok.frames,.inl rfl,λb hb=>⟨(below b (fplt b hb)).1,λy c e=>(f2 b hb).2.2.2.2.1 y c (sub y c e)⟩,I.bs,
   J1 I.ok.bsz I.sz,λb o e hb=>?_,λb hb z=>?_,I.stack,I.stkFree⟩
  ·exact A89 (A3i hy S.cell)
  ·cases z
  ·rcases (f2 b hb).2.2.2.1 with z | z
   ·exact I.ok.noex b o e z
   ·exact absurd (Q7 (G6 (I.ok.bs b o e).1) z) (Z8 _)
  ·rcases G1.mp (I.stkSub b z) with e | e
   ·exact (f2 b hb).2.1 e
   ·exact (f2 b hb).2.2.1 e
 have look:∀(h':Heap)(m':Str->Option Value),(∀y c,X.env.cells.lookup y=some c->∀v,s.heap.IsCell c v->h'.IsCell c v)->∀(i:Nat)(y:Str)(v:V),N'[i]?=some y->(z4 σ)[i]?=some (some v)->
   Vis (relabel scope X.env) y->∃u,E1 v u/\B33 (compEnvC scope (U8 X.env.cells scope.names []) H2.objs.size X.env) h' m' y u:=by
  intro h' m' kc i y v e1 e2 e3;obtain⟨hlt,e4⟩:=C1s e2;rw[I.len] at hlt;have e5:X.N[i]?=some y:=by
   rw[S.eqN,A26 hlt] at e1;exact e1
  have nx:y≠x:=λz=>by
   have q:N'[X.N.length]?=some x:=by rw[S.eqN,k0 (E8 _)];simp
   exact absurd (A3b S.nd e1 (by rw[z];exact q)) (O0 hlt)
  have ny:y≠y2:=λz=>by
   have q:N'[X.N.length+1]?=some y2:=by rw[S.eqN,k0 (A0z _)];simp
   exact absurd (A3b S.nd e1 (by rw[z];exact q)) (O0 (B9o hlt))
  have nu:y≠u2:=λz=>by
   have q:N'[X.N.length+2]?=some u2:=by rw[S.eqN,k0 (by omega)];simp
   exact absurd (A3b S.nd e1 (by rw[z];exact q)) (by omega)
  have ng:y≠g2:=λz=>by
   have q:N'[X.N.length+3]?=some g2:=by rw[S.eqN,k0 (by omega)];simp
   exact absurd (A3b S.nd e1 (by rw[z];exact q)) (by omega)
  have hy:(y,NameKind.free)∈scope.names:=by
   rcases e3 with e3 | e3 | e3
   ·rcases S.only _ (A7b e3) rfl with z | z | z | z | z
    ·exact absurd z nx
    ·exact absurd z ny
    ·exact absurd z nu
    ·exact absurd z ng
    ·exact absurd (R6 e1) z
   ·exact A3i (.inl e3) S.cell
   ·exact A3i (.inr e3) S.cell
  have kcell:X.env.scope.names.lookup y=some .cell:=S.free _ hy rfl;obtain⟨m0,hn0,hl0⟩:=I.loc;obtain⟨u,r,l⟩:=hl0 i y v e5 e4 (.inr (.inl kcell));refine⟨u,r,.inr ⟨?_,?_⟩⟩
  ·rcases e3 with e3 | e3 | e3
   ·rcases S.only _ (A7b e3) rfl with z | z | z | z | z
    ·exact absurd z nx
    ·exact absurd z ny
    ·exact absurd z nu
    ·exact absurd z ng
    ·exact absurd (R6 e1) z
   ·exact .inl e3
   ·exact .inr e3
  ·rcases l with ⟨k,_⟩ | ⟨k,c,e,z⟩
   ·have k':X.env.scope.names.lookup y=some .local:=k;rw[kcell] at k';cases k'
   ·obtain⟨c',e'⟩:=A89 (cells:=X.env.cells) (cs:=[]) hy;have e'':=sub y c' e';rw[e] at e'';cases e'';exact⟨c,e',kc y c e _ z⟩
 have cellOld:∀y c,X.env.cells.lookup y=some c->∀v,s.heap.IsCell c v->h₁.IsCell c v:=λy c Y v zz285=>el2 zz285 λo ho hd=>⟨o,old c o ho,hd⟩;have fr0:∀b,s.heap.objs.size<=b->H b=none:=λb hb=>I.hok.fresh hb;have noPn:∀p,p∉(M6 X scope N' a).pn++([]:List (Addr×Obj)):=λp hp=>by simp at hp
 have I0:Inv (M6 X scope N' a) [] (z4 σ) H { s with heap:=h₁,toks:=s.toks+([]:List (Str×Value)).length }:=by
  refine⟨ok,rfl,I.bare,Un.kept old,⟨_,hns₁,look h₁ _ cellOld⟩,λy c e=>?_,fr0 _ hCle,λy c e=>I.freeC y c (sub y c e),λp hp=>absurd hp (noPn p),I.hok.kept old,by rw[S.eqN];unfold z4;rw[S8,S8,I.len];rfl⟩;obtain⟨v,z⟩:=I.cell y c (sub y c e);exact⟨v,cellOld y c (sub y c e) v z⟩
 obtain⟨W,⟨m0,w0⟩,turn⟩:=h;have loop:∀s₃:Shared,s₃={ s with heap:=h₁,toks:=s.toks+([]:List (Str×Value)).length }->
   codeAny (model X.prog X.w) X.A (.compLoop (.ListComp elt [⟨.Tuple [.Name x px,.Name y2 py,.Name u2 pu,.Name g2 pg] kt pt,iter,ifs,0⟩] scope pos) 0 (.ref it) (.ref s.heap.objs.size) (compEnvC scope (U8 X.env.cells scope.names []) H2.objs.size X.env)) (RR (.ref s.heap.objs.size) H2.objs.size) s₃:=by
  rintro s₃ rfl;refine C1c (λk s'=>∃(i:Nat)(ys:List V)(its:List Value)(n:Nat)(H':Hp),Inv (M6 X scope N' a) [] (z4 σ) H' s'/\s'.heap.get? s.heap.objs.size=some { cls:=.type "list",data:=.seq its.toArray n }/\C6 ys its/\
   H' s.heap.objs.size=none/\tn i s'.heap/\(∀b∈fp,H' b=none)/\W i k ys H') ?_ m0
   ⟨0,[],[],0,H,I0,hacc,.nil,fr0 _ (E8 _),T.keep _ _ _ st λb hb o e=>old b o e,λb hb=>(f2 b hb).1,w0⟩
  rintro k s' ⟨i,ys,its,n,H',I',hD,rv,nD',st',fr',w'⟩ E';obtain⟨hz,hw⟩:=turn i k ys H' w';have ownD:Own (M6 X scope N' a) [] H' s.heap.objs.size:=⟨nD',hDC,E8 _,λy c e z=>by
   obtain⟨v,q⟩:=I.cell y c (sub y c e);exact absurd q.lt (by rw[z];exact Z8 _),λp hp=>absurd hp (noPn p)⟩
  have fpok:∀(pl:List (Addr×Obj))(H'':Hp),(∀b∈fp,H'' b=none)->(∀p∈pl,p.1∉fp)->∀b∈fp,b6 (M6 X scope N' a) pl H'' b:=λpl H'' hn hpl b hb=>
   ⟨hn b hb,(below b (fplt b hb)).1,λz=>by
    rcases G1.mp (I.stkSub b z) with e | e
    ·exact (f2 b hb).2.1 e
    ·exact (f2 b hb).2.2.1 e,.inl hb,λy c e=>(f2 b hb).2.2.2.2.1 y c (sub y c e),λp hp z=>by
    have hp':p∈pl:=by simpa using hp
    exact hpl p hp' (z▸hb)⟩
  have nDfp:s.heap.objs.size∉fp:=λz=>absurd (fplt _ z) (Z8 _);have pinD:∀p∈([(s.heap.objs.size,{ cls:=.type "list",data:=.seq its.toArray n })]:List (Addr×Obj)),s'.heap.get? p.1=some p.2/\H' p.1=none/\p.1≠(M6 X scope N' a).env.locals/\p.1∉(M6 X scope N' a).fs/\∀v,p.2.data≠.cell v:=λp hp=>by
   have e:p=(s.heap.objs.size,{ cls:=.type "list",data:=.seq its.toArray n }):=by simpa using hp
   subst e;refine⟨hD,nD',hDC,λz=>?_,λv z=>by cases z⟩;rcases G1.mp (I.stkSub _ z) with e | e
   ·exact absurd I.lt (by rw[<-e];exact Z8 _)
   ·exact I.nofs (E8 _) e
  have Ip:=I'.pins_of pinD;have hpl:∀p∈([(s.heap.objs.size,{ cls:=.type "list",data:=.seq its.toArray n })]:List (Addr×Obj)),p.1∉fp:=λp hp=>by
   have e:p=(s.heap.objs.size,{ cls:=.type "list",data:=.seq its.toArray n }):=by simpa using hp
   subst e;exact nDfp
  rcases hw with ⟨stop,q⟩ | ⟨go,N,hN,step⟩
  ·refine thn (T.done (M6 X scope N' a) rfl rfl rfl hc i _ s' _ H' E' Ip (fpok _ H' fr' hpl) st' stop) λr s4 zz286=>zz286.elim λhr I4=>?_;subst hr;have hD4:=(I4.pin (s.heap.objs.size,{ cls:=.type "list",data:=.seq its.toArray n }) (by simp)).1;have J4:Inv X pins σ H' s4:=I.call' (ch:=fp) I4.os I4.base I4.hok I4.bare λb hb=>⟨(f2 b hb).2.2.2.1,(f2 b hb).2.1,(f2 b hb).2.2.2.2.1,(f2 b hb).2.2.2.2.2⟩;obtain⟨m4,hn4,_⟩:=I4.loc;have hC4:H' H2.objs.size=none:=I4.free;exact hRR _ _ ys H' s4 m4 hn4 (I.own hCle (by rw[B7 (Ne.symm hDC)];exact hC4)) (J4.track (I.own (E8 _) nD') hD4 rv hz) nD' q
  ·refine thn (T.item (M6 X scope N' a) rfl rfl rfl hc i _ s' _ H' E' Ip (fpok _ H' fr' hpl) st' go) λr s5 zz287=>el2 zz287 λu hr h5=>?_;subst hr;refine thn h5 λY s6 zz288=>zz288.elim λxv zz289=>zz289.elim λH6 zz290=>zz290.elim λI6 zz291=>zz291.elim λr6 zz292=>zz292.elim λy6 zz293=>zz293.elim λst6 fr6=>?_;have I6':=I6.pinned (fpok _ H6 fr6 hpl) (T.obj _ _ st6);obtain⟨pa,v1,v2,v3,v4,exv,hsq,step6⟩:=step xv H6 y6 a;have hgt:B03 X.K 4 (A02 (G3 X.N.length) (A02 (G3 (X.N.length+1)) (A02 (G3 (X.N.length+2)) (A02 (G3 (X.N.length+3)) B02)))) xv (z4 σ) H6 (fun σ7 H7=>σ7=((((z4 σ).set X.N.length (some v1)).set (X.N.length+1) (some v2)).set (X.N.length+2) (some v3)).set (X.N.length+3) (some v4)/\H6=H7):=⟨pa,[v1,v2,v3,v4],exv,hsq,rfl,v1,[v2,v3,v4],rfl,v2,[v3,v4],rfl,v3,[v4],rfl,v4,[],rfl,rfl,rfl,rfl⟩;refine wpAny_mono (C92 S hc a _ s6 _ H6 xv u _ I6' r6 hgt) (λY s7 zz294=>el5 zz294 fun σ7 H7 I7 e7 e7'=>?_) λY Y z=>z.elim;subst e7 e7';have wk:∀(i:Nat) v,(z4 σ)[i]?=some (some v)->(((((z4 σ).set X.N.length (some v1)).set (X.N.length+1) (some v2)).set (X.N.length+2) (some v3)).set (X.N.length+3) (some v4))[i]?=some (some v):=λi v e=>by
    have hlt:=(C1s e).1;rw[I.len] at hlt;rw[v8 (by omega),v8 (by omega),v8 (by omega),v8 (by omega)];exact e
   have e8:((((z4 σ).set X.N.length (some v1)).set (X.N.length+1) (some v2)).set (X.N.length+2) (some v3)).set (X.N.length+3) (some v4)=σ++[some v1,some v2,some v3,some v4]:=by
    unfold z4;rw[<-I.len,B0p _ _ (E8 _),B0p _ _ (by omega),B0p _ _ (by omega),B0p _ _ (by omega)];simp
   rw[<-e8] at step6;refine wpAny_mono (ht a _ s7 _ H6 _ I7 step6) (λok s8 zz295=>el2 zz295 λH8 I8 q8=>?_) λY Y z=>z.elim;have tnk:∀{H9:Hp}{s9:Shared}{σ9:St},Inv (M6 X scope N' a) ([(s.heap.objs.size,{ cls:=.type "list",data:=.seq its.toArray n })]++A63 fp s6.heap) σ9 H9 s9->tn (i+1) s9.heap/\(∀b∈fp,H9 b=none)/\s9.heap.get? s.heap.objs.size=some { cls:=.type "list",data:=.seq its.toArray n }/\H9 s.heap.objs.size=none:=λ{H9 s9 σ9} I9=>by
    refine⟨T.keep _ _ _ st6 λb hb o e=>(I9.pin (b,o) (Y8 _ (Y8 _ (A64 hb e)))).1,λb hb=>?_,?_⟩
    ·obtain⟨o,e,d⟩:=T.obj _ _ st6 b hb;exact (I9.pin (b,o) (Y8 _ (Y8 _ (A64 hb e)))).2.1
    ·have z:=I9.pin (s.heap.objs.size,{ cls:=.type "list",data:=.seq its.toArray n }) (Y8 _ (B9f _ (by simp)));exact⟨z.1,z.2.1⟩
   cases ok with
   | false=>obtain⟨m',hm,w8⟩:∃m',m'<k/\W (i+1) m' ys H8:=hN _ _ (by simpa using q8);obtain⟨t1,t2,t3,t4⟩:=tnk I8;exact⟨m',hm,i+1,ys,its,n,H8,(I8.pins_of (pins':=[]) λp hp=>nomatch hp).weak (by rw[S3,S3,S3,S3]) wk,t3,rv,t4,t1,t2,w8⟩
   | true=>have q8':=q8;simp only[if_true] at q8';refine wpAny_mono (he a _ s8 _ H8 _ I8 q8') (λu9 s9 zz296=>el5 zz296 λv9 H9 I9 r9 q9=>?_) λY Y z=>z.elim;obtain⟨m',hm,w9⟩:=hN _ _ q9;obtain⟨t1,t2,t3,t4⟩:=tnk I9;have hl:=rv.length;refine append_at (hsz:=by show its.toArray.size<=sizeLine;rw[Q2,<-hl];exact hz) t3 λh' hs' hD'=>?_;have J9:=((I9.pins_of (pins':=[]) λp hp=>nomatch hp).weak (σ':=z4 σ) (by rw[S3,S3,S3,S3]) wk).own_turn (C:=s.heap.objs.size) ⟨t4,ownD.ne,ownD.ab,ownD.ce,ownD.pi⟩ hs';refine⟨m',hm,i+1,ys++[v9],its++[u9],n+1,H9,J9,?_,C6.append rv (.cons r9 .nil),t4,T.keep _ _ _ t1 λb hb o e=>(hs'.2 b λz=>nDfp (z▸hb)).trans e,t2,w9⟩;rw[List.push_toArray] at hD';exact hD'
 exact codeAny_compStart_list (loop _ rfl) (T.self _ 0 _ _ _ (T.keep _ _ _ st λb hb o e=>old b o e) (loop _ rfl))
set_option tactic.hygienic true in
theorem C94 {elt iter:Expr}{x x2 x3 x4 y:Str}{px px2 px3 px4 ppt pos py spos:Pos} {kt} {ifs:List Expr} {scope:Scope} {N':List Str} {i:Nat} {wi:TI} {tt:CA->TT} {te:CA->TE} {osc:Scope} {N:List Str}
  (nd:X.N.Nodup) (hi':X.N[i]?=some y) (hy:Loc X.env.scope y)
  (S:A7e N N' osc scope x x2 x3 x4) (hc:X.calm=true) (hi:PI X (.Tuple [.Name x px,.Name x2 px2,.Name x3 px3,.Name x4 px4] kt ppt) iter wi) (ht:∀a:CA,PTs (M6 X scope N' a) ifs (tt a)) (he:∀a:CA,PE (M6 X scope N' a) elt (te a))
  (hsw:autoParam (swapsWith (.ListComp elt [⟨.Tuple [.Name x px,.Name x2 px2,.Name x3 px3,.Name x4 px4] kt ppt,iter,ifs,0⟩] scope pos) (some (.Name y py)) spos.line X.env=pure true) RF._auto_1)
  (hf:autoParam (X.fn y=true\/X.env.scope.names.lookup y=some .local) A0P._auto_1)
  (ho:autoParam (X.env.scope=osc) RF._auto_1) (hN:autoParam (X.N=N) RF._auto_1) (hs:autoParam (∀x,foldedSetIterable iter X.env x=pure x) A2P._auto_1) :
  PS X (.Assign [.Name y py] (.ListComp elt [⟨.Tuple [.Name x px,.Name x2 px2,.Name x3 px3,.Name x4 px4] kt ppt,iter,ifs,0⟩] scope pos) spos) (λD σ H=>C91 X.K wi tt te σ H λv H1=>D.nx (σ.set i (some v)) H1):=by
 subst ho hN;intro pins s σ H D I h;have hcells:∀y∈scope.names,y.2=.free->∃c,X.env.cells.lookup y.1=some c:=λy hy e=>I.ok.has y.1 (.inl (S.free y hy e));rw[exec_Assign_Name_used _ _ _ _ hsw];refine wpAny_bind (wpAny_standAt (wpAny_bind ?_));show wpAny _ X.A (do let _ <-comprehension (.ListComp elt [⟨.Tuple [.Name x px,.Name x2 px2,.Name x3 px3,.Name x4 px4] kt ppt,iter,ifs,0⟩] scope pos) scope X.env _ (newList []) false (eval iter X.env) (some (assign (.Name y py) X.env))) _ _ s;refine wpAny_bind (wpAny_mono (wpAny_comprehension_free (use:=some (assign (.Name y py) X.env)) (Q:=λY s'=>SP X pins D .next s') rfl hs (B4j hcells) S.kind S.names
  (wpAny_mono (hi pins s σ H _ I h) (λxv s₁ h₁=>wpAny_mono h₁ (λitv s₂ h₂=>?_) λY Y e=>e) λY Y e=>e)) (λY s' hq=>wpAny_pure (wpAny_pure hq)) λY Y e=>e)
 obtain⟨it,fp,tn,J,H2,rfl,I2,T,st2,f2,q2⟩:=h₂;refine C93 (RR:=λacc C=>compPost (model X.prog X.w) X.A X.xe (some (assign (.Name y py) X.env)) (λY s'=>SP X pins D .next s') acc C) S hc ht he I2 T st2 f2 q2 ?_;intro Da C ys H' s' m hn own I' hD q;show wpAny _ X.A (assign (.Name y py) X.env (.ref Da)) _ _ _;refine wpAny_assign_Name (B34 (v:=V.ref Da) I' nd hi' hy rfl (λs2 I2' hsb=>?_) hf);obtain⟨b,hs2,hb⟩:=hsb;have hCb:C≠b:=by
  rcases hb with rfl | hb
  ·exact own.ne
  ·exact λz=>own.ce _ _ hb z.symm
 refine⟨m,hn.sameBut hs2 hCb,λh' hs'=>⟨_,_,I2'.own_turn own hs',q Da hD⟩⟩
end
section
variable {w:World}{E:Value->Shared->Prop}
end
variable {I:Addr}{fp wr:List Addr}{n:Nat}
section
variable {w:World}{P:Nat->Value->Prop}{St:Nat->Heap->Prop}
end
theorem C6.un:∀{xs:List V}{us:List Value}{i:Nat}{u:Value},C6 xs us->us[i]?=some u->∃x,xs[i]?=some x/\E1 x u
 | _,_,_,_,.nil,e=>by simp at e
 | _,_,0,_,.cons r _,e=>by
  cases e;exact⟨_,rfl,r⟩
 | _,_,i+1,_,.cons _ t,e=>C6.un (i:=i) t e
section
variable {σ:St}{h':Heap}
end
section
variable {tg:Expr}
end
section
variable {w:World}{P:Nat->Value->Prop}{St:Nat->Heap->Prop}
theorem C95 (kw:List (Str×Value))(val:Nat->Int)(hval:∀i v,P i v->∃t,v=.int (val i) t)(W:Walks prog w A.in1 I fp wr n P St)(S:Addr)(hSf:S∉fp) :
  ∀(k j:Nat)(s:Shared)(vb:Value)(c:Nat),n-(j+1)=k->j+1<=n->St (j+1) s.heap->(∃i,P i vb/\i<=j/\∀q,q<=j->val q<=val i)->
  s.heap.get? S=some { cls:=.type "list",dict:=none,data:=.seq #[vb,vb] c,slots:=#[] }->
  (∀v h' tk,(∃i,P i v/\i<n/\∀q,q<n->val q<=val i)->(∀b o,b∉wr->b≠S->s.heap.get? b=some o->h'.get? b=some o)->R (.ok (.ret v)) { s with heap:=h',toks:=tk })->
  codeAny (model prog w) A (.builtin "max.loop" ⟨[.ref I,.none,.ref S],kw⟩) R s:=by
 have hSw:S∉wr:=λh=>hSf (W.sub _ h);have hname:(toString "max" ++toString ".loop" : String) = "max.loop" :=by decide
 intro k
 induction k with
 | zero=>
  intro j s vb c hk hj hst hPb hS hR;have hin:j+1=n:=by omega
  refine codeAny_builtin F.entry_max_loop ?_;rw[Around.under_plainId F.plain_max_loop _];show wpAny _ A.in1 (seqItems? (.ref S) >>= _) _ _ s;refine wpAny_bind (wpAny_seqItems hS rfl ?_);show wpAny _ A.in1 (tryCatch (pyNext (.ref I)) _ >>= _) _ _ s;refine wpAny_bind (wpAny_tryCatch (W.done s _ _ (hin▸hst) λh' tk hk'=>?_));have hS':=hk' S _ hSw hS;show wpAny _ A.in1 (updateSeq S (λJ=>#[]) >>= _) _ _ _;refine wpAny_bind ?_;refine wpAny_updateSeq hS' rfl (wpAny_bind (wpAny_letGo (wpAny_pure ?_)));obtain⟨i,h1,h2,h3⟩:=hPb;exact hR vb _ tk ⟨i,h1,OO,λq hq=>h3 q OO⟩ λb o hbw hbS e=>(A6r _ _ (Ne.symm hbS)).trans (hk' b o hbw e)
 | succ k ih=>
  intro j s vb c hk hj hst hPb hS hR;have hlt:j+1<n:=by omega
  refine codeAny_builtin F.entry_max_loop ?_;rw[Around.under_plainId F.plain_max_loop _];show wpAny _ A.in1 (seqItems? (.ref S) >>= _) _ _ s;refine wpAny_bind (wpAny_seqItems hS rfl ?_);show wpAny _ A.in1 (tryCatch (pyNext (.ref I)) _ >>= _) _ _ s;refine wpAny_bind (wpAny_tryCatch (W.item (j+1) s _ _ hlt hst λv h' tk hP hst' hk'=>?_));have hS':=hk' S _ hSw hS;obtain⟨ib,hib,hi1,hi2⟩:=hPb;obtain⟨t1,rfl⟩:=hval _ v hP;obtain⟨t2,rfl⟩:=hval _ vb hib;show wpAny _ A.in1 (tryCatch (holding [_,_] (richCompare .Gt _ _ >>= _)) _ >>= _) _ _ _;refine wpAny_bind (wpAny_tryCatch (wpAny_holding (wpAny_bind (richCompare_gives (op:=.Gt) (typeIs_int _ _ t1) (typeIs_int _ _ t2) F.slot_int_gt F.entry_int_gt (F.args_int_gt_2 _ _) (gives_int_gt _ _ t1 t2) (λx=>nomatch x) ?_))));refine wpAny_bind (wpAny_holding (wpAny_truthy_bool ?_));refine wpAny_bind (wpAny_letGo (wpAny_pure ?_));by_cases bt:val (j+1)>val ib
  ·rw[decide_eq_true bt];simp only[if_true];refine wpAny_bind ?_;refine wpAny_updateSeq hS' rfl (wpAny_bind (wpAny_letGo ?_));rw[hname];refine wpAny_pure ⟨plainId_quiet F.plain_max_loop _,ih (j+1) _ _ _ OO hlt (W.frame _ _ _ hst' λb hbf o e=>?_) ⟨j+1,hP,E8 _,λq hq=>?_⟩ (B9l _ hS' rfl)
    λv' h'' tk'' hP' hk''=>?_⟩
   ·exact (A6r _ _ (λh:S=b=>hSf (by rw[h];exact hbf))).trans e
   ·by_cases e:q=j+1
    ·subst e;exact A1n _
    ·have:=hi2 q (OO);omega
   ·exact hR v' h'' tk'' hP' λb o hbw hbS e=>hk'' b o hbw hbS ((A6r _ _ (Ne.symm hbS)).trans (hk' b o hbw e))
  ·rw[decide_eq_false bt];simp only[A8u,if_false];refine wpAny_bind (wpAny_letGo ?_);rw[hname];refine wpAny_pure ⟨plainId_quiet F.plain_max_loop _,ih (j+1) _ _ c OO hlt hst' ⟨ib,hib,OO,λq hq=>?_⟩ hS' λv' h'' tk'' hP' hk''=>?_⟩
   ·by_cases e:q=j+1
    ·subst e;omega
    ·exact hi2 q (OO)
   ·exact hR v' h'' tk'' hP' λb o hbw hbS e=>hk'' b o hbw hbS (hk' b o hbw e)
theorem C1t (kw:List (Str×Value))(val:Nat->Int)(hval:∀i v,P i v->∃t,v=.int (val i) t)(W:Walks prog w A.in1 I fp wr n P St)(S:Addr)(hSf:S∉fp)(hn:0<n){s:Shared}{c:Nat}(hst:St 0 s.heap)
  (hS:s.heap.get? S=some { cls:=.type "list",dict:=none,data:=.seq #[] c,slots:=#[] })
  (hR:∀v h' tk,(∃i,P i v/\i<n/\∀q,q<n->val q<=val i)->(∀b o,b∉wr->b≠S->s.heap.get? b=some o->h'.get? b=some o)->R (.ok (.ret v)) { s with heap:=h',toks:=tk }) :
  codeAny (model prog w) A (.builtin "max.loop" ⟨[.ref I,.none,.ref S],kw⟩) R s:=by
 have hSw:S∉wr:=λh=>hSf (W.sub _ h);have hname:(toString "max" ++toString ".loop" : String) = "max.loop" :=by decide
 refine codeAny_builtin F.entry_max_loop ?_;rw[Around.under_plainId F.plain_max_loop _];show wpAny _ A.in1 (seqItems? (.ref S) >>= _) _ _ s;refine wpAny_bind (wpAny_seqItems hS rfl ?_);show wpAny _ A.in1 (tryCatch (pyNext (.ref I)) _ >>= _) _ _ s;refine wpAny_bind (wpAny_tryCatch (W.item 0 s _ _ hn hst λv h' tk hP hst' hk'=>?_));have hS':=hk' S _ hSw hS;show wpAny _ A.in1 (updateSeq S (λJ=>#[v,v]) >>= _) _ _ _;refine wpAny_bind ?_;refine wpAny_updateSeq hS' rfl ?_;rw[hname];refine wpAny_pure ⟨plainId_quiet F.plain_max_loop _,C95 kw val hval W S hSf _ 0 _ v _ rfl hn (W.frame _ _ _ hst' λb hbf o e=>?_) ⟨0,hP,E8 _,λq hq=>by rw[show q=0 by omega];exact A1n _⟩ (B9l _ hS' rfl) λv' h'' tk'' hP' hk''=>?_⟩
 ·exact (A6r _ _ (λh:S=b=>hSf (by rw[h];exact hbf))).trans e
 ·exact hR v' h'' tk'' hP' λb o hbw hbS e=>hk'' b o hbw hbS ((A6r _ _ (Ne.symm hbS)).trans (hk' b o hbw e))
theorem C96 {dn:Str}{d:Value}(W:Walks prog w A.in1 I fp wr n P St)(S:Addr)(hSf:S∉fp)(hn:n=0){s:Shared}{c:Nat}(hst:St 0 s.heap)
  (hS:s.heap.get? S=some { cls:=.type "list",dict:=none,data:=.seq #[] c,slots:=#[] })
  (hR:∀h' tk,(∀b o,b∉wr->b≠S->s.heap.get? b=some o->h'.get? b=some o)->R (.ok (.ret d)) { s with heap:=h',toks:=tk }) :
  codeAny (model prog w) A (.builtin "max.loop" ⟨[.ref I,.none,.ref S],[(dn,d)]⟩) R s:=by
 have hSw:S∉wr:=λh=>hSf (W.sub _ h);subst hn;refine codeAny_builtin F.entry_max_loop ?_;rw[Around.under_plainId F.plain_max_loop _];show wpAny _ A.in1 (seqItems? (.ref S) >>= _) _ _ s;refine wpAny_bind (wpAny_seqItems hS rfl ?_);show wpAny _ A.in1 (tryCatch (pyNext (.ref I)) _ >>= _) _ _ s;refine wpAny_bind (wpAny_tryCatch (W.done s _ _ hst λh' tk hk'=>?_));show wpAny _ A.in1 (rule _ >>= _) _ _ _;refine wpAny_bind (wpAny_rule ?_);exact wpAny_pure (hR h' tk λb o hbw hbS e=>hk' b o hbw e)
end
def A9e (ns:List Int)(M:Int):Prop:=M∈ns/\∀n∈ns,n<=M
def C97 (K:A8):List V->Hp->VK->Prop:=λxs H Q=>∃(p:Addr)(ns:List Int),xs=[.ref p]/\SqL K H p (ns.map V.int)/\ns≠[]/\∀M,A9e ns M->Q (.int M) H
theorem B1k {ns:List Int}{its:List Value}(rv:C6 (ns.map V.int) its){i:Nat}{v:Value}(h:its[i]?=some v):∃n t,ns[i]?=some n/\v=.int n t:=by
 obtain⟨x,hx,rx⟩:=C6.un rv h;rw[P6] at hx;cases e:ns[i]? with
 | none=>rw[e] at hx;cases hx
 | some n=>rw[e] at hx;cases hx;obtain⟨t,rfl⟩:=rx;exact⟨n,t,rfl,rfl⟩
theorem C98 (hc:X.calm=true):V5 X (.builtin "max") (C97 X.K):=by
 intro pins s σ H xs us Q I r h;obtain⟨p,ns,rfl,hq,hne,q⟩:=h;obtain⟨u,rfl,rx⟩:=V7 r;cases rx;obtain⟨its,rv,pl,hz⟩:=I.list hq;have hl:=pl.isList;have hlt:p<s.heap.objs.size:=by obtain⟨_,e,_⟩:=hl;exact G6 e
 have hlen:=rv.length;rw[B6] at hlen;have hname:(toString "max" ++toString ".loop" : String) = "max.loop" :=by decide
 refine call_function_tree F.kind_max F.plain_max F.entry_max (F.args_max1 _) ?_;show wpAny _ X.A.in1 (Builtin.Builtins.bindParams "max" ["key","default"] 0 ⟨[],[]⟩ >>= _) _ _ s;refine wpAny_bind (wpAny_of_eq (show Builtin.Builtins.bindParams "max" ["key","default"] 0 ⟨[],[]⟩=pure [none,none] from rfl) ?_);refine wpAny_bind (wpAny_pure ?_);refine wpAny_bind (wpAny_pyIter_list hl ?_);refine wpAny_bind (wpAny_newObj_type ?_);rw[hname];have W:=Walks.list (prog:=X.prog) (w:=X.w) (A:=X.A.in1) (I.ok.hd hc) s.heap.objs.size p (O0 hlt) its.toArray;have sz:∀(h:Heap)(o:Obj),(h.push o).objs.size=h.objs.size+1:=λh o=>by simp [Heap.push]
 refine wpAny_pure ⟨plainId_quiet F.plain_max_loop _,C1t [] (λi=>(ns[i]?).getD 0) (λi v hv=>?_) W _ ?_ ?_ ?_ (R9 _ rfl) λv h' tk hP hk=>?_⟩
 ·have hv':its[i]?=some v:=by simpa using hv
  obtain⟨n,t,e,rfl⟩:=B1k rv hv';exact⟨t,by rw[e];rfl⟩
 ·intro hm;rw[sz] at hm;rcases G1.mp hm with z | z
  ·exact absurd z (Nat.succ_ne_self _)
  ·have h2:s.heap.objs.size+1=p:=A6u.mp z;have h3:s.heap.objs.size+1<s.heap.objs.size:=by rw[h2];exact hlt
   exact absurd h3 (Nat.not_lt.mpr (A0z _))
 ·rw[Q2,<-hlen];exact C69.mpr hne
 ·exact W.frame _ _ _ ⟨⟨_,R9 _ rfl,rfl,rfl⟩,hl.push _⟩ λb J o e=>M5 _ e
 ·obtain⟨i,hi,hi1,hi2⟩:=hP;have hv':its[i]?=some v:=by simpa using hi
  obtain⟨n,t,e,rfl⟩:=B1k rv hv';refine⟨.int n,H,I.kept (t':=tk) λb o e=>?_,⟨t,rfl⟩,q n ⟨R6 e,λm hm=>?_⟩⟩
  ·have hb:=G6 e;refine hk b o (λhm=>?_) (λhm=>?_) (M5 _ (M5 _ e))
   ·rw[A6u.mp hm] at hb;exact Z8 _ hb
   ·rw[hm,sz] at hb;exact absurd hb (Nat.not_lt.mpr (A0z _))
  ·obtain⟨j,hj,rfl⟩:=A8w.mp hm;have:=hi2 j (by rw[Q2,<-hlen];exact hj);rw[P7 hj,e] at this;exact this
theorem C99 (a b:Value):argsOk "max" ⟨[a],[(Str.ofString "default",b)]⟩:=by unfold argsOk;kernel_rfl
theorem D0a {prog:Program}{w:World}{A:Around}{E:Value->Shared->Prop}{s:Shared}{id:String}{b:Builtin}{args:List Value}{kw:List (Str×Value)}{Q:Value->Shared->Prop}(hk:builtinKind id=none)(hp:plainId id=true)
  (hb:entryFor table id=some b) (ha:argsOk id ⟨args,kw⟩)
  (hc:wpAny (model prog w) A.in1 (b ⟨args,kw⟩) (λfin s'=>match fin with
   | .done f=>(match (Except.ok f:Result) with | .ok (.ret v)=>Q v s' | .ok _=>False | .error e=>E e s')
   | .again c'=>c'.quiet=true/\codeAny (model prog w) A c' (λr s'=>match r with | .ok (.ret v)=>Q v s' | .ok _=>False | .error e=>E e s') s') E s) :
  wpAny (model prog w) A (call (.builtin id) args kw) Q E s:=by
 refine wpAny_call (codeAny_call_builtin hp hb ?_);simp only[checkBuiltinCall,hk];cases hsig:Manifest.signature? id with
 | none=>exact wpAny_pure hc
 | some sig=>
  have h2:Bind.checkArgs id sig ⟨args,kw⟩=pure ():=by simpa only[argsOk,hsig] using ha
  simp only[h2];exact wpAny_pure hc
def B4r (d:Int)(K:A8):List V->Hp->VK->Prop:=λxs H Q=>∃(p:Addr)(ns:List Int),xs=[.ref p]/\SqL K H p (ns.map V.int)/\(ns=[]->Q (.int d) H)/\∀M,A9e ns M->Q (.int M) H
theorem D0b {d:Int}{t0:Tok}(hc:X.calm=true){pins:List (Addr×Obj)}{s:Shared}{σ:St}{H:Hp}{xs:List V}{us:List Value}{Q:VK}(I:Inv X pins σ H s)(r:C6 xs us)(h:B4r d X.K xs H Q) :
  wpAny (model X.prog X.w) X.A (call (.builtin "max") us [(Str.ofString "default",.int d t0)]) (EP X pins σ Q) X.xe s:=by
 obtain⟨p,ns,rfl,hq,q0,q⟩:=h;obtain⟨u,rfl,rx⟩:=V7 r;cases rx;obtain⟨its,rv,pl,hz⟩:=I.list hq;have hl:=pl.isList;have hlt:p<s.heap.objs.size:=by obtain⟨_,e,_⟩:=hl;exact G6 e
 have hlen:=rv.length;rw[B6] at hlen;have hname:(toString "max" ++toString ".loop" : String) = "max.loop" :=by decide
 refine D0a F.kind_max F.plain_max F.entry_max (C99 _ _) ?_;show wpAny _ X.A.in1 (Builtin.Builtins.bindParams "max" ["key","default"] 0 ⟨[],[(Str.ofString "default",.int d t0)]⟩ >>= _) _ _ s;refine wpAny_bind (wpAny_of_eq (show Builtin.Builtins.bindParams "max" ["key","default"] 0 ⟨[],[(Str.ofString "default",.int d t0)]⟩=pure [none,some (.int d t0)] from by kernel_rfl) ?_);refine wpAny_bind (wpAny_pure ?_);refine wpAny_bind (wpAny_pyIter_list hl ?_);refine wpAny_bind (wpAny_newObj_type ?_);rw[hname];have W:=Walks.list (prog:=X.prog) (w:=X.w) (A:=X.A.in1) (I.ok.hd hc) s.heap.objs.size p (O0 hlt) its.toArray;have sz:∀(h:Heap)(o:Obj),(h.push o).objs.size=h.objs.size+1:=λh o=>by simp [Heap.push]
 have hS:(s.heap.push { cls:=.type "list_iterator",data:=.fields #[.ref p,.int 0 0] }).objs.size∉[s.heap.objs.size,p]:=by
  intro hm;rw[sz] at hm;rcases G1.mp hm with z | z
  ·exact absurd z (Nat.succ_ne_self _)
  ·have h2:s.heap.objs.size+1=p:=A6u.mp z;have h3:s.heap.objs.size+1<s.heap.objs.size:=by rw[h2];exact hlt
   exact absurd h3 (Nat.not_lt.mpr (A0z _))
 have keep:∀{h':Heap},(∀b o,b∉[s.heap.objs.size]->b≠(s.heap.push { cls:=.type "list_iterator",data:=.fields #[.ref p,.int 0 0] }).objs.size->((s.heap.push { cls:=.type "list_iterator",data:=.fields #[.ref p,.int 0 0] }).push { cls:=.type "list",data:=.seq #[] }).get? b=some o->h'.get? b=some o)->∀b o,s.heap.get? b=some o->h'.get? b=some o:=λhk b o e=>by
  have hb:=G6 e;refine hk b o (λhm=>?_) (λhm=>?_) (M5 _ (M5 _ e))
  ·rw[A6u.mp hm] at hb;exact Z8 _ hb
  ·rw[hm,sz] at hb;exact absurd hb (Nat.not_lt.mpr (A0z _))
 by_cases hne:ns=[]
 ·refine wpAny_pure ⟨plainId_quiet F.plain_max_loop _,C96 W _ hS ?_ ?_ (R9 _ rfl) λh' tk hk=>?_⟩
  ·rw[Q2,<-hlen,hne];rfl
  ·exact W.frame _ _ _ ⟨⟨_,R9 _ rfl,rfl,rfl⟩,hl.push _⟩ λb J o e=>M5 _ e
  ·exact⟨.int d,H,I.kept (t':=tk) (keep hk),⟨t0,rfl⟩,q0 hne⟩
 refine wpAny_pure ⟨plainId_quiet F.plain_max_loop _,C1t _ (λi=>(ns[i]?).getD 0) (λi v hv=>?_) W _ hS ?_ ?_ (R9 _ rfl) λv h' tk hP hk=>?_⟩
 ·have hv':its[i]?=some v:=by simpa using hv
  obtain⟨n,t,e,rfl⟩:=B1k rv hv';exact⟨t,by rw[e];rfl⟩
 ·rw[Q2,<-hlen];exact C69.mpr hne
 ·exact W.frame _ _ _ ⟨⟨_,R9 _ rfl,rfl,rfl⟩,hl.push _⟩ λb J o e=>M5 _ e
 ·obtain⟨i,hi,hi1,hi2⟩:=hP;have hv':its[i]?=some v:=by simpa using hi
  obtain⟨n,t,e,rfl⟩:=B1k rv hv';refine⟨.int n,H,I.kept (t':=tk) (keep hk),⟨t,rfl⟩,q n ⟨R6 e,λm hm=>?_⟩⟩;obtain⟨j,hj,rfl⟩:=A8w.mp hm;have:=hi2 j (by rw[Q2,<-hlen];exact hj);rw[P7 hj,e] at this;exact this
theorem C1u {e:Expr}{ta:TA}{p pos kpos cpos:Pos}{d:Int} {j} (hc:X.calm=true) (hg:Gl X "max") (hm:X.mg "max" = none) (hv:bootBuiltins "max" = some (.builtin "max")) (ha:PA X [e] ta)
  (he:autoParam (starEach [e] X.env=[(false,eval e X.env)]) RF._auto_1):PE X (.Call (.Name "max" p) [e] [⟨some (Str.ofString "default"),.Constant (.int d) j cpos,kpos⟩] pos) (tCB (B4r d X.K) ta):=by
 intro pins s σ H Q I h;refine wpAny_Call_Name_kw (A2d I hg hm hv ?_ DD DD);refine PyProof.Rows.callWith_kw (thn (ha pos pins s σ H _ I h) λus s1 zz=>el5 zz λvs H1 I1 r1 q1=>?_) (by rw[he];rfl) (by rw[he];rfl) rfl rfl;show wpAny _ _ ((do let v <-eval (.Constant (.int d) j cpos) X.env;standAt pos;pure v) >>= _) _ _ _;refine wpAny_bind (wpAny_bind (wpAny_Constant_int (wpAny_bind (wpAny_standAt (wpAny_pure ?_)))));refine wpAny_bind (wpAny_holding (wpAny_pure (wpAny_pure ?_)));exact D0b hc (I1.tok _) r1 q1
section
variable {w:World}{P:Nat->Value->Prop}{St:Nat->Heap->Prop}
end
end Lake
namespace Tactic
open PySem Lake
def Hd (H:Hp)(a l:Addr):Prop:=∃(ns:List Int)(p b c u v:Int),H l=some (.lst (ns.map V.int))/\0<=p/\H a=some (.lst [.ref l,.int p,.int b,.int c,.int u,.int v])
def Kp (a:Addr)(H H':Hp):Prop:=∀b o,H b=some o->b≠a->H' b=some o
theorem Kp.refl (a:Addr)(H:Hp):Kp a H H:=λJ J e J=>e
theorem Kp.trans {a:Addr}{H H1 H2:Hp}(x:Kp a H H1)(y:Kp a H1 H2):Kp a H H2:=λb o e n=>y b o (x b o e n) n
theorem B1l {H:Hp}{a l:Addr}{ns:List Int}{xs:List V}(hl:H l=some (.lst (ns.map V.int)))(ha:H a=some (.lst (.ref l::xs))):l≠a:=B90 hl ha (by
 intro e;injection e with e
 cases ns with
 | nil=>cases e
 | cons n r=>injection e with e1;cases e1)
theorem Hd.at1 {H:Hp}{a l:Addr}(h:Hd H a l):∃o,H a=some o:=let ⟨_,_,_,_,_,_,_,_,e⟩:=h;⟨_,e⟩
theorem Hd.at2 {H:Hp}{a l:Addr}(h:Hd H a l):∃o,H l=some o:=let ⟨_,_,_,_,_,_,e,_⟩:=h;⟨_,e⟩
theorem Hd.ne {H:Hp}{a l p:Addr}(h:Hd H a l)(hp:H p=none):p≠a/\p≠l:=by
 obtain⟨o,e⟩:=h.at1;obtain⟨o',e'⟩:=h.at2;exact⟨(w6 e hp).symm,(w6 e' hp).symm⟩
theorem Hd.wr {H:Hp}{a l p:Addr}{o:HO}(h:Hd H a l)(n1:p≠a)(n2:p≠l):Hd (upd H p o) a l:=by
 obtain⟨ns,q,b,c,u,v,h1,h2,h3⟩:=h;exact⟨ns,q,b,c,u,v,by rw[B7 n2.symm];exact h1,h2,by rw[B7 n1.symm];exact h3⟩
theorem Hd.lay {H:Hp}{a l p:Addr}{o:HO}(h:Hd H a l)(hp:H p=none):Hd (upd H p o) a l:=h.wr (h.ne hp).1 (h.ne hp).2
theorem Hd.same {H H':Hp}{a l:Addr}(h:Hd H a l)(s:Same H H'):Hd H' a l:=by
 obtain⟨ns,q,b,c,u,v,h1,h2,h3⟩:=h;exact⟨ns,q,b,c,u,v,s _ _ h1,h2,s _ _ h3⟩
theorem _root_.Lake.Same.lay {p:Addr}{H H1:Hp}{o:HO}(x:Same H H1)(h:H1 p=none):Same H (upd H1 p o):=λb u e=>by
 have e1:=x b u e;rw[B7 (w6 e1 h)];exact e1
theorem _root_.Lake.Same.kp {a:Addr}{H H1:Hp}(x:Same H H1):Kp a H H1:=λb o e J=>x b o e
theorem D0c {ns:List Int}{p:Int}(h0:0<=p)(h1:p<(ns.length:Int)):∃z,atI (ns.map V.int) p=some (.int z):=by
 obtain⟨n,rfl⟩:=B3v h0;have hp:n<ns.length:=by omega
 exact⟨ns[n],A2j (by rw[P6,P7 hp];rfl)⟩
def D0d (K:A8):Sp:=λvs H Q J=>∃(a:Addr)(ns:List Int),vs=[.ref a]/\SqL K H a (ns.map V.int)/\∀(p l:Addr)(H':Hp),H p=none->H l=none->Hd H' p l->Same H H'->Q (.ref p) H'
def D0e:Sp:=λvs H Q J=>∃a l,vs=[.ref a]/\Hd H a l/\∀(r:Int)(H':Hp),Hd H' a l->Kp a H H'->Q (.int r) H'
def D0f:Sp:=λvs H Q J=>∃a l,vs=[.ref a]/\Hd H a l/\∀(H':Hp),Hd H' a l->Kp a H H'->Q .non H'
def D0g:Sp:=λvs H Q J=>∃a l m,vs=[.ref a,.int m]/\Hd H a l/\0<m/\m<100000000000000000000000000000000000000000000000000000000000000/\∀(r:Int)(H':Hp),0<=r->r<m->Hd H' a l->Kp a H H'->Q (.int r) H'
def dEn (ks:List (List Int)):List (List Key×V):=ks.map λk=>(k.map Sum.inl,V.bl true)
def dEm (ks:List (List Int×Int)):List (List Key×V):=ks.map λp=>(p.1.map Sum.inl,V.int p.2)
def D0h (k:List Int):PyData:=.tuple (k.map PyData.int)
inductive DiU:HO->List (PyData×PyData)->Prop
 | t:DiU (.dT []) []
 | k (i j:Int):DiU (.dK [(Sum.inl i,V.int j)]) [(.int i,.int j)]
 | f (o:Obj) (ks:List (List Int)):DiU (.frz o (.dT (dEn ks))) ((.none,.none)::ks.map λk=>(D0h k,.bool true))
mutual
inductive ThV (F:Addr->Prop)(H:Hp):V->PyData->Prop
 | non:ThV F H .non .none
 | bl (b):ThV F H (.bl b) (.bool b)
 | int (i):ThV F H (.int i) (.int i)
 | str (x):ThV F H (.str x) (.str x)
 | lst {a xs ds}:F a->H a=some (.lst xs)->B4 F H xs ds->ThV F H (.ref a) (.list ds)
 | tup {a xs ds}:F a->H a=some (.tup xs)->B4 F H xs ds->ThV F H (.ref a) (.tuple ds)
 | dic {a u kvs}:F a->H a=some u->DiU u kvs->ThV F H (.ref a) (.dict kvs)
inductive B4 (F:Addr->Prop)(H:Hp):List V->List PyData->Prop
 | nil:B4 F H [] []
 | cons {x xs d ds}:ThV F H x d->B4 F H xs ds->B4 F H (x::xs) (d::ds)
end
theorem th_ind {F:Addr->Prop}{H:Hp}{m1:V->PyData->Prop}{m2:List V->List PyData->Prop}(c1:m1 .non .none)(c2:∀b,m1 (.bl b) (.bool b))(c3:∀i,m1 (.int i) (.int i))(c4:∀x,m1 (.str x) (.str x))(c5:∀{a xs ds},F a->H a=some (.lst xs)->B4 F H xs ds->m2 xs ds->m1 (.ref a) (.list ds))(c6:∀{a xs ds},F a->H a=some (.tup xs)->B4 F H xs ds->m2 xs ds->m1 (.ref a) (.tuple ds))(c7:∀{a u kvs},F a->H a=some u->DiU u kvs->m1 (.ref a) (.dict kvs))(c8:m2 [] [])(c9:∀{x xs d ds},ThV F H x d->B4 F H xs ds->m1 x d->m2 xs ds->m2 (x::xs) (d::ds)):(∀{v d},ThV F H v d->m1 v d)/\∀{vs ds},B4 F H vs ds->m2 vs ds:=
 ⟨λt=>ThV.rec (motive_1:=λv d J=>m1 v d) (motive_2:=λv d J=>m2 v d) c1 c2 c3 c4 c5 c6 c7 c8 c9 t,λt=>B4.rec (motive_1:=λv d J=>m1 v d) (motive_2:=λv d J=>m2 v d) c1 c2 c3 c4 c5 c6 c7 c8 c9 t⟩
theorem th_mv {F G:Addr->Prop}{H H':Hp}(f:∀b o,F b->H b=some o->G b/\H' b=some o):(∀{v d},ThV F H v d->ThV G H' v d)/\∀{vs ds},B4 F H vs ds->B4 G H' vs ds:=th_ind .non .bl .int .str (λn e J t=>.lst (f _ _ n e).1 (f _ _ n e).2 t) (λn e J t=>.tup (f _ _ n e).1 (f _ _ n e).2 t) (λn e t=>.dic (f _ _ n e).1 (f _ _ n e).2 t) .nil λJ J x t=>.cons x t
theorem ThV.mv {F G:Addr->Prop}{H H':Hp}(f:∀b o,F b->H b=some o->G b/\H' b=some o){v:V}{d:PyData}(t:ThV F H v d):ThV G H' v d:=(th_mv f).1 t
theorem B4.mv {F G:Addr->Prop}{H H':Hp}(f:∀b o,F b->H b=some o->G b/\H' b=some o){vs:List V}{ds:List PyData}(t:B4 F H vs ds):B4 G H' vs ds:=(th_mv f).2 t
theorem B4.same {F:Addr->Prop}{H H':Hp}{v:List V}{d:List PyData}(t:B4 F H v d)(s:Same H H'):B4 F H' v d:=t.mv λb o z e=>⟨z,s b o e⟩
theorem B4.append {F:Addr->Prop}{H:Hp}{xs:List V}{ds:List PyData}{ys:List V}{es:List PyData}(t:B4 F H xs ds)(y:B4 F H ys es):B4 F H (xs++ys) (ds++es):=by
 induction xs generalizing ds with
 | nil=>cases t;exact y
 | cons v xs ih=>
  cases t with
  | cons x t=>exact .cons x (ih t)
theorem B4.len {F:Addr->Prop}{H:Hp}{xs:List V}{ds:List PyData}(t:B4 F H xs ds):xs.length=ds.length:=by
 induction xs generalizing ds with
 | nil=>cases t;rfl
 | cons v xs ih=>
  cases t with
  | cons x t=>rw[K4,K4,ih t]
theorem B4.get {F:Addr->Prop}{H:Hp}:∀{xs:List V}{ds:List PyData}{i:Nat}{v:V},B4 F H xs ds->xs[i]?=some v->∃d,ds[i]?=some d/\ThV F H v d
 | _,_,_,_,.nil,e=>by simp at e
 | _,_,0,v,.cons (d:=d) x _,e=>by
  have e':=Option.some.inj e;subst e';exact⟨d,rfl,x⟩
 | _,_,i+1,v,.cons _ t,e=>B4.get (i:=i) t e
theorem B4.at {F:Addr->Prop}{H:Hp}:∀{xs:List V}{ds:List PyData}{i:Nat}{d:PyData},B4 F H xs ds->ds[i]?=some d->∃v,xs[i]?=some v/\ThV F H v d
 | _,_,_,_,.nil,e=>by simp at e
 | _,_,0,d,.cons (x:=v) x _,e=>by
  have e':=Option.some.inj e;subst e';exact⟨v,rfl,x⟩
 | _,_,i+1,v,.cons _ t,e=>B4.at (i:=i) t e
theorem th_dat {K:A8}{F:Addr->Prop}{H:Hp}:(∀{v d},ThV F H v d->d.canLay0=true->y9 K H v d)/\∀{vs ds},B4 F H vs ds->PyData.canLayAll0 ds=true->A05 K H vs ds:=th_ind (m1:=λv d=>d.canLay0=true->y9 K H v d) (m2:=λvs ds=>PyData.canLayAll0 ds=true->A05 K H vs ds) (λJ=>.non) (λb J=>.bl b) (λi J=>.int i) (λx J=>.str x) (λJ e J t h=>.lst (SqL.of e) (t (by rw[PyData.canLay0] at h;exact h))) (λJ e J t h=>.tup (SqT.of e) (t (by rw[PyData.canLay0] at h;exact h))) (λJ J J h=>by rw[PyData.canLay0] at h;cases h) (λJ=>.nil) λJ J x t h=>by
 rw[PyData.canLayAll0,X6] at h;exact .cons (x h.1) (t h.2)
theorem ThV.dat {K:A8}{F:Addr->Prop}{H:Hp}{v:V}{d:PyData}(t:ThV F H v d)(c:d.canLay0=true):y9 K H v d:=th_dat.1 t c
theorem B4.dat {K:A8}{F:Addr->Prop}{H:Hp}{vs:List V}{ds:List PyData}(t:B4 F H vs ds)(c:PyData.canLayAll0 ds=true):A05 K H vs ds:=th_dat.2 t c
structure DC where
 F:Addr->Prop
 hand:Option (Addr×Addr)
 H0:Hp
def Kq (h:Option (Addr×Addr))(H H':Hp):Prop:=∀b o,H b=some o->(∀q,h=some q->b≠q.1)->H' b=some o
def Hq (h:Option (Addr×Addr))(H:Hp):Prop:=∀q,h=some q->Hd H q.1 q.2
section
variable {h:Option (Addr×Addr)}{H H1 H2 H':Hp}{p:Addr}{o:HO}
theorem Kq.refl:Kq h H H:=λJ J e J=>e
theorem Kq.trans (a:Kq h H H1)(b:Kq h H1 H2):Kq h H H2:=λc o e n=>b c o (a c o e n) n
theorem Kq.same (s:Same H H'):Kq h H H':=λb o e J=>s b o e
theorem Kq.fr {b:Addr}(k:Kq h H H')(q:Hq h H')(e:H' b=none):H b=none:=by
 cases z:H b with
 | none=>rfl
 | some o=>
  by_cases c:∀p,h=some p->b≠p.1
  ·rw[k b o z c] at e;cases e
  ·refine absurd (λp hp hb=>?_) c;obtain⟨o',e'⟩:=(q p hp).at1;rw[hb,e'] at e;cases e
theorem Kq.lay (hp:H p=none):Kq h H (upd H p o):=Kq.same ((Same.refl H).lay hp)
theorem Hq.lay (q:Hq h H)(hp:H p=none):Hq h (upd H p o):=λz hz=>(q z hz).lay hp
end
inductive Rws (G F:Addr->Prop)(H:Hp):List Addr->List (List PyData)->Prop
 | nil:Rws G F H [] []
 | cons {b vs as ds dss}:G b->H b=some (.lst vs)->B4 F H vs ds->Rws G F H as dss->Rws G F H (b::as) (ds::dss)
theorem Rws.mv {G F G' F':Addr->Prop}{H H':Hp}{as:List Addr}{dss:List (List PyData)}(t:Rws G F H as dss)(f:∀b o,F b->H b=some o->F' b/\H' b=some o)(g:∀b o,G b->H b=some o->G' b/\H' b=some o):Rws G' F' H' as dss:=by
 induction t with
 | nil=>exact .nil
 | cons x e y _ ih=>exact .cons (g _ _ x e).1 (g _ _ x e).2 (y.mv f) ih
theorem Rws.mvl {G F G' F':Addr->Prop}{H H':Hp}{as:List Addr}{dss:List (List PyData)}(t:Rws G F H as dss)(f:∀b o,F b->H b=some o->F' b/\H' b=some o)(g:∀b ys,G b->H b=some (.lst ys)->G' b/\H' b=some (.lst ys)):Rws G' F' H' as dss:=by
 induction t with
 | nil=>exact .nil
 | cons x e y _ ih=>exact .cons (g _ _ x e).1 (g _ _ x e).2 (y.mv f) ih
def A7f (H:Hp)(a:Addr)(ks:List (List Int)):Bool->Prop
 | false=>H a=some (.dT (dEn ks))
 | true=>∃o,H a=some (.frz o (.dT (dEn ks)))
theorem A7f.mv {H H':Hp}{a:Addr}{ks:List (List Int)}{f:Bool}(h:A7f H a ks f)(k:∀o,H a=some o->H' a=some o):A7f H' a ks f:=by
 cases f with
 | false=>exact k _ h
 | true=>obtain⟨o,h⟩:=h;exact⟨o,k _ h⟩
theorem A7f.ne {H:Hp}{a:Addr}{ks:List (List Int)}{f:Bool}(h:A7f H a ks f):H a≠none:=by
 cases f with
 | false=>exact λq=>by rw[show H a=_ from h] at q;cases q
 | true=>obtain⟨o,h⟩:=h;exact λq=>by rw[h] at q;cases q
def A7g (H:Hp)(a:Addr)(ks:List (List Int×Int)):Bool->Prop
 | false=>H a=some (.dT (dEm ks))
 | true=>∃o,H a=some (.frz o (.dT (dEm ks)))
theorem A7g.mv {H H':Hp}{a:Addr}{ks:List (List Int×Int)}{f:Bool}(h:A7g H a ks f)(k:∀o,H a=some o->H' a=some o):A7g H' a ks f:=by
 cases f with
 | false=>exact k _ h
 | true=>obtain⟨o,h⟩:=h;exact⟨o,k _ h⟩
theorem A7g.ne {H:Hp}{a:Addr}{ks:List (List Int×Int)}{f:Bool}(h:A7g H a ks f):H a≠none:=by
 cases f with
 | false=>exact λq=>by rw[show H a=_ from h] at q;cases q
 | true=>obtain⟨o,h⟩:=h;exact λq=>by rw[h] at q;cases q
structure C1v where
 p:(Addr->Prop)->Hp->V->Prop
 mv:∀{W W':Addr->Prop}{H H':Hp}{v:V},(∀b o,W b->H b=some o->W' b/\H' b=some o)->p W H v->p W' H' v
inductive Sl where
 | no
 | sh (d:PyData)
 | ow (ds:List PyData)
 | bo (ds:List PyData)
 | hd
 | o2 (dss:List (List PyData))
 | b2 (dss:List (List PyData))
 | di (f:Bool) (ks:List (List Int))
 | dm (f:Bool) (kvs:List (List Int×Int))
 | bd (d:PyData)
 | ot (d:PyData)
 | ob (R:C1v)
abbrev Z (col:Addr->Nat):Addr->Prop:=λb=>col b=0
abbrev Le (C:DC):Addr->Prop:=λb=>C.H0 b≠none/\∀q,C.hand=some q->b≠q.1
abbrev Ow (C:DC)(col:Addr->Nat)(H:Hp)(i:Nat):Addr->Prop:=λb=>(col b=2*i+3/\C.H0 b=none)\/(col b=0/\∃xs,H b=some (.tup xs))
def SlR (C:DC)(col:Addr->Nat)(H:Hp)(i:Nat)(o:Option V):Sl->Prop
 | .no=>True
 | .sh d=>∃v,o=some v/\ThV (Z col) H v d
 | .ow ds=>∃a vs,o=some (.ref a)/\col a=2*i+3/\C.H0 a=none/\H a=some (.lst vs)/\B4 (Z col) H vs ds
 | .bo ds=>∃a vs,o=some (.ref a)/\col a<=1/\(∀q,C.hand=some q->a≠q.1)/\H a=some (.lst vs)/\B4 (Z col) H vs ds
 | .hd=>∃q,C.hand=some q/\o=some (.ref q.1)
 | .o2 dss=>∃a as,o=some (.ref a)/\(col a=2*i+3/\C.H0 a=none)/\H a=some (.lst (as.map V.ref))/\(a::as).Nodup/\Rws (λb=>col b=2*i+3/\C.H0 b=none) (Z col) H as dss
 | .b2 dss=>∃a as,o=some (.ref a)/\(col a<=1/\∀q,C.hand=some q->a≠q.1)/\H a=some (.lst (as.map V.ref))/\Rws (λb=>col b<=1/\∀q,C.hand=some q->b≠q.1) (Z col) H as dss
 | .di f ks=>∃a,o=some (.ref a)/\col a=2*i+3/\C.H0 a=none/\A7f H a ks f
 | .dm f ks=>∃a,o=some (.ref a)/\col a=2*i+3/\C.H0 a=none/\A7g H a ks f
 | .bd d=>∃v,o=some v/\ThV (Le C) C.H0 v d
 | .ot d=>∃v,o=some v/\ThV (Ow C col H i) H v d
 | .ob R=>∃v,o=some v/\R.p (Ow C col H i) H v
inductive Pe where
 | v (v:V) (d:PyData)
 | n (a:Addr) (o:HO)
 | s (vs:List V) (ds:List PyData)
 | o (c:Nat) (as:List Addr) (dss:List (List PyData))
 | w (v:V) (d:PyData)
def PeR (C:DC)(col:Addr->Nat)(H:Hp):Pe->Prop
 | .v v d=>ThV (Z col) H v d
 | .n a o=>col a<=1/\(∀q,C.hand=some q->a≠q.1)/\H a=some o
 | .s vs ds=>B4 (Z col) H vs ds
 | .o c as dss=>as.Nodup/\Rws (λb=>col b=2*c+2/\C.H0 b=none) (Z col) H as dss
 | .w v d=>ThV (Le C) C.H0 v d
structure G0 (C:DC)(col:Addr->Nat)(ρ:List Sl)(σ:St)(P:List Pe)(H:Hp):Prop where
 fresh:∀b,H b=none->col b=0
 inF:∀b,col b=0->C.F b
 hnd:∀q,C.hand=some q->col q.1=1
 sl:∀i s,ρ[i]?=some s->SlR C col H i (σ[i]?).join s
 pd:∀p∈P,PeR C col H p
 kq:Kq C.hand C.H0 H
 hq:Hq C.hand H
 hq0:Hq C.hand C.H0
 nf:(∀b,C.H0 b=none->C.F b)/\∀b xs,C.H0 b=some (.tup xs)->C.F b
 len:ρ.length=σ.length
def Rel (C:DC)(ρ:List Sl)(σ:St)(P:List Pe)(H:Hp):Prop:=∃col,G0 C col ρ σ P H
variable {C:DC}
section
variable {col col':Addr->Nat}{ρ:List Sl}{σ:St}{P P':List Pe}{H H':Hp}{v:V}{d:PyData}{o:HO}{p:Addr}
theorem G0.notH (r:G0 C col ρ σ P H){b:Addr}(hb:col b≠1):∀q,C.hand=some q->b≠q.1:=λq hq e=>hb (e▸r.hnd q hq)
theorem G0.mv (r:G0 C col ρ σ P H)(k:Kq C.hand H H')(q:Hq C.hand H'):G0 C col ρ σ P H':=by
 have mv0:∀b o,Z col b->H b=some o->Z col b/\H' b=some o:=λb o z e=>⟨z,k b o e (r.notH (by rw[show col b=0 from z];decide))⟩;refine⟨λb e=>r.fresh b (k.fr q e),r.inF,r.hnd,λi s e=>?_,λp hp=>?_,r.kq.trans k,q,r.hq0,r.nf,r.len⟩
 ·have h:=r.sl i s e;cases s with
  | no=>trivial
  | sh d=>obtain⟨v,e1,t⟩:=h;exact⟨v,e1,t.mv mv0⟩
  | ow ds=>obtain⟨a,vs,e1,c,n,e2,t⟩:=h;exact⟨a,vs,e1,c,n,k a _ e2 (r.notH (by omega)),t.mv mv0⟩
  | bo ds=>obtain⟨a,vs,e1,c,n,e2,t⟩:=h;exact⟨a,vs,e1,c,n,k a _ e2 n,t.mv mv0⟩
  | hd=>exact h
  | o2 dss=>obtain⟨a,as,e1,c,e2,nd,t⟩:=h;exact⟨a,as,e1,c,k a _ e2 (r.notH (by omega)),nd,t.mv mv0 λb o g e=>⟨g,k b o e (r.notH (by have:=g.1;omega))⟩⟩
  | b2 dss=>obtain⟨a,as,e1,c,e2,t⟩:=h;exact⟨a,as,e1,c,k a _ e2 c.2,t.mv mv0 λb o g e=>⟨g,k b o e g.2⟩⟩
  | di f ks=>obtain⟨a,e1,c,n,e2⟩:=h;exact⟨a,e1,c,n,e2.mv λo e=>k a o e (r.notH (by omega))⟩
  | dm f ks=>obtain⟨a,e1,c,n,e2⟩:=h;exact⟨a,e1,c,n,e2.mv λo e=>k a o e (r.notH (by omega))⟩
  | bd d=>exact h
  | ot d=>obtain⟨v,e1,t⟩:=h;refine⟨v,e1,t.mv λb o g e=>?_⟩;have e':H' b=some o:=k b o e (r.notH (by rcases g with g | g <;> (have:=g.1;omega)));exact⟨g.imp id λ⟨c,xs,z⟩=>⟨c,xs,by rw[e] at z;rw[e'];exact z⟩,e'⟩
  | ob R=>obtain⟨v,e1,t⟩:=h;refine⟨v,e1,R.mv (λb o g e=>?_) t⟩;have e':H' b=some o:=k b o e (r.notH (by rcases g with g | g <;> (have:=g.1;omega)));exact⟨g.imp id λ⟨c,xs,z⟩=>⟨c,xs,by rw[e] at z;rw[e'];exact z⟩,e'⟩
 ·have h:=r.pd p hp;cases p with
  | v v d=>exact ThV.mv mv0 h
  | n a o=>exact⟨h.1,h.2.1,k a o h.2.2 h.2.1⟩
  | s vs ds=>exact B4.mv mv0 h
  | o c as dss=>exact⟨h.1,h.2.mv mv0 λb o g e=>⟨g,k b o e (r.notH (by have:=g.1;omega))⟩⟩
  | w v d=>exact h
theorem G0.lay (r:G0 C col ρ σ P H)(hp:H p=none):G0 C col ρ σ P (upd H p o):=r.mv (Kq.lay hp) (r.hq.lay hp)
theorem G0.add (r:G0 C col ρ σ P H){x:Pe}(t:PeR C col H x):G0 C col ρ σ (x::P) H:=
 { r with pd:=λp hp=>(G1.mp hp).elim (λe=>e▸t) (r.pd p) }
theorem G0.push (r:G0 C col ρ σ P H)(t:ThV (Z col) H v d):G0 C col ρ σ (.v v d::P) H:=r.add t
theorem G0.sub (r:G0 C col ρ σ P H)(h:∀p∈P',p∈P):G0 C col ρ σ P' H:={ r with pd:=λp hp=>r.pd p (h p hp) }
theorem Rel.sub (r:Rel C ρ σ P H)(h:∀p∈P',p∈P):Rel C ρ σ P' H:=let ⟨c,r⟩:=r;⟨c,r.sub h⟩
theorem Rel.pop {x:Pe}(r:Rel C ρ σ (x::P) H):Rel C ρ σ P H:=r.sub λJ h=>C8 _ h
theorem G0.tup {vs:List V}{ds:List PyData}(r:G0 C col ρ σ P H)(t:B4 (Z col) H vs ds)(hp:H p=none):G0 C col ρ σ (.v (.ref p) (.tuple ds)::P) (upd H p (.tup vs)):=
 (r.lay hp).push (.tup (r.fresh p hp) B3 (t.same ((Same.refl H).lay hp)))
theorem G0.lst {vs:List V}{ds:List PyData}(r:G0 C col ρ σ P H)(t:B4 (Z col) H vs ds)(hp:H p=none):G0 C col ρ σ (.v (.ref p) (.list ds)::P) (upd H p (.lst vs)):=
 (r.lay hp).push (.lst (r.fresh p hp) B3 (t.same ((Same.refl H).lay hp)))
theorem G0.recol (r:G0 C col ρ σ P H){ρ':List Sl}{σ':St}(hl:ρ'.length=σ'.length)(f:∀b,H b=none->col' b=0)(i:∀b,col' b=0->C.F b)(n:∀q,C.hand=some q->col' q.1=1)(z:∀b,col b=0->H b≠none->col' b=0)
  (lo:∀b,col b<=1->H b≠none->col' b<=1) (c2:∀b c,col b=2*c+2->col' b=2*c+2) (s:∀i s,ρ'[i]?=some s->SlR C col' H i (σ'[i]?).join s):G0 C col' ρ' σ' P H:=by
 have mv0:∀b o,Z col b->H b=some o->Z col' b/\H b=some o:=λb o zz e=>⟨z b zz (by rw[e];exact λq=>nomatch q),e⟩;refine⟨f,i,n,s,λp hp=>?_,r.kq,r.hq,r.hq0,r.nf,hl⟩;have h:=r.pd p hp;cases p with
 | v v d=>exact ThV.mv mv0 h
 | n a o=>exact⟨lo a h.1 (by rw[h.2.2];exact λq=>nomatch q),h.2⟩
 | s vs ds=>exact B4.mv mv0 h
 | o c as dss=>exact⟨h.1,h.2.mv mv0 λb o g e=>⟨⟨c2 b c g.1,g.2⟩,e⟩⟩
 | w v d=>exact h
theorem G0.freeze {i:Nat}{ds:List PyData}(r:G0 C col ρ σ P H)(e:ρ[i]?=some (.ow ds)) :
  ∃a,(σ[i]?).join=some (.ref a)/\Rel C (ρ.set i (.sh (.list ds))) σ (.v (.ref a) (.list ds)::P) H:=by
 obtain⟨a,vs,e1,c,n,e2,t⟩:=r.sl i _ e
 let col':Addr->Nat:=λb=>if b=a then 0 else col b
 have ca:col' a=0:=if_pos rfl;have cn:∀b,b≠a->col' b=col b:=λb hb=>if_neg hb;have z:∀b,col b=0->col' b=0:=λb hb=>by
  by_cases q:b=a
  ·rw[q];exact ca
  ·rw[cn b q];exact hb
 have mv0:∀b o,Z col b->H b=some o->Z col' b/\H b=some o:=λb o zz e=>⟨z b zz,e⟩;have T:ThV (Z col') H (.ref a) (.list ds):=.lst ca e2 (t.mv mv0);have R:G0 C col' (ρ.set i (.sh (.list ds))) σ P H:=by
  refine r.recol (by rw[S3];exact r.len) (λb hb=>z b (r.fresh b hb)) (λb hb=>?_) (λq hq=>?_) (λb hb J=>z b hb) (λb hb J=>?_) (λb c2 hb=>by rw[cn b (λq=>by rw[q] at hb;omega)];exact hb) λj s es=>?_
  ·by_cases q:b=a
   ·rw[q];exact r.nf.1 a n
   ·rw[cn b q] at hb;exact r.inF b hb
  ·rw[cn _ λq'=>by have:=r.hnd q hq;rw[q'] at this;omega];exact r.hnd q hq
  ·by_cases q:b=a
   ·rw[q,ca];omega
   ·rw[cn b q];exact hb
  ·by_cases hj:j=i
   ·subst hj;rw[A4o] at es;simp only[if_true] at es;split at es
    ·cases es;exact⟨_,e1,T⟩
    ·cases es
   ·rw[v8 (Ne.symm hj)] at es;have h:=r.sl j s es;cases s with
    | no=>trivial
    | sh d=>obtain⟨v,e1,t⟩:=h;exact⟨v,e1,t.mv mv0⟩
    | ow ds=>obtain⟨a',vs',e1',c',n',e2',t'⟩:=h;exact⟨a',vs',e1',by rw[cn a' (λq=>by rw[q] at c';omega)];exact c',n',e2',t'.mv mv0⟩
    | bo ds=>obtain⟨a',vs',e1',c',n',e2',t'⟩:=h;exact⟨a',vs',e1',by by_cases q:a'=a;{ rw[q,ca];omega };{ rw[cn a' q];exact c' },n',e2',t'.mv mv0⟩
    | hd=>exact h
    | o2 dss=>obtain⟨a',as',e1',c',e2',nd',t'⟩:=h;exact⟨a',as',e1',⟨by rw[cn a' (λq=>by rw[q] at c';omega)];exact c'.1,c'.2⟩,e2',nd',t'.mv mv0 λb o g e=>⟨⟨by rw[cn b (λq=>by have:=g.1;rw[q] at this;omega)];exact g.1,g.2⟩,e⟩⟩
    | b2 dss=>obtain⟨a',as',e1',c',e2',t'⟩:=h;exact⟨a',as',e1',⟨by by_cases q:a'=a;{ rw[q,ca];omega };{ rw[cn a' q];exact c'.1 },c'.2⟩,e2',t'.mv mv0 λb o g e=>⟨⟨by by_cases q:b=a;{ rw[q,ca];omega };{ rw[cn b q];exact g.1 },g.2⟩,e⟩⟩
    | di f ks=>obtain⟨a',e1',c',n',e2'⟩:=h;exact⟨a',e1',by rw[cn a' (λq=>by rw[q] at c';omega)];exact c',n',e2'⟩
    | dm f ks=>obtain⟨a',e1',c',n',e2'⟩:=h;exact⟨a',e1',by rw[cn a' (λq=>by rw[q] at c';omega)];exact c',n',e2'⟩
    | bd d=>exact h
    | ot d=>obtain⟨v,e1',t'⟩:=h;exact⟨v,e1',t'.mv λb o g e=>⟨g.imp (λg=>⟨by rw[cn b (λq=>by rw[q] at g;have:=g.1;omega)];exact g.1,g.2⟩) λg=>⟨z b g.1,g.2⟩,e⟩⟩
    | ob R=>obtain⟨v,e1',t'⟩:=h;exact⟨v,e1',R.mv (λb o g e=>⟨g.imp (λg=>⟨by rw[cn b (λq=>by rw[q] at g;have:=g.1;omega)];exact g.1,g.2⟩) λg=>⟨z b g.1,g.2⟩,e⟩) t'⟩
 exact⟨a,e1,col',R.push T⟩
set_option tactic.hygienic true in
theorem G0.store {i:Nat}(r:G0 C col ρ σ P H)(t:ThV (Z col) H v d):G0 C col (ρ.set i (.sh d)) (σ.set i (some v)) P H:=by
 refine { r with sl:=λj s es=>?_,len:=by rw[S3,S3];exact r.len };by_cases hj:j=i
 ·subst hj;rw[A4o] at es;simp only[if_true] at es;split at es
  ·rename_i hl;cases es;refine⟨v,?_,t⟩;rw[A4o,if_pos rfl,if_pos (by rw[<-r.len];exact hl)];rfl
  ·cases es
 ·rw[v8 (Ne.symm hj)] at es;rw[v8 (Ne.symm hj)];exact r.sl j s es
set_option tactic.hygienic true in
theorem G0.own {i:Nat}{vs:List V}{ds:List PyData}(r:G0 C col ρ σ P H)(t:B4 (Z col) H vs ds)(hp:H p=none):Rel C (ρ.set i (.ow ds)) (σ.set i (some (.ref p))) P (upd H p (.lst vs)):=by
 let col':Addr->Nat:=λb=>if b=p then 2*i+3 else col b
 have ca:col' p=2*i+3:=if_pos rfl;have cn:∀b,b≠p->col' b=col b:=λb hb=>if_neg hb;have ne:∀b,H b≠none->b≠p:=λb hb q=>hb (q▸hp);have mv0:∀b o,Z col b->H b=some o->Z col' b/\upd H p (.lst vs) b=some o:=λb o zz e=>by
  have q:=ne b (by rw[e];exact λq=>nomatch q);exact⟨(cn b q).trans zz,by rw[B7 q];exact e⟩
 have r1:=r.lay (o:=.lst vs) hp;have c0:C.H0 p=none:=r.kq.fr r.hq hp;refine⟨col',λb hb=>?_,λb hb=>?_,λq hq=>?_,λj s es=>?_,λx hx=>?_,r1.kq,r1.hq,r.hq0,r.nf,by rw[S3,S3];exact r.len⟩
 ·have q:b≠p:=λq=>by rw[q,B3] at hb;cases hb
  rw[cn b q];exact r1.fresh b hb
 ·have q:b≠p:=λq=>by rw[q,ca] at hb;cases hb
  rw[cn b q] at hb;exact r.inF b hb
 ·obtain⟨o',e'⟩:=(r.hq q hq).at1;rw[cn _ (ne _ (by rw[e'];exact λq=>nomatch q))];exact r.hnd q hq
 ·by_cases hj:j=i
  ·subst hj;rw[A4o] at es;simp only[if_true] at es;split at es
   ·rename_i hl;cases es;exact⟨p,vs,by rw[A4o,if_pos rfl,if_pos (by rw[<-r.len];exact hl)];rfl,ca,c0,B3,t.mv mv0⟩
   ·cases es
  ·rw[v8 (Ne.symm hj)] at es;rw[v8 (Ne.symm hj)];have h:=r.sl j s es;cases s with
   | no=>trivial
   | sh d=>obtain⟨v,e1,t⟩:=h;exact⟨v,e1,t.mv mv0⟩
   | ow ds=>obtain⟨a',vs',e1',c',n',e2',t'⟩:=h;have q:=ne a' (by rw[e2'];exact λq=>nomatch q);exact⟨a',vs',e1',by rw[cn a' q];exact c',n',by rw[B7 q];exact e2',t'.mv mv0⟩
   | bo ds=>obtain⟨a',vs',e1',c',n',e2',t'⟩:=h;have q:=ne a' (by rw[e2'];exact λq=>nomatch q);exact⟨a',vs',e1',by rw[cn a' q];exact c',n',by rw[B7 q];exact e2',t'.mv mv0⟩
   | hd=>exact h
   | o2 dss=>
    obtain⟨a',as',e1',c',e2',nd',t'⟩:=h;have q:=ne a' (by rw[e2'];exact λq=>nomatch q);exact⟨a',as',e1',⟨by rw[cn a' q];exact c'.1,c'.2⟩,by rw[B7 q];exact e2',nd',t'.mv mv0 λb o g e=>by
     have q:=ne b (by rw[e];exact λq=>nomatch q);exact⟨⟨by rw[cn b q];exact g.1,g.2⟩,by rw[B7 q];exact e⟩⟩
   | b2 dss=>
    obtain⟨a',as',e1',c',e2',t'⟩:=h;have q:=ne a' (by rw[e2'];exact λq=>nomatch q);exact⟨a',as',e1',⟨by rw[cn a' q];exact c'.1,c'.2⟩,by rw[B7 q];exact e2',t'.mv mv0 λb o g e=>by
     have q:=ne b (by rw[e];exact λq=>nomatch q);exact⟨⟨by rw[cn b q];exact g.1,g.2⟩,by rw[B7 q];exact e⟩⟩
   | di f ks=>obtain⟨a',e1',c',n',e2'⟩:=h;have q:=ne a' e2'.ne;exact⟨a',e1',by rw[cn a' q];exact c',n',e2'.mv λo e=>by rw[B7 q];exact e⟩
   | dm f ks=>obtain⟨a',e1',c',n',e2'⟩:=h;have q:=ne a' e2'.ne;exact⟨a',e1',by rw[cn a' q];exact c',n',e2'.mv λo e=>by rw[B7 q];exact e⟩
   | bd d=>exact h
   | ot d=>
    obtain⟨v,e1',t'⟩:=h;exact⟨v,e1',t'.mv λb o g e=>by
     have q:=ne b (by rw[e];exact λq=>nomatch q);exact⟨g.imp (λg=>⟨by rw[cn b q];exact g.1,g.2⟩) λg=>⟨by rw[cn b q];exact g.1,by rw[B7 q];exact g.2⟩,by rw[B7 q];exact e⟩⟩
   | ob R=>
    obtain⟨v,e1',t'⟩:=h;exact⟨v,e1',R.mv (λb o g e=>by
     have q:=ne b (by rw[e];exact λq=>nomatch q);exact⟨g.imp (λg=>⟨by rw[cn b q];exact g.1,g.2⟩) λg=>⟨by rw[cn b q];exact g.1,by rw[B7 q];exact g.2⟩,by rw[B7 q];exact e⟩) t'⟩
 ·have h:=r.pd x hx;cases x with
  | v v d=>exact ThV.mv mv0 h
  | n a o=>have q:=ne a (by rw[h.2.2];exact λq=>nomatch q);exact⟨by rw[cn a q];exact h.1,h.2.1,by rw[B7 q];exact h.2.2⟩
  | s vs ds=>exact B4.mv mv0 h
  | o c as dss=>exact⟨h.1,h.2.mv mv0 λb o g e=>by
    have q:=ne b (by rw[e];exact λq=>nomatch q);exact⟨⟨by rw[cn b q];exact g.1,g.2⟩,by rw[B7 q];exact e⟩⟩
  | w v d=>exact h
theorem G0.write {i:Nat}{a:Addr}{ws:List V}{ds es:List PyData}(r:G0 C col ρ σ P H)(e:ρ[i]?=some (.ow ds))(ea:(σ[i]?).join=some (.ref a))(t:B4 (Z col) H ws es) :
  G0 C col (ρ.set i (.ow es)) σ P (upd H a (.lst ws)):=by
 obtain⟨a',vs',e1,c,n,e2,_⟩:=r.sl i _ e;rw[e1] at ea;cases ea;have ne:∀b,col b≠2*i+3->b≠a:=λb hb q=>hb (q▸c);have mv0:∀b o,Z col b->H b=some o->Z col b/\upd H a (.lst ws) b=some o:=λb o zz e=>⟨zz,by rw[B7 (ne b (by rw[show col b=0 from zz];omega))];exact e⟩;refine⟨λb hb=>?_,r.inF,r.hnd,λj s es'=>?_,λx hx=>?_,λb o e q=>?_,λq hq=>?_,r.hq0,r.nf,by rw[S3];exact r.len⟩
 ·by_cases q:b=a
  ·rw[q,B3] at hb;cases hb
  ·rw[B7 q] at hb;exact r.fresh b hb
 ·by_cases hj:j=i
  ·subst hj;rw[A4o] at es';simp only[if_true] at es';split at es'
   ·cases es';exact⟨a,ws,e1,c,n,B3,t.mv mv0⟩
   ·cases es'
  ·rw[v8 (Ne.symm hj)] at es';have h:=r.sl j s es';cases s with
   | no=>trivial
   | sh d=>obtain⟨v,e1,t⟩:=h;exact⟨v,e1,t.mv mv0⟩
   | ow ds=>obtain⟨a',vs',e1',c',n',e2',t'⟩:=h;exact⟨a',vs',e1',c',n',by rw[B7 (ne a' (by omega))];exact e2',t'.mv mv0⟩
   | bo ds=>obtain⟨a',vs',e1',c',n',e2',t'⟩:=h;exact⟨a',vs',e1',c',n',by rw[B7 (ne a' (by omega))];exact e2',t'.mv mv0⟩
   | hd=>exact h
   | o2 dss=>obtain⟨a',as',e1',c',e2',nd',t'⟩:=h;exact⟨a',as',e1',c',by rw[B7 (ne a' (by omega))];exact e2',nd',t'.mv mv0 λb o g e=>⟨g,by rw[B7 (ne b (by have:=g.1;omega))];exact e⟩⟩
   | b2 dss=>obtain⟨a',as',e1',c',e2',t'⟩:=h;exact⟨a',as',e1',c',by rw[B7 (ne a' (by have:=c'.1;omega))];exact e2',t'.mv mv0 λb o g e=>⟨g,by rw[B7 (ne b (by have:=g.1;omega))];exact e⟩⟩
   | di f ks=>obtain⟨a',e1',c',n',e2'⟩:=h;exact⟨a',e1',c',n',e2'.mv λo e=>by rw[B7 (ne a' (by omega))];exact e⟩
   | dm f ks=>obtain⟨a',e1',c',n',e2'⟩:=h;exact⟨a',e1',c',n',e2'.mv λo e=>by rw[B7 (ne a' (by omega))];exact e⟩
   | bd d=>exact h
   | ot d=>
    obtain⟨v,e1',t'⟩:=h;exact⟨v,e1',t'.mv λb o g e=>by
     have q:=ne b (by rcases g with g | g <;> (have:=g.1;omega));exact⟨g.imp id λg=>⟨g.1,by rw[B7 q];exact g.2⟩,by rw[B7 q];exact e⟩⟩
   | ob R=>
    obtain⟨v,e1',t'⟩:=h;exact⟨v,e1',R.mv (λb o g e=>by
     have q:=ne b (by rcases g with g | g <;> (have:=g.1;omega));exact⟨g.imp id λg=>⟨g.1,by rw[B7 q];exact g.2⟩,by rw[B7 q];exact e⟩) t'⟩
 ·have h:=r.pd x hx;cases x with
  | v v d=>exact ThV.mv mv0 h
  | n b o=>exact⟨h.1,h.2.1,by rw[B7 (ne b (by have:=h.1;omega))];exact h.2.2⟩
  | s vs ds=>exact B4.mv mv0 h
  | o c as dss=>exact⟨h.1,h.2.mv mv0 λb o g e=>⟨g,by rw[B7 (ne b (by have:=g.1;omega))];exact e⟩⟩
  | w v d=>exact h
 ·have z:=r.kq b o e q;have q':b≠a:=λq'=>by rw[q',n] at e;cases e
  rw[B7 q'];exact z
 ·obtain⟨o1,h1⟩:=(r.hq0 q hq).at1;obtain⟨o2,h2⟩:=(r.hq0 q hq).at2;exact (r.hq q hq).wr (λz=>by rw[<-z,n] at h1;cases h1) (λz=>by rw[<-z,n] at h2;cases h2)
end
open Classical in
theorem G0.norm {C:DC}{col:Addr->Nat}{ρ:List Sl}{σ:St}{P:List Pe}{H:Hp}(r:G0 C col ρ σ P H):∃col',G0 C col' ρ σ P H/\∀b xs,H b=some (.tup xs)->col' b=0:=by
 let col':Addr->Nat:=λb=>if ∃xs,H b=some (.tup xs) then 0 else col b
 have ct:∀b xs,H b=some (.tup xs)->col' b=0:=λb xs e=>if_pos ⟨xs,e⟩;have cn:∀b,(∀xs,H b≠some (.tup xs))->col' b=col b:=λb h=>if_neg λ⟨xs,e⟩=>h xs e;have hl:∀b ys,H b=some (.lst ys)->col' b=col b:=λb ys e=>cn b λxs z=>by rw[e] at z;cases z
 have hd:∀q,C.hand=some q->∀xs,H q.1≠some (.tup xs):=λq hq xs z=>by
  obtain⟨_,_,_,_,_,_,_,_,e⟩:=r.hq q hq;rw[e] at z;cases z
 have z0:∀b,col b=0->col' b=0:=λb hb=>by
  by_cases h:∃xs,H b=some (.tup xs)
  ·exact if_pos h
  ·exact (if_neg h).trans hb
 have lo:∀b,col b<=1->col' b<=1:=λb hb=>by
  by_cases h:∃xs,H b=some (.tup xs)
  ·rw[show col' b=0 from if_pos h];omega
  ·rw[show col' b=col b from if_neg h];exact hb
 have mv0:∀b o,Z col b->H b=some o->Z col' b/\H b=some o:=λb o zz e=>⟨z0 b zz,e⟩;refine⟨col',⟨λb e=>z0 b (r.fresh b e),λb hb=>?_,λq hq=>(cn _ (hd q hq)).trans (r.hnd q hq),λi s e=>?_,λp hp=>?_,r.kq,r.hq,r.hq0,r.nf,r.len⟩,ct⟩
 ·by_cases h:∃xs,H b=some (.tup xs)
  ·obtain⟨xs,h⟩:=h;cases q:C.H0 b with
   | none=>exact r.nf.1 b q
   | some o=>have:=r.kq b o q λp hp e=>hd p hp xs (e▸h);rw[this] at h;cases h;exact r.nf.2 b xs q
  ·rw[show col' b=col b from if_neg h] at hb;exact r.inF b hb
 ·have h:=r.sl i s e;cases s with
  | no=>trivial
  | sh d=>obtain⟨v,e1,t⟩:=h;exact⟨v,e1,t.mv mv0⟩
  | ow ds=>obtain⟨a,vs,e1,c,n,e2,t⟩:=h;exact⟨a,vs,e1,(hl a _ e2).trans c,n,e2,t.mv mv0⟩
  | bo ds=>obtain⟨a,vs,e1,c,n,e2,t⟩:=h;exact⟨a,vs,e1,lo a c,n,e2,t.mv mv0⟩
  | hd=>exact h
  | o2 dss=>obtain⟨a,as,e1,c,e2,nd,t⟩:=h;exact⟨a,as,e1,⟨(hl a _ e2).trans c.1,c.2⟩,e2,nd,t.mvl mv0 λb ys g e=>⟨⟨(hl b _ e).trans g.1,g.2⟩,e⟩⟩
  | b2 dss=>obtain⟨a,as,e1,c,e2,t⟩:=h;exact⟨a,as,e1,⟨lo a c.1,c.2⟩,e2,t.mvl mv0 λb ys g e=>⟨⟨lo b g.1,g.2⟩,e⟩⟩
  | di f ks=>
   obtain⟨a,e1,c,n,e2⟩:=h;refine⟨a,e1,(cn a λxs z=>?_).trans c,n,e2⟩;cases f with
   | false=>rw[show H a=_ from e2] at z;cases z
   | true=>obtain⟨o,e2⟩:=e2;rw[e2] at z;cases z
  | dm f ks=>
   obtain⟨a,e1,c,n,e2⟩:=h;refine⟨a,e1,(cn a λxs z=>?_).trans c,n,e2⟩;cases f with
   | false=>rw[show H a=_ from e2] at z;cases z
   | true=>obtain⟨o,e2⟩:=e2;rw[e2] at z;cases z
  | bd d=>exact h
  | ot d=>
   obtain⟨v,e1,t⟩:=h;refine⟨v,e1,t.mv λb o g e=>⟨?_,e⟩⟩;by_cases q:∃xs,H b=some (.tup xs)
   ·obtain⟨xs,q⟩:=q;exact .inr ⟨ct b xs q,xs,q⟩
   ·rcases g with g | g
    ·exact .inl ⟨(if_neg q).trans g.1,g.2⟩
    ·exact absurd g.2 q
  | ob R=>
   obtain⟨v,e1,t⟩:=h;refine⟨v,e1,R.mv (λb o g e=>⟨?_,e⟩) t⟩;by_cases q:∃xs,H b=some (.tup xs)
   ·obtain⟨xs,q⟩:=q;exact .inr ⟨ct b xs q,xs,q⟩
   ·rcases g with g | g
    ·exact .inl ⟨(if_neg q).trans g.1,g.2⟩
    ·exact absurd g.2 q
 ·have h:=r.pd p hp;cases p with
  | v v d=>exact ThV.mv mv0 h
  | n a o=>exact⟨lo a h.1,h.2⟩
  | s vs ds=>exact B4.mv mv0 h
  | o c as dss=>exact⟨h.1,h.2.mvl mv0 λb ys g e=>⟨⟨(hl b _ e).trans g.1,g.2⟩,e⟩⟩
  | w v d=>exact h
inductive Pds (P:List Pe):List V->List PyData->Prop
 | nil:Pds P [] []
 | cons {v d vs ds}:Pe.v v d∈P->Pds P vs ds->Pds P (v::vs) (d::ds)
theorem Pds.th {C:DC}{col:Addr->Nat}{ρ:List Sl}{σ:St}{P:List Pe}{H:Hp}(r:G0 C col ρ σ P H):∀{vs:List V}{ds:List PyData},Pds P vs ds->B4 (Z col) H vs ds
 | _,_,.nil=>.nil
 | _,_,.cons h t=>.cons (r.pd _ h) (Pds.th r t)
abbrev DE:=List Sl->(PyData->List Sl->Prop)->Prop
abbrev DT:=List Sl->(Bool->List Sl->Prop)->Prop
abbrev DF:=List Sl->(List PyData->List Sl->Prop)->Prop
def eOf (C:DC)(t:DE):TE:=fun σ H Q=>∃ρ P Qd,Rel C ρ σ P H/\t ρ Qd/\∀v d ρ' H',Rel C ρ' σ (.v v d::P) H'->Qd d ρ'->Q v H'
def cOf (C:DC)(t:DT):TT:=fun σ H Q=>∃ρ P Qd,Rel C ρ σ P H/\t ρ Qd/\∀b ρ' H',Rel C ρ' σ P H'->Qd b ρ'->Q b H'
def fOf (C:DC)(t:DF):TE:=fun σ H Q=>∃ρ P Qd,Rel C ρ σ P H/\t ρ Qd/\∀p vs ds ρ' H1,(∃col,G0 C col ρ' σ P H1/\B4 (Z col) H1 vs ds)->H1 p=none->Qd ds ρ'->Q (.ref p) (upd H1 p (.lst vs))
def vOf (C:DC)(t:DF):TA:=fun σ H Q=>∃ρ P Qd,Rel C ρ σ P H/\t ρ Qd/\∀vs ds ρ' P' H',Rel C ρ' σ P' H'->(∀p∈P,p∈P')->Pds P' vs ds->Qd ds ρ'->Q vs H'
def bnd {α:Type}(o:Option α)(Q:α->Prop):Prop:=match o with
 | some a=>Q a
 | none=>False
theorem O3 {α:Type}{o:Option α}{Q:α->Prop}(h:bnd o Q):∃a,o=some a/\Q a:=by
 cases o with
 | none=>exact h.elim
 | some a=>exact⟨a,rfl,h⟩
variable {X:Cx}{a:Expr}{ta tb:DE}{pos:Pos}
section
theorem PE.wk {e:Expr}{t t':TE}(h:PE X e t)(f:∀σ H Q,t' σ H Q->t σ H Q):PE X e t':=λpins s σ H Q I q=>h pins s σ H Q I (f σ H Q q)
theorem PT.wk {e:Expr}{t t':TT}(h:PT X e t)(f:∀σ H Q,t' σ H Q->t σ H Q):PT X e t':=λpins s σ H Q I q=>h pins s σ H Q I (f σ H Q q)
theorem PW.wk {e:Expr}{t t':TT}(h:PW X e t)(f:∀σ H Q,t' σ H Q->t σ H Q):PW X e t':=λwh pins s σ H Q I q=>h wh pins s σ H Q I (f σ H Q q)
theorem PA.wk {es:List Expr}{t t':TA}(h:PA X es t)(f:∀σ H Q,t' σ H Q->t σ H Q):PA X es t':=λpos pins s σ H Q I q=>h pos pins s σ H Q I (f σ H Q q)
theorem PO.wk {e:Option Expr}{t t':TO}(h:PO X e t)(f:∀σ H Q,t' σ H Q->t σ H Q):PO X e t':=λpins s σ H Q I q=>h pins s σ H Q I (f σ H Q q)
def dC (d:PyData)  (ρ:List Sl) (Q:PyData->List Sl->Prop):Prop:=Q d ρ
theorem A7h {e:Expr}{v:V}{d:PyData}(h:PE X e (tC v))(t:∀F H,ThV F H v d):PE X e (eOf C (dC d)):=PE.wk h λJ J J zz1=>el3 zz1 λJ J J zz2 ht k=>zz2.elim λcol r=>k _ _ _ _ ⟨col,r.push (t _ _)⟩ ht
theorem F7 {i j pos}:PE X (.Constant (.int i) j pos) (eOf C (dC (.int i))):=A7h A7 λJ J=>.int i
theorem C1w {b j pos}:PE X (.Constant (.bool b) j pos) (eOf C (dC (.bool b))):=A7h A6z λJ J=>.bl b
theorem O4 {j pos}:PE X (.Constant .none j pos) (eOf C (dC .none)):=A7h m7 λJ J=>.non
theorem C1x {x j pos}:PE X (.Constant (.str x) j pos) (eOf C (dC (.str x))):=A7h F6 λJ J=>.str x
theorem D8 {e:Expr}{i:Int}(h:PE X e (tC (.int i))):PE X e (eOf C (dC (.int i))):=A7h h λJ J=>.int i
theorem D0i {e:Expr}{x:Str}(h:PE X e (tC (.str x))):PE X e (eOf C (dC (.str x))):=A7h h λJ J=>.str x
theorem O5 {α:Type}{o:Option (Option α)}{v:α}(h:o.join=some v):o=some (some v):=by
 cases o with
 | none=>cases h
 | some q=>exact congrArg some h
def A3k (i:Nat)  (ρ:List Sl) (Q:PyData->List Sl->Prop):Prop:=match ρ[i]? with
 | some (.sh d)=>Q d ρ
 | some (.ow ds)=>Q (.list ds) (ρ.set i (.sh (.list ds)))
 | _=>False
set_option tactic.hygienic true in
theorem A5 {e:Expr}{i:Nat}(h:PE X e (Y9 i)):PE X e (eOf C (A3k i)):=PE.wk h fun σ H Q zz3=>el3 zz3 fun ρ P Qd zz4 ht k=>zz4.elim λcol r=>by
 unfold A3k at ht;split at ht
 ·rename_i d e;obtain⟨v,e1,t⟩:=r.sl i _ e;exact⟨v,O5 e1,k _ _ _ _ ⟨col,r.push t⟩ ht⟩
 ·rename_i ds e;obtain⟨a,e1,R⟩:=r.freeze e;exact⟨_,O5 e1,k _ _ _ _ R ht⟩
 ·exact ht.elim
def U9 (ρ:List Sl)(i:Nat):Option PyData:=match ρ[i]? with
 | some (.sh d)=>some d
 | some (.ow ds)=>some (.list ds)
 | some (.bo ds)=>some (.list ds)
 | _=>none
inductive Red (col:Addr->Nat)(H:Hp):V->PyData->Prop
 | th {v d}:ThV (Z col) H v d->Red col H v d
 | ls {a vs ds}:H a=some (.lst vs)->B4 (Z col) H vs ds->Red col H (.ref a) (.list ds)
set_option tactic.hygienic true in
theorem G0.slot {col:Addr->Nat}{ρ:List Sl}{σ:St}{P:List Pe}{H:Hp}(r:G0 C col ρ σ P H){i:Nat}{d:PyData}(h:U9 ρ i=some d):∃v,σ[i]?=some (some v)/\Red col H v d:=by
 unfold U9 at h;split at h
 ·rename_i d' e;cases h;obtain⟨v,e1,t⟩:=r.sl i _ e;exact⟨v,O5 e1,.th t⟩
 ·rename_i ds e;cases h;obtain⟨a,vs,e1,_,_,e2,t⟩:=r.sl i _ e;exact⟨_,O5 e1,.ls e2 t⟩
 ·rename_i ds e;cases h;obtain⟨a,vs,e1,_,_,e2,t⟩:=r.sl i _ e;exact⟨_,O5 e1,.ls e2 t⟩
 ·cases h
theorem Red.lst {col:Addr->Nat}{H:Hp}{v:V}{ds:List PyData}(h:Red col H v (.list ds)):∃a vs,v=.ref a/\H a=some (.lst vs)/\B4 (Z col) H vs ds:=by
 cases h with
 | th t=>cases t with
  | lst _ e t=>exact⟨_,_,rfl,e,t⟩
 | ls e t=>exact⟨_,_,rfl,e,t⟩
theorem Red.tup {col:Addr->Nat}{H:Hp}{v:V}{ds:List PyData}(h:Red col H v (.tuple ds)):∃a vs,v=.ref a/\H a=some (.tup vs)/\B4 (Z col) H vs ds:=by
 cases h with
 | th t=>cases t with
  | tup _ e t=>exact⟨_,_,rfl,e,t⟩
abbrev G2:=PyData->PyData->(PyData->Prop)->Prop
def W2 (C:DC)(r:R2)(g:G2):Prop:=
 ∀{ρ:List Sl}{σ:St}{P:List Pe}{H:Hp}{v w:V}{a b:PyData}{Qd:PyData->Prop}{Q:VK},Rel C ρ σ (.v w b::.v v a::P) H->g a b Qd->(∀u d H',Rel C ρ σ (.v u d::P) H'->Qd d->Q u H')->r v w H Q
def dOp (g:G2)(ta tb:DE)  (ρ:List Sl) (Q:PyData->List Sl->Prop):Prop:=ta ρ λa ρ1=>tb ρ1 λb ρ2=>g a b λd=>Q d ρ2
theorem B4s {r:R2}{g:G2}{ta tb:DE}(hg:W2 C r g){σ:St}{H:Hp}{Q:VK}(h:eOf C (dOp g ta tb) σ H Q):tOp r (eOf C ta) (eOf C tb) σ H Q:=by
 obtain⟨ρ,P,Qd,R,ht,k⟩:=h;exact⟨ρ,P,_,R,ht,λv a ρ1 H1 R1 h1=>⟨ρ1,_,_,R1,h1,λw b ρ2 H2 R2 h2=>hg R2 h2 λu d H' R' q=>k u d ρ2 H' R' q⟩⟩
variable {b:Expr}
theorem N7 {op:Operator}{r:R2}{g:G2}(ho:OpR X (binaryOp op) r)(hg:W2 C r g)(ha:PE X a (eOf C ta))(hb:PE X b (eOf C tb)):PE X (.BinOp a op b pos) (eOf C (dOp g ta tb)):=PE.wk (F0 ho ha hb) λJ J J h=>B4s hg h
theorem A07 {op:CmpOp}{r:R2}{g:G2}(ho:OpR X (compareOp op) r)(hg:W2 C r g)(ha:PE X a (eOf C ta))(hb:PE X b (eOf C tb))(hm:behindInMarks op b=false):PE X (.Compare a [op] [b] pos) (eOf C (dOp g ta tb)):=PE.wk (y7 ho ha hb hm) λJ J J h=>B4s hg h
def dT (t:DE)  (ρ:List Sl) (Q:Bool->List Sl->Prop):Prop:=t ρ λd ρ'=>match d with
 | .bool b=>Q b ρ'
 | _=>False
theorem B4t {t:DE}{σ:St}{H:Hp}{Q:Bool->Hp->Prop}(h:cOf C (dT t) σ H Q):eOf C t σ H λx H'=>∃k,x=.bl k/\Q k H':=by
 obtain⟨ρ,P,Qd,R,ht,k⟩:=h;refine⟨ρ,P,_,R,ht,λv d ρ' H' R' q=>?_⟩;split at q
 ·obtain⟨col,r⟩:=R';have t:=r.pd _ D6;cases (show ThV (Z col) H' v (.bool _) from t);exact⟨_,rfl,k _ _ _ (Rel.pop ⟨col,r⟩) q⟩
 ·exact q.elim
theorem A2m {e:Expr}{t:DE}(h:PE X e (eOf C t))(he:autoParam (∀whole,isTrue e X.env whole=(do let v <-whole;standAt e.pos;holding [v] (truthy v))) A2P._auto_1):PT X e (cOf C (dT t)):=PT.wk (U4 h he) λJ J J h=>B4t h
theorem Q6 {op:CmpOp}{r:R2}{g:G2}(ho:OpR X (compareOp op) r)(hg:W2 C r g)(ha:PE X a (eOf C ta))(hb:PE X b (eOf C tb))(hm:behindInMarks op b=false):PT X (.Compare a [op] [b] pos) (cOf C (dT (dOp g ta tb))):=
 PT.wk (K6 ho ha hb hm) fun σ H Q h=>B4s hg (B4t h)
def A43 (t:DT)  (ρ:List Sl) (Q:Bool->List Sl->Prop):Prop:=t ρ λb ρ'=>Q (!b) ρ'
theorem A44 {t:DT}(h:PT X a (cOf C t)):PT X (.UnaryOp .Not a pos) (cOf C (A43 t)):=PT.wk (T0 h) λJ J J zz5=>el3 zz5 fun ρ P J R ht k=>⟨ρ,P,_,R,ht,λb ρ' H' R' q=>k _ _ _ R' q⟩
def A45 (t u:DT)  (ρ:List Sl) (Q:Bool->List Sl->Prop):Prop:=t ρ λb ρ'=>if b=true then u ρ' Q else Q false ρ'
def dOr (t u:DT)  (ρ:List Sl) (Q:Bool->List Sl->Prop):Prop:=t ρ λb ρ'=>if b=true then Q true ρ' else u ρ' Q
variable {t u:DT}{T7:List Expr}
theorem B4u (h:PT X a (cOf C t)):PW X (.BoolOp .And [a] pos) (cOf C t):=A60 h
theorem A7i (h:PT X a (cOf C t)):PW X (.BoolOp .Or [a] pos) (cOf C t):=A3c h
theorem B4v (ha:PT X a (cOf C t))(hb:PW X (.BoolOp .And (b::T7) pos) (cOf C u)):PW X (.BoolOp .And (a::b::T7) pos) (cOf C (A45 t u)):=PW.wk (A61 ha hb) λJ J J zz6=>el3 zz6 fun ρ P Qd R ht k=>
 ⟨ρ,P,_,R,ht,λb ρ' H' R' q=>by
  cases b with
  | true=>exact⟨ρ',P,Qd,R',by simpa using q,k⟩
  | false=>exact k _ _ _ R' (by simpa using q)⟩
theorem A46 (ha:PT X a (cOf C t))(hb:PW X (.BoolOp .Or (b::T7) pos) (cOf C u)):PW X (.BoolOp .Or (a::b::T7) pos) (cOf C (dOr t u)):=PW.wk (A3d ha hb) λJ J J zz7=>el3 zz7 fun ρ P Qd R ht k=>
 ⟨ρ,P,_,R,ht,λb ρ' H' R' q=>by
  cases b with
  | true=>exact k _ _ _ R' (by simpa using q)
  | false=>exact⟨ρ',P,Qd,R',by simpa using q,k⟩⟩
def dBV (t:DE)(f:Bool->List Sl->Prop)  (ρ:List Sl):Prop:=t ρ λd ρ'=>match d with
 | .bool b=>f b ρ'
 | _=>False
def A47 (ta tb:DE)  (ρ:List Sl) (Q:PyData->List Sl->Prop):Prop:=dBV ta (λb ρ'=>if b=true then tb ρ' Q else Q (.bool false) ρ') ρ
def A48 (ta tb:DE)  (ρ:List Sl) (Q:PyData->List Sl->Prop):Prop:=dBV ta (λb ρ'=>if b=true then Q (.bool true) ρ' else tb ρ' Q) ρ
def A49 (ta:DE)  (ρ:List Sl) (Q:PyData->List Sl->Prop):Prop:=dBV ta (λb ρ'=>Q (.bool (!b)) ρ') ρ
theorem B4w {f:Bool->List Sl->Prop}{ρ:List Sl}{σ:St}{P:List Pe}{H:Hp}{Q:VK}(R:Rel C ρ σ P H)(ht:dBV ta f ρ)(k:∀c ρ' H',Rel C ρ' σ P H'->f c ρ'->Q (.bl c) H'):eOf C ta σ H Q:=by
 refine⟨ρ,P,_,R,ht,λv d ρ' H' R' q=>?_⟩;split at q
 ·obtain⟨col,r⟩:=R';have t:=r.pd _ D6;cases (show ThV (Z col) H' v (.bool _) from t);exact k _ _ _ (Rel.pop ⟨col,r⟩) q
 ·exact q.elim
theorem z5 {op}(h:PE X a (eOf C ta)):PE X (.BoolOp op [a] pos) (eOf C ta):=B01 h
theorem A08 (ha:PE X a (eOf C ta))(hb:PE X (.BoolOp .And (b::T7) pos) (eOf C tb)):PE X (.BoolOp .And (a::b::T7) pos) (eOf C (A47 ta tb)):=PE.wk (B37 ha hb) λJ J J zz8=>el3 zz8 λJ P Qd R ht k=>
 B4w R ht λc ρ' H' R' q=>⟨c,rfl,by
  cases c with
  | true=>exact G4 ⟨ρ',P,Qd,R',by simpa using q,k⟩
  | false=>
   obtain⟨col,r⟩:=R';exact E4 (k _ _ _ _ ⟨col,r.push (.bl false)⟩ (by simpa using q))⟩
theorem B4x (ha:PE X a (eOf C ta))(hb:PE X (.BoolOp .Or (b::T7) pos) (eOf C tb)):PE X (.BoolOp .Or (a::b::T7) pos) (eOf C (A48 ta tb)):=PE.wk (B92 ha hb) λJ J J zz9=>el3 zz9 λJ P Qd R ht k=>
 B4w R ht λc ρ' H' R' q=>⟨c,rfl,by
  cases c with
  | true=>obtain⟨col,r⟩:=R';exact G4 (k _ _ _ _ ⟨col,r.push (.bl true)⟩ (by simpa using q))
  | false=>exact E4 ⟨ρ',P,Qd,R',by simpa using q,k⟩⟩
theorem D0j (ha:PE X a (eOf C ta)):PE X (.UnaryOp .Not a pos) (eOf C (A49 ta)):=PE.wk (C73 ha) λJ J J zz10=>el3 zz10 λJ J J R ht k=>
 B4w R ht λc ρ' H' zz11 q=>zz11.elim λcol r=>⟨c,rfl,k _ _ _ _ ⟨col,r.push (.bl _)⟩ q⟩
def A5a (ta:DE)  (ρ:List Sl) (Q:PyData->List Sl->Prop):Prop:=ta ρ λd ρ'=>match d with
 | .int i=>Q (.int (-i)) ρ'
 | _=>False
theorem A0a (ha:PE X a (eOf C ta)):PE X (.UnaryOp .USub a pos) (eOf C (A5a ta)):=PE.wk (C8h C8i ha) λJ J J zz12=>el3 zz12 fun ρ P J R ht k=>⟨ρ,P,_,R,ht,λv d ρ' H' R' q=>by
 split at q
 ·obtain⟨col,r⟩:=R';have t:=r.pd _ D6;cases (show ThV (Z col) H' v (.int _) from t);exact⟨_,rfl,k _ _ _ _ ⟨col,(r.sub λJ h=>C8 _ h).push (.int _)⟩ q⟩
 ·exact q.elim⟩
def dIf (c:DT)(ta tb:DE)  (ρ:List Sl) (Q:PyData->List Sl->Prop):Prop:=c ρ λb ρ'=>if b=true then ta ρ' Q else tb ρ' Q
theorem C1y {c:Expr}(hc:PT X c (cOf C t))(ha:PE X a (eOf C ta))(hb:PE X b (eOf C tb)):PE X (.IfExp c a b pos) (eOf C (dIf t ta tb)):=PE.wk (A62 hc ha hb) λJ J J zz13=>el3 zz13 fun ρ P Qd R ht k=>
 ⟨ρ,P,_,R,ht,λb ρ' H' R' q=>by
  cases b with
  | true=>exact G4 ⟨ρ',P,Qd,R',by simpa using q,k⟩
  | false=>exact E4 ⟨ρ',P,Qd,R',by simpa using q,k⟩⟩
def A2n (g g':G2)(ta tb tc:DE)  (ρ:List Sl) (Q:PyData->List Sl->Prop):Prop:=ta ρ λa ρ1=>tb ρ1 λb ρ2=>g a b λz=>match z with
 | .bool k=>if k=true then tc ρ2 λc ρ3=>g' b c λd=>Q d ρ3 else Q (.bool false) ρ2
 | _=>False
end
def gI (c:Int->Int->Prop)(f:Int->Int->PyData)  (a b:PyData) (Q:PyData->Prop):Prop:=match a,b with
 | .int i,.int j=>c i j/\Q (f i j)
 | _,_=>False
def gI0 (f:Int->Int->PyData)  (a b:PyData) (Q:PyData->Prop):Prop:=match a,b with
 | .int i,.int j=>Q (f i j)
 | _,_=>False
theorem th2 {ρ:List Sl}{σ:St}{P:List Pe}{H:Hp}{v w:V}{a b:PyData}(r:Rel C ρ σ (.v w b::.v v a::P) H):∃col,G0 C col ρ σ P H/\ThV (Z col) H v a/\ThV (Z col) H w b:=by
 obtain⟨col,r⟩:=r;exact⟨col,r.sub λJ h=>C8 _ (C8 _ h),r.pd _ (C8 _ D6),r.pd _ D6⟩
theorem A7j {f:Int->Int->V}{g:Int->Int->PyData}(h:∀i j F H,ThV F H (f i j) (g i j)):W2 C (rI0 f) (gI0 g):=by
 intro ρ σ P H v w a b Qd Q R hg k;unfold gI0 at hg;split at hg
 ·obtain⟨col,r,t1,t2⟩:=th2 R;cases t1;cases t2;exact⟨_,_,rfl,rfl,k _ _ _ ⟨col,r.push (h _ _ _ _)⟩ hg⟩
 ·exact hg.elim
theorem B4y {c:Int->Int->Prop}{f:Int->Int->V}{g:Int->Int->PyData}(h:∀i j F H,ThV F H (f i j) (g i j)):W2 C (rI c f) (gI c g):=by
 intro ρ σ P H v w a b Qd Q R hg k;unfold gI at hg;split at hg
 ·obtain⟨col,r,t1,t2⟩:=th2 R;cases t1;cases t2;exact⟨_,_,rfl,rfl,hg.1,k _ _ _ ⟨col,r.push (h _ _ _ _)⟩ hg.2⟩
 ·exact hg.elim
def A5b:G2:=gI0 λi j=>.int (i+j)
def A5c:G2:=gI0 λi j=>.int (i-j)
def A5d:G2:=gI A84 λi j=>.int (i*j)
def A5e:G2:=gI B4m λi j=>.int (i/j)
def A5f:G2:=gI B4b λi j=>.int (i^j.toNat)
def gLt:G2:=gI0 λi j=>.bool (decide (i<j))
def gLe:G2:=gI0 λi j=>.bool (decide (i<=j))
def gGt:G2:=gI0 λi j=>.bool (decide (j<i))
def gGe:G2:=gI0 λi j=>.bool (decide (j<=i))
theorem b8:W2 C (rI0 (λi j=>.int (i+j))) A5b:=A7j (f:=λi j=>.int (i+j)) λJ J J J=>.int _
theorem B1m:W2 C (rI0 (λi j=>.int (i-j))) A5c:=A7j (f:=λi j=>.int (i-j)) λJ J J J=>.int _
theorem B4z:W2 C (rI A84 (λi j=>.int (i*j))) A5d:=B4y (f:=λi j=>.int (i*j)) λJ J J J=>.int _
theorem C1z:W2 C (rI B4m (λi j=>.int (i/j))) A5e:=B4y (f:=λi j=>.int (i/j)) λJ J J J=>.int _
theorem A5g:W2 C (rI B4b (λi j=>.int (i^j.toNat))) A5f:=B4y (f:=λi j=>.int (i^j.toNat)) λJ J J J=>.int _
theorem A7k:W2 C (rI0 (λi j=>.bl (decide (i<j)))) gLt:=A7j (f:=λi j=>.bl (decide (i<j))) λJ J J J=>.bl _
theorem C10:W2 C (rI0 (λi j=>.bl (decide (i<=j)))) gLe:=A7j (f:=λi j=>.bl (decide (i<=j))) λJ J J J=>.bl _
theorem A7l:W2 C (rI0 (λi j=>.bl (decide (j<i)))) gGt:=A7j (f:=λi j=>.bl (decide (j<i))) λJ J J J=>.bl _
theorem D0k:W2 C (rI0 (λi j=>.bl (decide (j<=i)))) gGe:=A7j (f:=λi j=>.bl (decide (j<=i))) λJ J J J=>.bl _
def gEq (neg:Bool)  (a b:PyData) (Q:PyData->Prop):Prop:=a.canLay0=true/\b.canLay0=true/\min a.depth b.depth<=64/\Q (.bool (if neg then !PyData.eqv a b else PyData.eqv a b))
theorem A7m {K:A8}{neg:Bool}:W2 C (B1g K neg) (gEq neg):=by
 intro ρ σ P H v w a b Qd Q R hg k;obtain⟨col,r,t1,t2⟩:=th2 R;exact⟨a,b,t1.dat hg.1,t2.dat hg.2.1,hg.1,hg.2.1,hg.2.2.1,k _ _ _ ⟨col,r.push (.bl _)⟩ hg.2.2.2⟩
def isN:PyData->Bool
 | .none=>true
 | _=>false
def A1v (neg:Bool)  (a b:PyData) (Q:PyData->Prop):Prop:=match b with
 | .none=>Q (.bool (if neg then !isN a else isN a))
 | _=>False
theorem C11 {F:Addr->Prop}{H:Hp}{v:V}{a:PyData}(t:ThV F H v a):decide (v=V.non)=isN a:=by
 cases t <;> simp [isN]
theorem A2o:W2 C (λx y H Q=>y=.non/\Q (.bl (decide (x=.non))) H) (A1v false):=by
 intro ρ σ P H v w a b Qd Q R hg k;unfold A1v at hg;split at hg
 ·obtain⟨col,r,t1,t2⟩:=th2 R;cases t2;refine⟨rfl,k _ _ _ ⟨col,r.push (d:=.bool (isN a)) ?_⟩ hg⟩;rw[C11 t1];exact .bl _
 ·exact hg.elim
theorem A5h:W2 C (λx y H Q=>y=.non/\Q (.bl (!decide (x=.non))) H) (A1v true):=by
 intro ρ σ P H v w a b Qd Q R hg k;unfold A1v at hg;split at hg
 ·obtain⟨col,r,t1,t2⟩:=th2 R;cases t2;refine⟨rfl,k _ _ _ ⟨col,r.push (d:=.bool (!isN a)) ?_⟩ hg⟩;rw[C11 t1];exact .bl _
 ·exact hg.elim
section
variable {b c:Expr}{tc:DE}
theorem C12 {f f':Int->Int->Bool}{σ:St}{H:Hp}{Q:VK}(h:eOf C (A2n (gI0 λi j=>.bool (f i j)) (gI0 λi j=>.bool (f' i j)) ta tb tc) σ H Q) :
  B4d (rI0 λi j=>.bl (f i j)) (rI0 λi j=>.bl (f' i j)) (eOf C ta) (eOf C tb) (eOf C tc) σ H Q:=by
 obtain⟨ρ,P,Qd,R,ht,k⟩:=h;exact⟨ρ,P,_,R,ht,λv x ρ1 H1 R1 h1=>⟨ρ1,_,_,R1,h1,λw y ρ2 H2 R2 h2=>by
  obtain⟨col,r,t1,t2⟩:=th2 R2;cases x with
  | int i=>
   cases y with
   | int j=>
    cases t1;cases t2;refine⟨i,j,rfl,rfl,f i j,rfl,?_⟩;have h2':if f i j=true then tc ρ2 (λc ρ3=>gI0 (λi j=>.bool (f' i j)) (.int j) c λd=>Qd d ρ3) else Qd (.bool false) ρ2:=h2
    cases e:f i j with
    | true=>
     rw[e] at h2';refine G4 ⟨ρ2,P,_,⟨col,r⟩,by simpa using h2',λu z ρ3 H3 R3 h3=>?_⟩;obtain⟨col3,r3⟩:=R3;have t3:=r3.pd _ D6;cases z with
     | int l=>cases (show ThV (Z col3) H3 u (.int l) from t3);exact⟨j,l,rfl,rfl,k _ _ _ _ ⟨col3,(r3.sub λJ h=>C8 _ h).push (.bl _)⟩ h3⟩
     | _=>exact h3.elim
    | false=>rw[e] at h2';exact E4 (k _ _ _ _ ⟨col,r.push (.bl false)⟩ (by simpa using h2'))
   | _=>exact h2.elim
  | _=>exact h2.elim⟩⟩
theorem A9f {op op':CmpOp}{f f':Int->Int->Bool}(ho:OpR X (compareOp op) (rI0 λi j=>.bl (f i j)))(ho':OpR X (compareOp op') (rI0 λi j=>.bl (f' i j)))(ha:PE X a (eOf C ta))(hb:PE X b (eOf C tb))(hc:PE X c (eOf C tc))
  (hm:autoParam (lastMarks [op,op'] [b,c]=false) A4P._auto_1):PE X (.Compare a [op,op'] [b,c] pos) (eOf C (A2n (gI0 λi j=>.bool (f i j)) (gI0 λi j=>.bool (f' i j)) ta tb tc)):=PE.wk (C8k ho ho' ha hb hc hm) λJ J J h=>C12 h
theorem D0l {op op':CmpOp}{f f':Int->Int->Bool}(ho:OpR X (compareOp op) (rI0 λi j=>.bl (f i j)))(ho':OpR X (compareOp op') (rI0 λi j=>.bl (f' i j)))(ha:PE X a (eOf C ta))(hb:PE X b (eOf C tb))(hc:PE X c (eOf C tc))
  (hm:autoParam (lastMarks [op,op'] [b,c]=false) A4P._auto_1):PT X (.Compare a [op,op'] [b,c] pos) (cOf C (dT (A2n (gI0 λi j=>.bool (f i j)) (gI0 λi j=>.bool (f' i j)) ta tb tc))):=PT.wk (B06 ho ho' ha hb hc hm) λJ J J h=>C12 (B4t h)
end
variable {e:Expr}{t:DE}
section
variable {b:Expr}{es:List Expr}{u:DF}
theorem C13 {P P':List Pe}{x:Pe}(h:∀p∈P,p∈P'):∀p∈x::P,p∈x::P':=λp hp=>(G1.mp hp).elim (λe=>e▸D6) λhp=>C8 _ (h p hp)
def A5i  (ρ:List Sl) (Q:List PyData->List Sl->Prop):Prop:=Q [] ρ
def A5j (t:DE)(u:DF)  (ρ:List Sl) (Q:List PyData->List Sl->Prop):Prop:=t ρ λd ρ1=>u ρ1 λds ρ2=>Q (d::ds) ρ2
theorem G7:PA X [] (vOf C A5i):=PA.wk A3 λJ J J zz1=>el3 zz1 λJ J J R ht k=>k [] [] _ _ _ R (λJ h=>h) .nil ht
theorem E2 (ha:PE X e (eOf C t))(hr:PA X es (vOf C u))(hs:autoParam (starEach (e::es) X.env=(false,eval e X.env)::starEach es X.env) RF._auto_1):PA X (e::es) (vOf C (A5j t u)):=PA.wk (A1 ha hr hs) λJ J J zz2=>el3 zz2 fun ρ P J R ht k=>
 ⟨ρ,P,_,R,ht,λJ J ρ1 J R1 h1=>⟨ρ1,_,_,R1,h1,λJ J J J J R2 s2 p2 h2=>k _ _ _ _ _ R2 (λp hp=>s2 p (C8 _ hp)) (.cons (s2 _ D6) p2) h2⟩⟩
def A5k (t:DF)  (ρ:List Sl) (Q:PyData->List Sl->Prop):Prop:=t ρ λds ρ'=>ds.length<=1000/\Q (.tuple ds) ρ'
theorem Z3 {x1}(h:PA X es (vOf C u)):PE X (.Tuple es x1 pos) (eOf C (A5k u)):=PE.wk (o7 h) λJ J J zz3=>el3 zz3 fun ρ P J R ht k=>⟨ρ,P,_,R,ht,λvs ds ρ' P' H' zz4 s p q=>zz4.elim λcol r=>
 ⟨by rw[(p.th r).len];exact A24 (B1e q.1),λb hb=>k _ _ _ _ ⟨col,(r.tup (p.th r) hb).sub (C13 s)⟩ q.2⟩⟩
def A5l (t:DF)  (ρ:List Sl) (Q:List PyData->List Sl->Prop):Prop:=t ρ λds ρ'=>ds.length<=1000/\Q ds ρ'
theorem c9 (h:PA X es (vOf C u)):PE X (.List es pos) (fOf C (A5l u)):=PE.wk (U6 h) λJ J J zz5=>el3 zz5 fun ρ P J R ht k=>⟨ρ,P,_,R,ht,λvs ds ρ' P' H' zz6 s p q=>zz6.elim λcol r=>
 ⟨by rw[(p.th r).len];exact A24 (B1e q.1),λb hb=>k _ _ _ _ _ ⟨col,r.sub s,p.th r⟩ hb q.2⟩⟩
def dF (t:DF)  (ρ:List Sl) (Q:PyData->List Sl->Prop):Prop:=t ρ λds ρ'=>Q (.list ds) ρ'
theorem N1 (h:PE X e (fOf C u)):PE X e (eOf C (dF u)):=PE.wk h λJ J J zz7=>el3 zz7 fun ρ P J R ht k=>⟨ρ,P,_,R,ht,λJ J J J J zz8 hp q=>el2 zz8 λcol r t=>k _ _ _ _ ⟨col,r.lst t hp⟩ q⟩
def ixD (a b:PyData):Option PyData:=match a,b with
 | .list xs,.int i=>atI xs i
 | .tuple xs,.int i=>atI xs i
 | _,_=>none
theorem B1n {F:Addr->Prop}{H:Hp}{vs:List V}{ds:List PyData}{i:Int}{d:PyData}(t:B4 F H vs ds)(h:atI ds i=some d):∃v,atI vs i=some v/\ThV F H v d:=by
 unfold atI at h ⊢;rw[t.len];cases q:ixN ds.length i with
 | none=>rw[q] at h;cases h
 | some j=>rw[q] at h;exact t.at h
theorem C14 {K:A8}{col:Addr->Nat}{H:Hp}{v w:V}{a b d:PyData}(t1:Red col H v a)(t2:ThV (Z col) H w b)(h:ixD a b=some d):∃u,ThV (Z col) H u d/\∀Q:VK,Q u H->rIx K v w H Q:=by
 unfold ixD at h;split at h
 ·cases t2;obtain⟨p,vs,rfl,e,t⟩:=t1.lst;obtain⟨u,hu,tu⟩:=B1n t h;exact⟨u,tu,λQ q=>.inl ⟨p,vs,_,u,rfl,rfl,SqL.of e,hu,q⟩⟩
 ·cases t2;obtain⟨p,vs,rfl,e,t⟩:=t1.tup;obtain⟨u,hu,tu⟩:=B1n t h;exact⟨u,tu,λQ q=>.inr (.inl ⟨p,vs,_,u,rfl,rfl,SqT.of e,hu,q⟩)⟩
 ·cases h
def dIx (ta tb:DE)  (ρ:List Sl) (Q:PyData->List Sl->Prop):Prop:=ta ρ λa ρ1=>tb ρ1 λb ρ2=>bnd (ixD a b) λd=>Q d ρ2
theorem S5 (ha:PE X a (eOf C ta))(hb:PE X b (eOf C tb))(hs:autoParam (B4f b) IRP._auto_1):PE X (.Subscript a b pos) (eOf C (dIx ta tb)):=PE.wk (C7 A4z ha hb hs) λJ J J zz9=>el3 zz9 fun ρ P J R ht k=>⟨ρ,P,_,R,ht,λv J ρ1 H1 R1 h1=>⟨ρ1,_,_,R1,h1,λw J ρ2 H2 R2 h2=>by
 obtain⟨d,hd,q⟩:=O3 h2;obtain⟨col,r,t1,t2⟩:=th2 R2;obtain⟨u,tu,f⟩:=C14 (K:=X.K) (.th t1) t2 hd;exact f _ (k _ _ _ _ ⟨col,r.push tu⟩ q)⟩⟩
def A5m (i:Nat)(tb:DE)  (ρ:List Sl) (Q:PyData->List Sl->Prop):Prop:=bnd (U9 ρ i) λJ=>tb ρ λb ρ2=>bnd (U9 ρ2 i) λa=>bnd (ixD a b) λd=>Q d ρ2
theorem C9 {i:Nat}(ha:PE X a (Y9 i))(hb:PE X b (eOf C tb))(hs:autoParam (B4f b) IRP._auto_1):PE X (.Subscript a b pos) (eOf C (A5m i tb)):=PE.wk (C7 A4z ha hb hs) fun σ H Q zz10=>el3 zz10 fun ρ P Qd zz11 ht k=>zz11.elim λcol0 r0=>by
 obtain⟨_,h0,ht⟩:=O3 ht;obtain⟨v,ev,_⟩:=r0.slot h0;refine⟨v,ev,ρ,P,_,⟨col0,r0⟩,ht,λw b ρ2 H2 R2 h2=>?_⟩;obtain⟨a,ha,h2⟩:=O3 h2;obtain⟨d,hd,q⟩:=O3 h2;obtain⟨col,r⟩:=R2;obtain⟨v',ev',t1⟩:=r.slot ha;rw[ev] at ev';cases ev';obtain⟨u,tu,f⟩:=C14 (K:=X.K) t1 (r.pd _ D6) hd;exact f _ (k _ _ _ _ ⟨col,(r.sub λJ h=>C8 _ h).push tu⟩ q)
def A1w (C:DC)(r:List V->Hp->VK->Prop)(g:List PyData->(PyData->Prop)->Prop):Prop:=
 ∀{ρ:List Sl}{σ:St}{P:List Pe}{col:Addr->Nat}{H:Hp}{vs:List V}{ds:List PyData}{Qd:PyData->Prop}{Q:VK},G0 C col ρ σ P H->B4 (Z col) H vs ds->g ds Qd->(∀u d H',Rel C ρ σ (.v u d::P) H'->Qd d->Q u H')->r vs H Q
def dCb (g:List PyData->(PyData->Prop)->Prop)(u:DF)  (ρ:List Sl) (Q:PyData->List Sl->Prop):Prop:=u ρ λds ρ'=>g ds λd=>Q d ρ'
theorem o9 {r:List V->Hp->VK->Prop}{g:List PyData->(PyData->Prop)->Prop}(hr:A1w C r g)(h:PE X e (tCB r (vOf C u))):PE X e (eOf C (dCb g u)):=PE.wk h λJ J J zz12=>el3 zz12 fun ρ P J R ht k=>⟨ρ,P,_,R,ht,λvs ds ρ' P' H' zz13 s p q=>zz13.elim λcol r=>
 hr (r.sub s) (p.th r) q λu d H2 R2 q2=>k _ _ _ _ R2 q2⟩
theorem A3l {F:Addr->Prop}{H:Hp}{vs:List V}{d:PyData}(t:B4 F H vs [d]):∃v,vs=[v]/\ThV F H v d:=by
 cases t with
 | cons x y=>cases y;exact⟨_,rfl,x⟩
theorem X9 {F:Addr->Prop}{H:Hp}{vs:List V}{d d':PyData}(t:B4 F H vs [d,d']):∃v w,vs=[v,w]/\ThV F H v d/\ThV F H w d':=by
 cases t with
 | cons x y=>obtain⟨w,rfl,z⟩:=A3l y;exact⟨_,w,rfl,x,z⟩
def lenD:PyData->Option Nat
 | .list xs=>some xs.length
 | .tuple xs=>some xs.length
 | _=>none
def A3m  (ds:List PyData) (Q:PyData->Prop):Prop:=match ds with
 | [d]=>bnd (lenD d) λn=>Q (.int n)
 | _=>False
abbrev B40 (K:A8):List V->Hp->VK->Prop:=λxs H Q=>∃p ys,xs=[.ref p]/\(SqL K H p ys\/SqT K H p ys)/\Q (.int ys.length) H
theorem C15 {K:A8}{col:Addr->Nat}{H:Hp}{v:V}{a:PyData}{n:Nat}{Q:VK}(t:Red col H v a)(h:lenD a=some n)(q:Q (.int n) H):B40 K [v] H Q:=by
 cases a with
 | list ds=>cases h;obtain⟨p,vs,rfl,e,t⟩:=t.lst;exact⟨p,vs,rfl,.inl (SqL.of e),by rw[t.len];exact q⟩
 | tuple ds=>cases h;obtain⟨p,vs,rfl,e,t⟩:=t.tup;exact⟨p,vs,rfl,.inr (SqT.of e),by rw[t.len];exact q⟩
 | _=>cases h
theorem C16 {K:A8}:A1w C (B40 K) A3m:=by
 intro ρ σ P col H vs ds Qd Q r t g k;unfold A3m at g;split at g
 ·obtain⟨v,rfl,t1⟩:=A3l t;obtain⟨n,hn,q⟩:=O3 g;exact C15 (.th t1) hn (k _ _ _ ⟨col,r.push (.int _)⟩ q)
 ·exact g.elim
def A5n (i:Nat)  (ρ:List Sl) (Q:PyData->List Sl->Prop):Prop:=bnd (U9 ρ i) λa=>bnd (lenD a) λn=>Q (.int n) ρ
theorem A5o {i:Nat}{K:A8}(h:PE X e (tCB (B40 K) (V8 (Y9 i) T8))):PE X e (eOf C (A5n i)):=PE.wk h λJ J J zz14=>el3 zz14 fun ρ P J zz15 ht k=>zz15.elim λcol r=>by
 obtain⟨a,ha,ht⟩:=O3 ht;obtain⟨n,hn,q⟩:=O3 ht;obtain⟨v,ev,t⟩:=r.slot ha;exact⟨v,ev,C15 t hn (k _ _ _ _ ⟨col,r.push (.int _)⟩ q)⟩
def gI2 (f:Int->Int->Int)  (ds:List PyData) (Q:PyData->Prop):Prop:=match ds with
 | [.int i,.int j]=>Q (.int (f i j))
 | _=>False
theorem C17 {f:Int->Int->Int}:A1w C (λxs H Q=>∃i j,xs=[.int i,.int j]/\Q (.int (f i j)) H) (gI2 f):=by
 intro ρ σ P col H vs ds Qd Q r t g k;unfold gI2 at g;split at g
 ·obtain⟨v,w,rfl,t1,t2⟩:=X9 t;cases t1;cases t2;exact⟨_,_,rfl,k _ _ _ ⟨col,r.push (.int _)⟩ g⟩
 ·exact g.elim
def A5p:=gI2 λi j=>if j<i then j else i
def A5q:=gI2 λi j=>if j>i then j else i
theorem B41:A1w C (λxs H Q=>∃i j,xs=[.int i,.int j]/\Q (.int (if j<i then j else i)) H) A5p:=C17 (f:=λi j=>if j<i then j else i)
theorem B1o:A1w C (λxs H Q=>∃i j,xs=[.int i,.int j]/\Q (.int (if j>i then j else i)) H) A5q:=C17 (f:=λi j=>if j>i then j else i)
def A3n  (ds:List PyData) (Q:PyData->Prop):Prop:=match ds with
 | [.int i]=>Q (.int (if i<0 then -i else i))
 | _=>False
theorem D0m:A1w C (λxs H Q=>∃i,xs=[.int i]/\Q (.int (if i<0 then -i else i)) H) A3n:=by
 intro ρ σ P col H vs ds Qd Q r t g k;unfold A3n at g;split at g
 ·obtain⟨v,rfl,t1⟩:=A3l t;cases t1;exact⟨_,rfl,k _ _ _ ⟨col,r.push (.int _)⟩ g⟩
 ·exact g.elim
def A3o  (ds:List PyData) (Q:PyData->Prop):Prop:=match ds with
 | [.int i]=>Q (.int i)
 | [.bool b]=>Q (.int (if b then 1 else 0))
 | _=>False
theorem D0n:A1w C (λxs H Q=>(∃i,xs=[.int i]/\Q (.int i) H)\/∃k,xs=[.bl k]/\Q (.int (if k then 1 else 0)) H) A3o:=by
 intro ρ σ P col H vs ds Qd Q r t g k;unfold A3o at g;split at g
 ·obtain⟨v,rfl,t1⟩:=A3l t;cases t1;exact .inl ⟨_,rfl,k _ _ _ ⟨col,r.push (.int _)⟩ g⟩
 ·obtain⟨v,rfl,t1⟩:=A3l t;cases t1;exact .inr ⟨_,rfl,k _ _ _ ⟨col,r.push (.int _)⟩ g⟩
 ·exact g.elim
def A5r:List PyData->Option (List Bool)
 | []=>some []
 | .bool b::r=>(A5r r).map (b::·)
 | _::_=>none
theorem D0o {F:Addr->Prop}{H:Hp}{ds:List PyData}{vs:List V}{bs:List Bool}(t:B4 F H vs ds)(h:A5r ds=some bs):vs=bs.map V.bl:=by
 induction ds generalizing vs bs with
 | nil=>cases t;cases h;rfl
 | cons d r ih=>
  cases t with
  | cons x y=>
   cases x with
   | bl b=>
    have h':(A5r r).map (b::·)=some bs:=h;cases q:A5r r with
    | none=>rw[q] at h';cases h'
    | some cs=>rw[q] at h';cases h';rw[ih y q];rfl
   | _=>cases h
def gBs (f:List Bool->Bool)  (ds:List PyData) (Q:PyData->Prop):Prop:=match ds with
 | [.list xs]=>bnd (A5r xs) λbs=>Q (.bool (f bs))
 | _=>False
theorem D0p {K:A8}{f:List Bool->Bool}:A1w C (λxs H Q=>∃(p:Addr)(bs:List Bool),xs=[.ref p]/\SqL K H p (bs.map V.bl)/\Q (.bl (f bs)) H) (gBs f):=by
 intro ρ σ P col H vs ds Qd Q r t g k;unfold gBs at g;split at g
 ·obtain⟨bs,hb,q⟩:=O3 g;obtain⟨v,rfl,t1⟩:=A3l t;cases t1 with
  | lst _ e t2=>have z:=D0o t2 hb;subst z;exact⟨_,bs,rfl,SqL.of e,k _ _ _ ⟨col,r.push (.bl _)⟩ q⟩
 ·exact g.elim
def A5s:=gBs λbs=>bs.all id
theorem D0q {K:A8}:A1w C (λxs H Q=>∃(p:Addr)(bs:List Bool),xs=[.ref p]/\SqL K H p (bs.map V.bl)/\Q (.bl (bs.all id)) H) A5s:=D0p
abbrev D0r (K:A8):List V->Hp->VK->Prop:=λxs H Q=>∃p ys,xs=[.ref p]/\(SqL K H p ys\/SqT K H p ys)/\∀l,H l=none->Q (.ref l) (upd H l (.lst ys))
def A3p:PyData->Option (List PyData)
 | .list xs=>some xs
 | .tuple xs=>some xs
 | _=>none
theorem D0s {col:Addr->Nat}{H:Hp}{v:V}{a:PyData}{ds:List PyData}(t:Red col H v a)(h:A3p a=some ds):∃p vs,v=.ref p/\(H p=some (.lst vs)\/H p=some (.tup vs))/\B4 (Z col) H vs ds:=by
 cases a with
 | list ds=>cases h;obtain⟨p,vs,rfl,e,t⟩:=t.lst;exact⟨p,vs,rfl,.inl e,t⟩
 | tuple ds=>cases h;obtain⟨p,vs,rfl,e,t⟩:=t.tup;exact⟨p,vs,rfl,.inr e,t⟩
 | _=>cases h
def A5t (i:Nat)  (ρ:List Sl) (Q:List PyData->List Sl->Prop):Prop:=bnd (U9 ρ i) λa=>bnd (A3p a) λds=>Q ds ρ
theorem B42 {i:Nat}{K:A8}(h:PE X e (tCB (D0r K) (V8 (Y9 i) T8))):PE X e (fOf C (A5t i)):=PE.wk h λJ J J zz16=>el3 zz16 fun ρ P J zz17 ht k=>zz17.elim λcol r=>by
 obtain⟨a,ha,ht⟩:=O3 ht;obtain⟨ds,hn,q⟩:=O3 ht;obtain⟨v,ev,t⟩:=r.slot ha;obtain⟨p,vs,rfl,e,t⟩:=D0s t hn;exact⟨_,ev,p,vs,rfl,e.elim (λe=>.inl (SqL.of e)) (λe=>.inr (SqT.of e)),λl hl=>k _ _ _ _ _ ⟨col,r,t⟩ hl q⟩
abbrev DO:=List Sl->(Option Int->List Sl->Prop)->Prop
def oOf (C:DC)(t:DO):TO:=fun σ H Q=>∃ρ P Qd,Rel C ρ σ P H/\t ρ Qd/\∀o ρ' H',Rel C ρ' σ P H'->Qd o ρ'->Q o H'
def oN  (ρ:List Sl) (Q:Option Int->List Sl->Prop):Prop:=Q none ρ
def oS (t:DE)  (ρ:List Sl) (Q:Option Int->List Sl->Prop):Prop:=t ρ λd ρ'=>match d with
 | .int i=>Q (some i) ρ'
 | _=>False
theorem B1p:PO X none (oOf C oN):=PO.wk A66 λJ J J zz20=>el3 zz20 λJ J J R ht k=>k _ _ _ R ht
theorem A7n (h:PE X e (eOf C t)):PO X (some e) (oOf C (oS t)):=PO.wk (A67 h) λJ J J zz21=>el3 zz21 fun ρ P J R ht k=>⟨ρ,P,_,R,ht,λv d ρ' H' R' q=>by
 split at q
 ·obtain⟨col,r⟩:=R';have t:=r.pd _ D6;cases (show ThV (Z col) H' v (.int _) from t);exact⟨_,rfl,k _ _ _ (Rel.pop ⟨col,r⟩) q⟩
 ·exact q.elim⟩
def p8 (xs:List PyData)(lo hi:Option Int):List PyData:=(xs.drop (HT.sIx xs.length 0 lo)).take (HT.sIx xs.length xs.length hi-HT.sIx xs.length 0 lo)
theorem B4.drop {F:Addr->Prop}{H:Hp}:∀{vs:List V}{ds:List PyData}(n:Nat),B4 F H vs ds->B4 F H (vs.drop n) (ds.drop n)
 | _,_,0,h=>h
 | _,_,_+1,.nil=>.nil
 | _,_,n+1,.cons _ t=>B4.drop n t
theorem B4.take {F:Addr->Prop}{H:Hp}:∀{vs:List V}{ds:List PyData}(n:Nat),B4 F H vs ds->B4 F H (vs.take n) (ds.take n)
 | _,_,0,_=>.nil
 | _,_,_+1,.nil=>.nil
 | _,_,n+1,.cons x t=>.cons x (B4.take n t)
theorem C18 {F:Addr->Prop}{H:Hp}{vs:List V}{ds:List PyData}(t:B4 F H vs ds)(lo hi:Option Int):B4 F H (A04 vs lo hi) (p8 ds lo hi):=by
 unfold A04 p8;rw[t.len];exact (t.drop _).take _
def T3:PyData->Option (List PyData)
 | .list xs=>some xs
 | _=>none
def A5u (i:Nat)(tl th:DO)  (ρ:List Sl) (Q:List PyData->List Sl->Prop):Prop:=bnd (U9 ρ i) λJ=>tl ρ λlo ρ1=>th ρ1 λhi ρ2=>bnd (U9 ρ2 i) λa=>bnd (T3 a) λxs=>Q (p8 xs lo hi) ρ2
theorem B43 {i:Nat}{lo hi:Option Expr}{p2:Pos}{tl th:DO}(ha:PE X a (Y9 i))(hl:PO X lo (oOf C tl))(hh:PO X hi (oOf C th)):PE X (.Subscript a (.Slice lo hi none p2) pos) (fOf C (A5u i tl th)):=PE.wk (A4y A68 ha hl hh) fun σ H Q zz22=>el3 zz22 fun ρ P Qd zz23 ht k=>zz23.elim λcol0 r0=>by
 obtain⟨_,h0,ht⟩:=O3 ht;obtain⟨v,ev,_⟩:=r0.slot h0;refine⟨v,ev,ρ,P,_,⟨col0,r0⟩,ht,λlo ρ1 H1 R1 h1=>⟨ρ1,P,_,R1,h1,λhi ρ2 H2 R2 h2=>?_⟩⟩;obtain⟨a,ha,h2⟩:=O3 h2;obtain⟨xs,hx,q⟩:=O3 h2;obtain⟨col,r⟩:=R2;obtain⟨v',ev',t1⟩:=r.slot ha;rw[ev] at ev';cases ev';cases a with
 | list ds=>cases hx;obtain⟨p,vs,rfl,e,t⟩:=t1.lst;exact⟨p,vs,rfl,SqL.of e,λb hb=>k _ _ _ _ _ ⟨col,r,C18 t lo hi⟩ hb q⟩
 | _=>cases hx
def dSl (ta:DE)(tl th:DO)  (ρ:List Sl) (Q:List PyData->List Sl->Prop):Prop:=ta ρ λa ρ0=>tl ρ0 λlo ρ1=>th ρ1 λhi ρ2=>bnd (T3 a) λxs=>Q (p8 xs lo hi) ρ2
theorem C19 {lo hi:Option Expr}{p2:Pos}{tl th:DO}(ha:PE X a (eOf C ta))(hl:PO X lo (oOf C tl))(hh:PO X hi (oOf C th)):PE X (.Subscript a (.Slice lo hi none p2) pos) (fOf C (dSl ta tl th)):=PE.wk (A4y A68 ha hl hh) fun σ H Q zz24=>el3 zz24 fun ρ P Qd R ht k=>
 ⟨ρ,P,_,R,ht,λv a ρ0 H0 R0 h0=>⟨ρ0,_,_,R0,h0,λlo ρ1 H1 R1 h1=>⟨ρ1,_,_,R1,h1,λhi ρ2 H2 R2 h2=>by
  obtain⟨xs,hx,q⟩:=O3 h2;obtain⟨col,r⟩:=R2;cases a with
  | list ds=>cases hx;obtain⟨p,vs,rfl,e,t⟩:=Red.lst (.th (r.pd _ D6));exact⟨p,vs,rfl,SqL.of e,λb hb=>k _ _ _ _ _ ⟨col,r.sub λJ h=>C8 _ h,C18 t lo hi⟩ hb q⟩
  | _=>cases hx⟩⟩⟩
def A5v (ta tb:DE)  (ρ:List Sl) (Q:List PyData->List Sl->Prop):Prop:=ta ρ λa ρ1=>tb ρ1 λb ρ2=>bnd (T3 a) λxs=>bnd (T3 b) λys=>xs.length+ys.length<=100000/\Q (xs++ys) ρ2
theorem B1q (ha:PE X a (eOf C ta))(hb:PE X b (eOf C tb)):PE X (.BinOp a .Add b pos) (fOf C (A5v ta tb)):=PE.wk (F0 A1s ha hb) fun σ H Q zz25=>el3 zz25 fun ρ P Qd R ht k=>
 ⟨ρ,P,_,R,ht,λv a ρ1 H1 R1 h1=>⟨ρ1,_,_,R1,h1,λw b ρ2 H2 R2 h2=>by
  obtain⟨xs,hx,h2⟩:=O3 h2;obtain⟨ys,hy,h3,q⟩:=O3 h2;obtain⟨col,r,t1,t2⟩:=th2 R2;cases a with
  | list ds=>
   cases b with
   | list es=>cases hx;cases hy;obtain⟨p,vs,rfl,e,t⟩:=Red.lst (.th t1);obtain⟨p',vs',rfl,e',t'⟩:=Red.lst (.th t2);exact⟨p,p',vs,vs',rfl,rfl,e,e',by rw[t.len,t'.len,sizeLine_eq];omega,λb hb=>k _ _ _ _ _ ⟨col,r,t.append t'⟩ hb q⟩
   | _=>cases hy
  | _=>cases hx⟩⟩
def A5w (xs:List PyData)(n:Nat):List PyData:=(F2 n xs).flatten
theorem C2a {F:Addr->Prop}{H:Hp}{vs:List V}{ds:List PyData}(t:B4 F H vs ds):∀n:Nat,B4 F H (F2 n vs).flatten (A5w ds n)
 | 0=>.nil
 | n+1=>by
  unfold A5w;rw[A00,A00,A4n,A4n];exact t.append (C2a t n)
def A5x (ta tb:DE)  (ρ:List Sl) (Q:List PyData->List Sl->Prop):Prop:=ta ρ λa ρ1=>tb ρ1 λb ρ2=>match b with
 | .int k=>bnd (T3 a) λxs=>(-1000<=k/\k<=1000/\xs.length<=100)/\Q (A5w xs k.toNat) ρ2
 | _=>False
set_option tactic.hygienic true in
theorem B1r (ha:PE X a (eOf C ta))(hb:PE X b (eOf C tb)):PE X (.BinOp a .Mult b pos) (fOf C (A5x ta tb)):=PE.wk (F0 C08 ha hb) fun σ H Q zz26=>el3 zz26 fun ρ P Qd R ht k=>
 ⟨ρ,P,_,R,ht,λv a ρ1 H1 R1 h1=>⟨ρ1,_,_,R1,h1,λw b ρ2 H2 R2 h2=>by
  split at h2
  ·obtain⟨xs,hx,⟨h3,h4,h5⟩,q⟩:=O3 h2;obtain⟨col,r,t1,t2⟩:=th2 R2;cases t2;cases a with
   | list ds=>cases hx;obtain⟨p,vs,rfl,e,t⟩:=Red.lst (.th t1);rename_i kk;refine⟨p,kk,vs,rfl,rfl,e,by omega,by omega,?_,λb hb=>k _ _ _ _ _ ⟨col,r,C2a t _⟩ hb q⟩;have hl:=t.len;rw[<-hl] at h5;have:vs.length*kk.toNat<=100*1000:=Nat.mul_le_mul h5 (by omega);rw[sizeLine_eq];omega
   | _=>cases hx
  ·exact h2.elim⟩⟩
def tyD:PyData->Option String
 | .none=>some "NoneType"
 | .bool _=>some "bool"
 | .int _=>some "int"
 | .str _=>some "str"
 | .list _=>some "list"
 | .tuple _=>some "tuple"
 | .dict _=>some "dict"
theorem D0t {K:A8}{col:Addr->Nat}{H:Hp}{v:V}{a:PyData}(t:Red col H v a):∃T,tyD a=some T/\A9d K H v (.type T):=by
 cases t with
 | th t=>cases t with
  | non=>exact⟨_,rfl,.o .non⟩
  | bl b=>exact⟨_,rfl,.o (.bl b)⟩
  | int i=>exact⟨_,rfl,.o (.int i)⟩
  | str x=>exact⟨_,rfl,.o (.str x)⟩
  | lst _ e _=>exact⟨_,rfl,.o (.lst e)⟩
  | tup _ e _=>exact⟨_,rfl,.o (.tup e)⟩
  | dic _ e u=>cases u with
   | t=>exact⟨_,rfl,.o (.dT e)⟩
   | k i j=>exact⟨_,rfl,.o (.dK e)⟩
   | f o ks=>exact⟨_,rfl,.f e⟩
 | ls e _=>exact⟨_,rfl,.o (.lst e)⟩
def A0b (T:String)(d:PyData):Bool:=match tyD d with
 | some t=>t == T||(T == "int" &&t == "bool")
 | none=>false
def A7o (K:A8)(T:String):Prop:=∀d t,tyD d=some t->A0y K (.type t) (.type T)=some (A0b T d)
abbrev D0u (K:A8):List V->Hp->VK->Prop:=λxs H Q=>∃x cv c t b,xs=[x,cv]/\E1 cv c/\A9d K H x t/\A0y K t c=some b/\Q (.bl b) H
def A5y (i:Nat)(T:String)  (ρ:List Sl) (Q:PyData->List Sl->Prop):Prop:=bnd (U9 ρ i) λa=>Q (.bool (A0b T a)) ρ
theorem B1s {i:Nat}{K:A8}{T:String}(hT:A7o K T)(h:PE X e (tCB (D0u K) (V8 (Y9 i) (V8 (tC (.ty T)) T8)))):PE X e (eOf C (A5y i T)):=PE.wk h λJ J J zz27=>el3 zz27 fun ρ P J zz28 ht k=>zz28.elim λcol r=>by
 obtain⟨a,ha,q⟩:=O3 ht;obtain⟨v,ev,t⟩:=r.slot ha;obtain⟨t',e1,e2⟩:=D0t (K:=K) t;exact⟨v,ev,v,.ty T,.type T,_,_,rfl,rfl,e2,hT a t' e1,k _ _ _ _ ⟨col,r.push (.bl _)⟩ q⟩
theorem D0v {K:A8}:A7o K "int" :=λd t h=>by cases d <;> cases h <;> with_unfolding_all rfl
theorem D0w {K:A8}:A7o K "bool" :=λd t h=>by cases d <;> cases h <;> with_unfolding_all rfl
theorem D0x {K:A8}:A7o K "list" :=λd t h=>by cases d <;> cases h <;> with_unfolding_all rfl
theorem D0y {K:A8}:A7o K "tuple" :=λd t h=>by cases d <;> cases h <;> with_unfolding_all rfl
theorem D0z {K:A8}:A7o K "str" :=λd t h=>by cases d <;> cases h <;> with_unfolding_all rfl
end
inductive Md where
 | sh
 | bo
 | hd
 | b2
 | bd
def A3q:List PyData->Option (List (List PyData))
 | []=>some []
 | .list ds::r=>(A3q r).map (ds::·)
 | _=>none
def B44:PyData->Option (List (List PyData))
 | .list xs=>A3q xs
 | _=>none
abbrev lls (dss:List (List PyData)):List PyData:=dss.map PyData.list
theorem D00 {xs:List PyData}{dss:List (List PyData)}(h:A3q xs=some dss):xs=lls dss:=by
 induction xs generalizing dss with
 | nil=>cases h;rfl
 | cons x r ih=>
  cases x with
  | list ds=>
   have h':(A3q r).map (ds::·)=some dss:=h;cases q:A3q r with
   | none=>rw[q] at h';cases h'
   | some ess=>rw[q] at h';cases h';rw[ih q];rfl
  | _=>cases h
theorem D01 {d:PyData}{dss:List (List PyData)}(h:B44 d=some dss):d=.list (lls dss):=by
 cases d with
 | list xs=>rw[D00 h]
 | _=>cases h
theorem D02 {F:Addr->Prop}{H:Hp}{dss:List (List PyData)}{vs:List V}(t:B4 F H vs (lls dss)):∃as:List Addr,vs=as.map V.ref/\Rws F F H as dss:=by
 induction dss generalizing vs with
 | nil=>cases t;exact⟨[],rfl,.nil⟩
 | cons ds dss ih=>
  cases t with
  | cons x y=>
   obtain⟨as,rfl,r⟩:=ih y;cases x with
   | lst n e z=>exact⟨_::as,rfl,.cons n e z r⟩
def slot2 (ρ:List Sl)(i:Nat):Option (List (List PyData)):=match ρ[i]? with
 | some (.o2 dss)=>some dss
 | some (.b2 dss)=>some dss
 | some (.sh d)=>B44 d
 | _=>none
def B45 (F:Addr->Prop)(hand:Option (Addr×Addr))(H:Hp)(v:V)(d:PyData):Md->Prop
 | .sh=>ThV F H v d
 | .bo=>∃a vs ds,v=.ref a/\d=.list ds/\(∀q,hand=some q->a≠q.1)/\H a=some (.lst vs)/\B4 F H vs ds
 | .hd=>∃q,hand=some q/\v=.ref q.1
 | .b2=>∃a as dss,v=.ref a/\d=.list (lls dss)/\(∀q,hand=some q->a≠q.1)/\H a=some (.lst (as.map V.ref))/\Rws (λb=>∀q,hand=some q->b≠q.1) F H as dss
 | .bd=>ThV (λb=>∀q,hand=some q->b≠q.1) H v d
inductive d8 (F:Addr->Prop)(hand:Option (Addr×Addr))(H:Hp):List Md->List V->List PyData->Prop
 | nil:d8 F hand H [] [] []
 | cons {m v d ms vs ds}:B45 F hand H v d m->d8 F hand H ms vs ds->d8 F hand H (m::ms) (v::vs) (d::ds)
theorem d8.len {F:Addr->Prop}{hand:Option (Addr×Addr)}{H:Hp}{ms:List Md}{vs:List V}{ds:List PyData}(t:d8 F hand H ms vs ds):vs.length=ms.length/\ds.length=ms.length:=by
 induction t with
 | nil=>exact⟨rfl,rfl⟩
 | cons _ t ih=>exact⟨congrArg (· + 1) ih.1,congrArg (· + 1) ih.2⟩
abbrev DSp:=List PyData->(PyData->Prop)->Prop
def spD (ms:List Md)(sp:DSp):Sp:=λvs H Q J=>∃F hand ds Qd,((∀b,H b=none->F b)/\∀b xs,H b=some (.tup xs)->F b)/\(∀q,hand=some q->¬ F q.1)/\Hq hand H/\d8 F hand H ms vs ds/\sp ds Qd/\∀d v H',Qd d->ThV F H' v d->Kq hand H H'->Hq hand H'->Q v H'
inductive Ar where
 | v (d:PyData)
 | s (i:Nat)
 | w (d:PyData)
inductive ArV (σ:St)(P:List Pe):List V->List Ar->Prop
 | nil:ArV σ P [] []
 | v {v d vs as}:Pe.v v d∈P->ArV σ P vs as->ArV σ P (v::vs) (.v d::as)
 | s {i v vs as}:σ[i]?=some (some v)->ArV σ P vs as->ArV σ P (v::vs) (.s i::as)
 | w {v d vs as}:Pe.w v d∈P->ArV σ P vs as->ArV σ P (v::vs) (.w d::as)
abbrev DA:=List Sl->(List Ar->List Sl->Prop)->Prop
def aOf (C:DC)(t:DA):TA:=fun σ H Q=>∃ρ P Qd,Rel C ρ σ P H/\t ρ Qd/\∀vs as ρ' P' H',Rel C ρ' σ P' H'->(∀p∈P,p∈P')->ArV σ P' vs as->Qd as ρ'->Q vs H'
def A2p (ρ:List Sl)(i:Nat):Bool:=match ρ[i]? with
 | some .no=>false
 | none=>false
 | _=>true
section
variable {es:List Expr}{u:DA}
def A5z  (ρ:List Sl) (Q:List Ar->List Sl->Prop):Prop:=Q [] ρ
def aV (t:DE)(u:DA)  (ρ:List Sl) (Q:List Ar->List Sl->Prop):Prop:=t ρ λd ρ1=>u ρ1 λas ρ2=>Q (.v d::as) ρ2
def aS (i:Nat)(u:DA)  (ρ:List Sl) (Q:List Ar->List Sl->Prop):Prop:=A2p ρ i=true/\u ρ λas ρ2=>Q (.s i::as) ρ2
theorem F4:PA X [] (aOf C A5z):=PA.wk A3 λJ J J zz31=>el3 zz31 λJ J J R ht k=>k [] [] _ _ _ R (λJ h=>h) .nil ht
theorem B9 (ha:PE X e (eOf C t))(hr:PA X es (aOf C u))(hs:autoParam (starEach (e::es) X.env=(false,eval e X.env)::starEach es X.env) RF._auto_1):PA X (e::es) (aOf C (aV t u)):=PA.wk (A1 ha hr hs) λJ J J zz32=>el3 zz32 fun ρ P J R ht k=>
 ⟨ρ,P,_,R,ht,λJ J ρ1 J R1 h1=>⟨ρ1,_,_,R1,h1,λJ J J J J R2 s2 p2 h2=>k _ _ _ _ _ R2 (λp hp=>s2 p (C8 _ hp)) (.v (s2 _ D6) p2) h2⟩⟩
set_option tactic.hygienic true in
theorem D03 {col:Addr->Nat}{ρ:List Sl}{σ:St}{P:List Pe}{H:Hp}{i:Nat}(r:G0 C col ρ σ P H)(h:A2p ρ i=true):∃v,σ[i]?=some (some v):=by
 unfold A2p at h;split at h
 ·cases h
 ·cases h
 ·rename_i s n1 n2;cases q:ρ[i]? with
  | none=>exact absurd q n2
  | some s=>
   have z:=r.sl i s q;cases s with
   | no=>exact absurd q n1
   | sh d=>obtain⟨v,e,_⟩:=z;exact⟨v,O5 e⟩
   | ow d=>obtain⟨a,_,e,_⟩:=z;exact⟨_,O5 e⟩
   | bo d=>obtain⟨a,_,e,_⟩:=z;exact⟨_,O5 e⟩
   | hd=>obtain⟨q,_,e⟩:=z;exact⟨_,O5 e⟩
   | o2 d=>obtain⟨a,_,e,_⟩:=z;exact⟨_,O5 e⟩
   | b2 d=>obtain⟨a,_,e,_⟩:=z;exact⟨_,O5 e⟩
   | di f ks=>obtain⟨a,e,_⟩:=z;exact⟨_,O5 e⟩
   | dm f ks=>obtain⟨a,e,_⟩:=z;exact⟨_,O5 e⟩
   | bd d=>obtain⟨v,e,_⟩:=z;exact⟨v,O5 e⟩
   | ot d=>obtain⟨v,e,_⟩:=z;exact⟨v,O5 e⟩
   | ob R=>obtain⟨v,e,_⟩:=z;exact⟨v,O5 e⟩
theorem G0.le {col:Addr->Nat}{ρ:List Sl}{σ:St}{P:List Pe}{H:Hp}(r:G0 C col ρ σ P H){v:V}{d:PyData}(t:ThV (Le C) C.H0 v d):ThV (Le C) H v d:=t.mv λb o g e=>⟨g,r.kq b o e g.2⟩
set_option tactic.hygienic true in
theorem G0.slot2 {col:Addr->Nat}{ρ:List Sl}{σ:St}{P:List Pe}{H:Hp}(r:G0 C col ρ σ P H){i:Nat}{dss:List (List PyData)}(h:slot2 ρ i=some dss):∃a as,σ[i]?=some (some (.ref a))/\(∀q,C.hand=some q->a≠q.1)/\H a=some (.lst (as.map V.ref))/\Rws (λb=>∀q,C.hand=some q->b≠q.1) (Z col) H as dss:=by
 unfold Tactic.slot2 at h;split at h
 ·rename_i dss' e;cases h;obtain⟨a,as,e1,c,e2,nd,t⟩:=r.sl i _ e;exact⟨a,as,O5 e1,r.notH (by have:=c.1;omega),e2,t.mv (λb o z e=>⟨z,e⟩) λb o g e=>⟨r.notH (by have:=g.1;omega),e⟩⟩
 ·rename_i dss' e;cases h;obtain⟨a,as,e1,c,e2,t⟩:=r.sl i _ e;exact⟨a,as,O5 e1,c.2,e2,t.mv (λb o z e=>⟨z,e⟩) λb o g e=>⟨g.2,e⟩⟩
 ·rename_i d e;cases D01 h;obtain⟨v,e1,t⟩:=r.sl i _ e;cases t with
  | lst n e2 t=>obtain⟨as,rfl,t2⟩:=D02 t;exact⟨_,as,O5 e1,r.notH (by rw[show col _=0 from n];decide),e2,t2.mv (λb o z e=>⟨z,e⟩) λb o g e=>⟨r.notH (by rw[show col b=0 from g];decide),e⟩⟩
 ·cases h
theorem A09 {i:Nat}(ha:PE X e (Y9 i))(hr:PA X es (aOf C u))(hs:autoParam (starEach (e::es) X.env=(false,eval e X.env)::starEach es X.env) RF._auto_1):PA X (e::es) (aOf C (aS i u)):=PA.wk (A1 ha hr hs) fun σ H Q zz33=>el3 zz33 fun ρ P Qd zz34 ht k=>zz34.elim λcol r=>by
 obtain⟨v,ev⟩:=D03 r ht.1;exact⟨v,ev,ρ,P,_,⟨col,r⟩,ht.2,λJ J J J J R2 s2 p2 h2=>k _ _ _ _ _ R2 s2 (.s ev p2) h2⟩
def arD (ρ:List Sl)(m:Md)(a:Ar):Option PyData:=match m,a with
 | .sh,.v d=>some d
 | .bo,.v (.list ds)=>some (.list ds)
 | .bo,.s i=>(U9 ρ i).bind λd=>(T3 d).map PyData.list
 | .hd,.s i=>match ρ[i]? with
  | some .hd=>some .none
  | _=>none
 | .b2,.s i=>(slot2 ρ i).map λdss=>.list (lls dss)
 | .bd,.v d=>some d
 | .bd,.w d=>some d
 | .bd,.s i=>match ρ[i]? with
  | some (.bd d)=>some d
  | some (.sh d)=>some d
  | _=>none
 | _,_=>none
def X0 (ρ:List Sl):List Md->List Ar->Option (List PyData)
 | [],[]=>some []
 | m::ms,a::as=>(arD ρ m a).bind λd=>(X0 ρ ms as).map (d::·)
 | _,_=>none
theorem A50 {d:PyData}{xs:List PyData}(h:T3 d=some xs):d=.list xs:=by
 cases d <;> cases h;rfl
set_option tactic.hygienic true in
theorem B46 {col:Addr->Nat}{ρ:List Sl}{σ:St}{P:List Pe}{H:Hp}(r:G0 C col ρ σ P H){m:Md}{v:V}{d:PyData}{a:Ar}(ha:match a with | .v d=>Pe.v v d∈P | .s i=>σ[i]?=some (some v) | .w d=>Pe.w v d∈P)(h:arD ρ m a=some d):B45 (Z col) C.hand H v d m:=by
 unfold arD at h;split at h
 ·cases h;exact r.pd _ ha
 ·cases h;have z:ThV (Z col) H v (.list _):=r.pd _ ha;cases z with
  | lst za e t=>exact⟨_,_,_,rfl,rfl,r.notH (by rw[show col _=0 from za];decide),e,t⟩
 ·rename_i i;have ha':σ[i]?=some (some v):=ha;cases q:U9 ρ i with
  | none=>rw[q] at h;cases h
  | some d'=>
   rw[q] at h;cases q2:T3 d' with
   | none=>have h':(T3 d').map PyData.list=some d:=h;rw[q2] at h';cases h'
   | some xs=>
    have h':(T3 d').map PyData.list=some d:=h;rw[q2] at h';cases h';have:=A50 q2;subst this;unfold U9 at q;split at q
    ·rename_i d'' e;cases q;obtain⟨v',e1,t⟩:=r.sl i _ e;rw[O5 e1] at ha';cases ha';cases t with
     | lst za e t=>exact⟨_,_,_,rfl,rfl,r.notH (by rw[show col _=0 from za];decide),e,t⟩
    ·rename_i ds e;cases q;obtain⟨a,vs,e1,c,_,e2,t⟩:=r.sl i _ e;rw[O5 e1] at ha';cases ha';exact⟨_,_,_,rfl,rfl,r.notH (by omega),e2,t⟩
    ·rename_i ds e;cases q;obtain⟨a,vs,e1,c,n,e2,t⟩:=r.sl i _ e;rw[O5 e1] at ha';cases ha';exact⟨_,_,_,rfl,rfl,n,e2,t⟩
    ·cases q
 ·rename_i i;have ha':σ[i]?=some (some v):=ha;split at h
  ·rename_i e;cases h;obtain⟨q,e1,e2⟩:=r.sl i _ e;rw[O5 e2] at ha';cases ha';exact⟨q,e1,rfl⟩
  ·cases h
 ·rename_i i;have ha':σ[i]?=some (some v):=ha;cases q:slot2 ρ i with
  | none=>rw[q] at h;cases h
  | some dss=>rw[q] at h;cases h;obtain⟨a,as,e1,n,e2,t⟩:=r.slot2 q;rw[e1] at ha';cases ha';exact⟨a,as,dss,rfl,rfl,n,e2,t⟩
 ·cases h;exact ThV.mv (λb o z e=>⟨r.notH (by rw[show col b=0 from z];decide),e⟩) (r.pd _ ha)
 ·cases h;exact ThV.mv (λb o z e=>⟨z.2,e⟩) (r.le (r.pd _ ha))
 ·rename_i i;have ha':σ[i]?=some (some v):=ha;split at h
  ·rename_i e;cases h;obtain⟨v',e1,t⟩:=r.sl i _ e;rw[O5 e1] at ha';cases ha';exact ThV.mv (λb o z e=>⟨z.2,e⟩) (r.le t)
  ·rename_i e;cases h;obtain⟨v',e1,t⟩:=r.sl i _ e;rw[O5 e1] at ha';cases ha';exact ThV.mv (λb o z e=>⟨r.notH (by rw[show col b=0 from z];decide),e⟩) t
  ·cases h
 ·cases h
theorem B1t {col:Addr->Nat}{ρ:List Sl}{σ:St}{P:List Pe}{H:Hp}(r:G0 C col ρ σ P H):∀{ms:List Md}{vs:List V}{ds:List PyData}{as:List Ar},ArV σ P vs as->X0 ρ ms as=some ds->d8 (Z col) C.hand H ms vs ds
 | [],_,_,_,.nil,h=>by cases h;exact .nil
 | [],_,_,_,.v _ _,h=>by cases h
 | [],_,_,_,.s _ _,h=>by cases h
 | [],_,_,_,.w _ _,h=>by cases h
 | _::_,_,_,_,.nil,h=>by cases h
 | m::ms,_,ds,_,.v (d:=d0) (as:=as) hm t,h=>by
  have h':((arD ρ m (.v d0)).bind λd=>(X0 ρ ms as).map (d::·))=some ds:=h;cases q:arD ρ m (.v d0) with
  | none=>rw[q] at h';cases h'
  | some d=>
   rw[q] at h';have h2:(X0 ρ ms as).map (d::·)=some ds:=h';cases q2:X0 ρ ms as with
   | none=>rw[q2] at h2;cases h2
   | some ds'=>rw[q2] at h2;cases h2;exact .cons (B46 r (a:=.v d0) hm q) (B1t r t q2)
 | m::ms,_,ds,_,.s (i:=i) (as:=as) hm t,h=>by
  have h':((arD ρ m (.s i)).bind λd=>(X0 ρ ms as).map (d::·))=some ds:=h;cases q:arD ρ m (.s i) with
  | none=>rw[q] at h';cases h'
  | some d=>
   rw[q] at h';have h2:(X0 ρ ms as).map (d::·)=some ds:=h';cases q2:X0 ρ ms as with
   | none=>rw[q2] at h2;cases h2
   | some ds'=>rw[q2] at h2;cases h2;exact .cons (B46 r (a:=.s i) hm q) (B1t r t q2)
 | m::ms,_,ds,_,.w (d:=d0) (as:=as) hm t,h=>by
  have h':((arD ρ m (.w d0)).bind λd=>(X0 ρ ms as).map (d::·))=some ds:=h;cases q:arD ρ m (.w d0) with
  | none=>rw[q] at h';cases h'
  | some d=>
   rw[q] at h';have h2:(X0 ρ ms as).map (d::·)=some ds:=h';cases q2:X0 ρ ms as with
   | none=>rw[q2] at h2;cases h2
   | some ds'=>rw[q2] at h2;cases h2;exact .cons (B46 r (a:=.w d0) hm q) (B1t r t q2)
def A51 (ms:List Md)(sp:DSp)(u:DA)  (ρ:List Sl) (Q:PyData->List Sl->Prop):Prop:=u ρ λas ρ'=>bnd (X0 ρ' ms as) λds=>sp ds λd=>Q d ρ'
theorem F5 {ms:List Md}{sp:DSp}{E:XK}(h:PE X e (C0o (spD ms sp) [] E (aOf C u))):PE X e (eOf C (A51 ms sp u)):=PE.wk h fun σ H Q zz35=>el3 zz35 fun ρ P Qd R ht k=>⟨ρ,P,_,R,ht,λvs as ρ' P' H' zz36 s p q=>zz36.elim λcol r=>by
 obtain⟨ds,hds,q⟩:=O3 q;rw[X5];obtain⟨col,r,tp⟩:=r.norm;refine⟨Z col,C.hand,ds,_,⟨r.fresh,tp⟩,λq hq z=>?_,r.hq,B1t r p hds,q,λd v H2 q2 t2 k2 h2=>k _ _ _ _ ⟨col,(((r.mv k2 h2).sub s)).push t2⟩ q2⟩;have:=r.hnd q hq;rw[show col q.1=0 from z] at this;cases this⟩
end
structure A9g (C:DC)(J:It)(xs:List PyData)(P:List Pe):Prop where
 go:∀{i:Nat}{ρ:List Sl}{σ:St}{P':List Pe}{H:Hp},(∀p∈P,p∈P')->Rel C ρ σ P' H->i<xs.length->J.go i H
 yld:∀{i:Nat}{ρ:List Sl}{σ:St}{P':List Pe}{H H':Hp}{x:V}{d:PyData},(∀p∈P,p∈P')->Rel C ρ σ P' H->xs[i]?=some d->J.yld i H x H'->Rel C ρ σ (.v x d::P') H'
 stop:∀{ρ:List Sl}{σ:St}{P':List Pe}{H:Hp},(∀p∈P,p∈P')->Rel C ρ σ P' H->J.stop xs.length H
theorem M2 {F:Addr->Prop}{H:Hp}{v:V}{xs:List PyData}(t:ThV F H v (.list xs)):∃a vs,v=.ref a/\F a/\H a=some (.lst vs)/\B4 F H vs xs:=by
 cases t with
 | lst za e t=>exact⟨_,_,rfl,za,e,t⟩
theorem Y0 {F:Addr->Prop}{H:Hp}{v:V}{xs:List PyData}(t:ThV F H v (.tuple xs)):∃a vs,v=.ref a/\F a/\H a=some (.tup vs)/\B4 F H vs xs:=by
 cases t with
 | tup za e t=>exact⟨_,_,rfl,za,e,t⟩
def iOf (C:DC)(t:DF):TI:=fun σ H R=>∃ρ P Qd,Rel C ρ σ P H/\t ρ Qd/\∀xs ρ' P' H' J,Rel C ρ' σ P' H'->(∀p∈P,p∈P')->A9g C J xs P'->Qd xs ρ'->R J H'
section
variable {tg:Expr}{u:DF}
theorem PI.wk {tg e:Expr}{w w':TI}(h:PI X tg e w)(f:∀σ H R,w' σ H R->w σ H R):PI X tg e w':=λpins s σ H R I q=>h pins s σ H R I (f σ H R q)
theorem B1u {K:A8}{a:Addr}{vs:List V}{xs:List PyData}{P:List Pe}:A9g C (Itl K a) xs (.n a (.lst vs)::.s vs xs::P) where
 go:=λ{i ρ σ P' H} s R hi=>by
  obtain⟨col,r⟩:=R;have h1:=r.pd _ (s _ D6);have h2:B4 (Z col) H vs xs:=r.pd _ (s _ (C8 _ D6));have hl:=h2.len;exact⟨vs,vs[i],SqL.of h1.2.2,P7 (by omega)⟩
 yld:=λ{i ρ σ P' H H' x d} s R hi y=>by
  obtain⟨e,y⟩:=y;subst e;obtain⟨col,r⟩:=R;have h1:=r.pd _ (s _ D6);have h2:B4 (Z col) H' vs xs:=r.pd _ (s _ (C8 _ D6));have hx:=y vs (SqL.of h1.2.2);obtain⟨d',e1,t⟩:=h2.get hx;rw[hi] at e1;cases e1;exact⟨col,r.push t⟩
 stop:=λ{ρ σ P' H} s R=>by
  obtain⟨col,r⟩:=R;have h1:=r.pd _ (s _ D6);have h2:B4 (Z col) H vs xs:=r.pd _ (s _ (C8 _ D6));have hl:=h2.len;exact⟨vs,SqL.of h1.2.2,by omega⟩
def dIl (t:DE)  (ρ:List Sl) (Q:List PyData->List Sl->Prop):Prop:=t ρ λd ρ'=>bnd (T3 d) λxs=>Q xs ρ'
theorem B47 (h:PE X e (eOf C t)):PI X tg e (iOf C (dIl t)):=PI.wk (W7 h) λJ J J zz1=>el3 zz1 fun ρ P J R ht k=>⟨ρ,P,_,R,ht,λv d ρ' H' zz2 q=>zz2.elim λcol r=>by
 obtain⟨xs,hx,q⟩:=O3 q;have:=A50 hx;subst this;obtain⟨a,vs,rfl,za,e1,t1⟩:=M2 (show ThV (Z col) H' v (.list xs) from r.pd _ D6);refine⟨a,rfl,⟨vs,SqL.of e1⟩,k xs ρ' (.n a (.lst vs)::.s vs xs::P) H' _ ⟨col,?_⟩ (λJ h=>C8 _ (C8 _ h)) B1u q⟩;exact ((r.sub λJ h=>C8 _ h).add (x:=.s vs xs) t1).add (x:=.n a (.lst vs)) ⟨by rw[show col a=0 from za];decide,r.notH (by rw[show col a=0 from za];decide),e1⟩⟩
def dIv (i:Nat)  (ρ:List Sl) (Q:List PyData->List Sl->Prop):Prop:=match ρ[i]? with
 | some (.sh (.list xs))=>Q xs ρ
 | some (.ow xs)=>Q xs (ρ.set i (.sh (.list xs)))
 | some (.bo xs)=>Q xs ρ
 | _=>False
set_option tactic.hygienic true in
theorem A3r {i:Nat}(h:PE X e (Y9 i)):PI X tg e (iOf C (dIv i)):=PI.wk (W7 h) fun σ H R' zz5=>el3 zz5 fun ρ P Qd zz6 ht k=>zz6.elim λcol r=>by
 unfold dIv at ht;split at ht
 ·rename_i xs e;obtain⟨v,e1,t⟩:=r.sl i _ e;obtain⟨a,vs,rfl,za,e2,t1⟩:=M2 t
  ·refine⟨_,O5 e1,a,rfl,⟨vs,SqL.of e2⟩,k xs ρ (.n a (.lst vs)::.s vs xs::P) H _ ⟨col,?_⟩ (λJ h=>C8 _ (C8 _ h)) B1u ht⟩;exact (r.add (x:=.s vs xs) t1).add (x:=.n a (.lst vs)) ⟨by rw[show col a=0 from za];decide,r.notH (by rw[show col a=0 from za];decide),e2⟩
 ·rename_i xs e;obtain⟨a,e1,col',r'⟩:=r.freeze e;obtain⟨a',vs,ea,za,e2,t1⟩:=M2 (show ThV (Z col') H (.ref a) (.list xs) from r'.pd _ D6);cases ea
  ·refine⟨_,O5 e1,a,rfl,⟨vs,SqL.of e2⟩,k xs _ (.n a (.lst vs)::.s vs xs::P) H _ ⟨col',?_⟩ (λJ h=>C8 _ (C8 _ h)) B1u ht⟩;exact ((r'.sub λJ h=>C8 _ h).add (x:=.s vs xs) t1).add (x:=.n a (.lst vs)) ⟨by rw[show col' a=0 from za];decide,r'.notH (by rw[show col' a=0 from za];decide),e2⟩
 ·rename_i xs e;obtain⟨a,vs,e1,c,n,e2,t⟩:=r.sl i _ e;exact⟨_,O5 e1,a,rfl,⟨vs,SqL.of e2⟩,k xs ρ (.n a (.lst vs)::.s vs xs::P) H _ ⟨col,(r.add (x:=.s vs xs) t).add (x:=.n a (.lst vs)) ⟨c,n,e2⟩⟩ (λJ h=>C8 _ (C8 _ h)) B1u ht⟩
 ·exact ht.elim
def f7 (lo:Int)(n:Nat):List PyData:=(T5 n).map λi=>.int (lo+((i:Nat):Int))
theorem D04 {lo:Int}{n i:Nat}{d:PyData}(h:(f7 lo n)[i]?=some d):i<n/\d=.int (lo+i):=by
 unfold f7 at h;rw[P6] at h;by_cases hi:i<n
 ·rw[C7a hi] at h;cases h;exact⟨hi,rfl⟩
 ·rw[A4p (by rw[w4];omega)] at h;cases h
theorem D05 {lo:Int}{n:Nat}{P:List Pe}:A9g C (Itr lo n) (f7 lo n) P where
 go:=λ{i _ _ _ _} _ _ hi=>by
  have:(f7 lo n).length=n:=by unfold f7;rw[B6,w4]
  show i<n;omega
 yld:=λ{i ρ σ P' H H' x d} _ R hi y=>by
  obtain⟨e1,e2⟩:=y;subst e1 e2;obtain⟨_,e3⟩:=D04 hi;subst e3;obtain⟨col,r⟩:=R;exact⟨col,r.push (.int _)⟩
 stop:=λJ J=>by
  have:(f7 lo n).length=n:=by unfold f7;rw[B6,w4]
  show n<=(f7 lo n).length;omega
def B48 (u:DF)  (ρ:List Sl) (Q:List PyData->List Sl->Prop):Prop:=u ρ λds ρ'=>match ds with
 | [.int j]=>(-(2^62)<=j/\j<2^62)/\Q (f7 0 j.toNat) ρ'
 | _=>False
theorem B49 (h:PI X tg e (B98 (vOf C u))):PI X tg e (iOf C (B48 u)):=PI.wk h λJ J J zz7=>el3 zz7 fun ρ P J R ht k=>⟨ρ,P,_,R,ht,λvs ds ρ' P' H' zz8 s p q=>zz8.elim λcol r=>by
 split at q
 ·have t:=p.th r;obtain⟨v,rfl,t1⟩:=A3l t;cases t1;exact⟨_,rfl,q.1.1,q.1.2,k _ _ P' _ _ ⟨col,r⟩ s D05 q.2⟩
 ·exact q.elim⟩
def A1x (xs:List PyData):List PyData:=xs.zipIdx.map λp=>.tuple [.int (p.2:Nat),p.1]
theorem D06 {xs:List PyData}{i:Nat}{d:PyData}(h:(A1x xs)[i]?=some d):∃x,xs[i]?=some x/\d=.tuple [.int (i:Nat),x]:=by
 unfold A1x at h;rw[P6,List.getElem?_zipIdx] at h;cases q:xs[i]? with
 | none=>rw[q] at h;cases h
 | some x=>rw[q] at h;cases h;exact⟨x,rfl,by rw[Nat.zero_add]⟩
theorem D07 {K:A8}{a:Addr}{vs:List V}{xs:List PyData}{P:List Pe}:A9g C (Ite K a) (A1x xs) (.n a (.lst vs)::.s vs xs::P) where
 go:=λ{i ρ σ P' H} s R hi=>by
  obtain⟨col,r⟩:=R;have h1:=r.pd _ (s _ D6);have h2:B4 (Z col) H vs xs:=r.pd _ (s _ (C8 _ D6));have hl:=h2.len;have hi':i<xs.length:=by unfold A1x at hi;rw[B6,List.length_zipIdx] at hi;exact hi
  exact⟨vs,vs[i],SqL.of h1.2.2,P7 (by omega)⟩
 yld:=λ{i ρ σ P' H H' x d} s R hi y=>by
  obtain⟨p,v,rfl,hp,rfl,y⟩:=y;obtain⟨col,r⟩:=R;have h1:=r.pd _ (s _ D6);have h2:B4 (Z col) H vs xs:=r.pd _ (s _ (C8 _ D6));have hx:=y vs (SqL.of h1.2.2);obtain⟨x,e1,rfl⟩:=D06 hi;obtain⟨d',e2,t⟩:=h2.get hx;rw[e1] at e2;cases e2;exact⟨col,r.tup (.cons (.int _) (.cons t .nil)) hp⟩
 stop:=λ{ρ σ P' H} s R=>by
  obtain⟨col,r⟩:=R;have h1:=r.pd _ (s _ D6);have h2:B4 (Z col) H vs xs:=r.pd _ (s _ (C8 _ D6));have hl:=h2.len;exact⟨vs,SqL.of h1.2.2,by unfold A1x;rw[B6,List.length_zipIdx];omega⟩
def B5a (t:DE)  (ρ:List Sl) (Q:List PyData->List Sl->Prop):Prop:=t ρ λd ρ'=>bnd (T3 d) λxs=>Q (A1x xs) ρ'
theorem C2b {K:A8}(h:PI X tg e (C1l K (V8 (eOf C t) T8))):PI X tg e (iOf C (B5a t)):=PI.wk h λJ J J zz11=>el3 zz11 fun ρ P J R ht k=>⟨ρ,P,_,R,ht,λv d ρ' H' zz12 q=>zz12.elim λcol r=>by
 obtain⟨xs,hx,q⟩:=O3 q;have:=A50 hx;subst this;obtain⟨a,vs,rfl,za,e1,t1⟩:=M2 (show ThV (Z col) H' v (.list xs) from r.pd _ D6);refine⟨a,rfl,⟨vs,SqL.of e1⟩,k _ ρ' (.n a (.lst vs)::.s vs xs::P) H' _ ⟨col,?_⟩ (λJ h=>C8 _ (C8 _ h)) D07 q⟩;exact ((r.sub λJ h=>C8 _ h).add (x:=.s vs xs) t1).add (x:=.n a (.lst vs)) ⟨by rw[show col a=0 from za];decide,r.notH (by rw[show col a=0 from za];decide),e1⟩⟩
end
def A3s (tt:DT)(te:DE)(ρ:List Sl)(Q:List PyData->Prop):List PyData->List PyData->Prop
 | [],acc=>Q acc
 | x::r,acc=>tt (ρ++[.sh x]) λb ρ'=>ρ'=ρ++[.sh x]/\if b=true then te (ρ++[.sh x]) λd ρ''=>ρ''=ρ++[.sh x]/\A3s tt te ρ Q r (acc++[d]) else A3s tt te ρ Q r acc
def A1y (j:Nat)(it:DF)(tt:DT)(te:DE)  (ρ:List Sl) (Q:List PyData->List Sl->Prop):Prop:=it ρ λxs ρ1=>(ρ1.length=j/\xs.length<=1000)/\A3s tt te ρ1 (λds=>Q ds ρ1) xs []
def B5b  (ρ:List Sl) (Q:Bool->List Sl->Prop):Prop:=Q true ρ
theorem PTs.wk {es:List Expr}{t t':TT}(h:PTs X es t)(f:∀σ H Q,t' σ H Q->t σ H Q):PTs X es t':=λpins s σ H Q I q=>h pins s σ H Q I (f σ H Q q)
theorem A2q:PTs X [] (cOf C B5b):=PTs.wk W8 λJ J J zz13=>el3 zz13 λJ J J R ht k=>k _ _ _ R ht
theorem Rel.ext {ρ:List Sl}{σ:St}{P:List Pe}{H:Hp}{x:V}{d:PyData}(R:Rel C ρ σ (.v x d::P) H):Rel C (ρ++[.sh d]) (σ++[some x]) P H:=by
 obtain⟨col,r⟩:=R;have t:ThV (Z col) H x d:=r.pd _ D6;have r:=r.sub λJ h=>C8 _ h;refine⟨col,{ r with sl:=λi s e=>?_,len:=by rw[S8,S8,r.len];rfl }⟩;by_cases hi:i<ρ.length
 ·rw[A26 hi] at e;rw[A26 (by rw[<-r.len];exact hi)];exact r.sl i s e
 ·rw[k0 (by omega)] at e;rw[k0 (by rw[<-r.len];omega),<-r.len]
  match q:i-ρ.length with
  | 0=>rw[q] at e;cases e;exact⟨x,rfl,t⟩
  | n+1=>rw[q] at e;simp at e
theorem G0.unext {col:Addr->Nat}{ρ ρ':List Sl}{σ σ':St}{P:List Pe}{H:Hp}(r:G0 C col (ρ++ρ') (σ++σ') P H)(hl:ρ.length=σ.length):G0 C col ρ σ P H:=by
 refine { r with sl:=λi s e=>?_,len:=hl };have hi:=(A0h.mp e).1;have:=r.sl i s (by rw[A26 hi];exact e);rw[A26 (by omega)] at this;exact this
theorem B4.snoc {F:Addr->Prop}{H:Hp}{vs:List V}{ds:List PyData}{v:V}{d:PyData}(t:B4 F H vs ds)(x:ThV F H v d):B4 F H (vs++[v]) (ds++[d]):=t.append (.cons x .nil)
theorem D08 {σ:St}{n j:Nat}{x:V}(h1:n=σ.length+1)(h2:j=σ.length):(S4 n j σ).set j (some x)=σ++[some x]:=by
 subst h1 h2;unfold S4;rw[A8x (by simp),B0p _ _ (E8 _),B0p _ _ (E8 _)];simp
theorem B5c {it:DF}{tt:DT}{te:DE}{n j:Nat}(hn:n=j+1){σ:St}{H:Hp}{Q:VK}(h:fOf C (A1y j it tt te) σ H Q):A7c (iOf C it) n j (λY=>cOf C tt) (λY=>eOf C te) σ H Q:=by
 obtain⟨ρ,P,Qd,R,ht,k⟩:=h;refine⟨ρ,P,_,R,ht,λxs ρ1 P1 H1 J R1 s1 io q=>?_⟩;obtain⟨⟨hj,hx⟩,q⟩:=q;have lz:∀m,m<=1000->m<=sizeLine:=λm hm=>A24 (B1e hm);refine⟨λi m ys H'=>m=xs.length-i/\i<=xs.length/\ys.length<=i/\∃acc,Rel C ρ1 σ (.s ys acc::P1) H'/\A3s tt te ρ1 (λds=>Qd ds ρ1) (xs.drop i) acc,⟨xs.length,by simp,P5 _,E8 _,[],?_,q⟩,?_⟩
 ·obtain⟨col,r⟩:=R1;exact⟨col,r.add (x:=.s [] []) .nil⟩
 rintro i m ys H2 ⟨rfl,hi,hy,acc,R2,q2⟩;refine⟨lz _ (by omega),?_⟩;have sub2:∀p∈P1,p∈Pe.s ys acc::P1:=λY h=>C8 _ h;have hlen:ρ1.length=σ.length:=by obtain⟨col,r⟩:=R2;exact r.len
 by_cases hlt:i<xs.length
 ·rw[C7b hlt] at q2;refine .inr ⟨io.go sub2 R2 hlt,λys' H'=>ys'.length<=i+1/\∃acc,Rel C ρ1 σ (.s ys' acc::P1) H'/\A3s tt te ρ1 (λds=>Qd ds ρ1) (xs.drop (i+1)) acc,λys' H' zz14=>zz14.elim λh1 h2=>⟨xs.length-(i+1),by omega,rfl,hlt,h1,h2⟩,λx H3 y a=>?_⟩;have R3:=(io.yld sub2 R2 (P7 hlt) y).ext;rw[D08 (by rw[hn,<-hlen,hj]) (by rw[<-hlen,hj])];refine⟨_,_,_,R3,q2,λb ρ' H4 R4 q4=>?_⟩;obtain⟨rfl,q4⟩:=q4;cases b with
  | true=>refine G4 ⟨_,_,_,R4,by simpa using q4,λv d ρ'' H5 R5 q5=>?_⟩;obtain⟨rfl,q5⟩:=q5;refine⟨by rw[S8];simp;omega,acc++[d],?_,q5⟩;obtain⟨col,r⟩:=R5;have t1:ThV (Z col) H5 v d:=r.pd _ D6;have t2:B4 (Z col) H5 ys acc:=r.pd _ (C8 _ D6);exact⟨col,((r.unext hlen).sub λY h=>C8 _ (C8 _ h)).add (x:=.s (ys++[v]) (acc++[d])) (t2.snoc t1)⟩
  | false=>refine E4 ⟨by omega,acc,?_,by simpa using q4⟩;obtain⟨col,r⟩:=R4;exact⟨col,r.unext hlen⟩
 ·have e:i=xs.length:=by omega
  subst e;rw[List.drop_length] at q2;refine .inl ⟨io.stop sub2 R2,λp hp=>k _ _ _ _ _ ?_ hp q2⟩;obtain⟨col,r⟩:=R2;exact⟨col,r.sub λp hp=>C8 _ (s1 p hp),r.pd _ D6⟩
structure Z4 where
 nx:List Sl->Prop
 rt:PyData->Prop
 bk:List Sl->Prop:=λ_=>False
 ct:List Sl->Prop:=λ_=>False
 ro:Sl->Prop:=λ_=>False
abbrev DS:=Z4->List Sl->Prop
def D09 (C:DC)(col:Addr->Nat)(H:Hp)(v:V):Sl->Prop
 | .ow ds=>∃a vs,v=.ref a/\C.H0 a=none/\col a≠0/\H a=some (.lst vs)/\B4 (Z col) H vs ds
 | .o2 dss=>∃a as,v=.ref a/\(C.H0 a=none/\col a≠0)/\H a=some (.lst (as.map V.ref))/\(a::as).Nodup/\Rws (λb=>C.H0 b=none/\col b≠0) (Z col) H as dss
 | .di false ks=>∃a,v=.ref a/\C.H0 a=none/\H a=some (.dT (dEn ks))
 | _=>False
structure D1a (C:DC)(P:List Pe)(Dd:Z4)(D:A0j):Prop where
 nx:∀ρ σ H,Rel C ρ σ P H->Dd.nx ρ->D.nx σ H
 rt:∀v d ρ σ H,Rel C ρ σ (.v v d::P) H->Dd.rt d->D.rt v H
 bk:∀ρ σ H,Rel C ρ σ P H->Dd.bk ρ->D.bk σ H
 ct:∀ρ σ H,Rel C ρ σ P H->Dd.ct ρ->D.ct σ H
 ro:∀(v:V)(s:Sl)(ρ:List Sl) σ H col,G0 C col ρ σ P H->D09 C col H v s->Dd.ro s->D.rt v H
def sOf (C:DC)(t:DS):TS:=λD σ H=>∃ρ P Dd,Rel C ρ σ P H/\t Dd ρ/\D1a C P Dd D
section
variable {st:Stmt}{sts:List Stmt}{t u:DS}{te:DE}{tf:DF}{c:DT}
theorem PS.wk {t t':TS}(h:PS X st t)(f:∀D σ H,t' D σ H->t D σ H):PS X st t':=λpins s σ H D I q=>h pins s σ H D I (f D σ H q)
theorem PSs.wk {t t':TS}(h:PSs X sts t)(f:∀D σ H,t' D σ H->t D σ H):PSs X sts t':=λpins s σ H D I q=>h pins s σ H D I (f D σ H q)
def A52 (t u:DS)  (D:Z4) (ρ:List Sl):Prop:=t { D with nx:=u D } ρ
def A53  (D:Z4) (ρ:List Sl):Prop:=D.nx ρ
theorem Y1:PSs X [] (sOf C A53):=PSs.wk K2 λJ J J zz15=>el3 zz15 λJ J J R ht E=>E.nx _ _ _ R ht
theorem E5 (h:PS X st (sOf C t)):PSs X [st] (sOf C t):=C1 h
theorem G8 (h1:PS X st (sOf C t))(h2:PSs X sts (sOf C u)):PSs X (st::sts) (sOf C (A52 t u)):=PSs.wk (B5 h1 h2) λJ J J zz16=>el3 zz16 fun ρ P Dd R ht E=>⟨ρ,P,{ Dd with nx:=u Dd },R,ht,⟨fun ρ' J J R' h=>⟨ρ',P,Dd,R',h,E⟩,E.rt,E.bk,E.ct,E.ro⟩⟩
def Go (f:List Sl->Prop)(ρ:List Sl):Prop:=f ρ
theorem go {f:List Sl->Prop}{ρ:List Sl}(h:f ρ):Go f ρ:=h
def A1a (t u:DS)(D:Z4)(ρ:List Sl):Prop:=t { D with nx:=Go (u D) } ρ
theorem N8 (h1:PS X st (sOf C t))(h2:PSs X sts (sOf C u)):PSs X (st::sts) (sOf C (A1a t u)):=PSs.wk (B5 h1 h2) λJ J J zz17=>el3 zz17 fun ρ P Dd R ht E=>⟨ρ,P,{ Dd with nx:=Go (u Dd) },R,ht,⟨fun ρ' J J R' h=>⟨ρ',P,Dd,R',h,E⟩,E.rt,E.bk,E.ct,E.ro⟩⟩
def B1v (t:DS)  (D:Z4) (ρ:List Sl):Prop:=∃M:List Sl->Prop,t { D with nx:=M } ρ/\∀ρ',M ρ'->D.nx ρ'
theorem B1w (h:PS X st (sOf C t)):PS X st (sOf C (B1v t)):=PS.wk h λ_ _ _ ⟨ρ,P,Dd,R,⟨M,h1,h2⟩,E⟩=>⟨ρ,P,{ Dd with nx:=M },R,h1,⟨fun ρ' σ' H' R' h=>E.nx ρ' σ' H' R' (h2 ρ' h),E.rt,E.bk,E.ct,E.ro⟩⟩
theorem D1b:PS X st (sOf C λJ J=>False):=PS.wk W9 λJ J J zz22=>el3 zz22 λJ J J J h J=>h
def A54 (te:DE)  (D:Z4) (ρ:List Sl):Prop:=te ρ λd J=>D.rt d
theorem F8 (h:PE X e (eOf C te)):PS X (.Return (some e) pos) (sOf C (A54 te)):=PS.wk (E3 h) λJ J J zz23=>el3 zz23 fun ρ P J R ht E=>⟨ρ,P,_,R,ht,λv d J J R' q=>E.rt v d _ _ _ R' q⟩
def A55 (c:DT)(t u:DS)  (D:Z4) (ρ:List Sl):Prop:=c ρ λb ρ'=>if b=true then t D ρ' else u D ρ'
theorem X1 {ce:Expr}{a b:List Stmt}(hc:PT X ce (cOf C c))(ha:PSs X a (sOf C t))(hb:PSs X b (sOf C u)):PS X (.If ce a b pos) (sOf C (A55 c t u)):=PS.wk (J6 hc ha hb) λJ J J zz26=>el3 zz26 fun ρ P Dd R ht E=>⟨ρ,P,_,R,ht,λb ρ' J R' q=>by
 cases b with
 | true=>exact G4 ⟨ρ',P,Dd,R',by simpa using q,E⟩
 | false=>exact E4 ⟨ρ',P,Dd,R',by simpa using q,E⟩⟩
def A3t (i:Nat)(te:DE)  (D:Z4) (ρ:List Sl):Prop:=te ρ λd ρ'=>D.nx (ρ'.set i (.sh d))
theorem J7 {i:Nat}(hp:PS X st (A83 (eOf C te) (G3 i))):PS X st (sOf C (A3t i te)):=PS.wk hp λJ J J zz28=>el3 zz28 fun ρ P J R ht E=>⟨ρ,P,_,R,ht,λv d ρ' H' zz29 q=>zz29.elim λcol r=>E.nx _ _ _ ⟨col,((r.store (i:=i) (r.pd _ D6)).sub λJ h=>C8 _ h)⟩ q⟩
def A3u (i:Nat)(tf:DF)  (D:Z4) (ρ:List Sl):Prop:=tf ρ λds ρ'=>D.nx (ρ'.set i (.ow ds))
theorem A3v {i:Nat}(hp:PS X st (A83 (fOf C tf) (G3 i))):PS X st (sOf C (A3u i tf)):=PS.wk hp λJ J J zz30=>el3 zz30 fun ρ P J R ht E=>⟨ρ,P,_,R,ht,λp vs ds ρ' H1 zz31 hp q=>el2 zz31 λcol r t=>E.nx _ _ _ (r.own t hp) q⟩
theorem D1c {i n j:Nat}{it:DF}{tt:DT}(hn:n=j+1)(hp:PS X st (λD σ H=>A7c (iOf C it) n j (λJ=>cOf C tt) (λJ=>eOf C te) σ H λv H1=>D.nx (σ.set i (some v)) H1)):PS X st (sOf C (A3u i (A1y j it tt te))):=
 PS.wk hp λJ J J zz32=>el3 zz32 fun ρ P J R ht E=>B5c hn ⟨ρ,P,_,R,ht,λp vs ds ρ' H1 zz33 hp q=>el2 zz33 λcol r t=>E.nx _ _ _ (r.own t hp) q⟩
theorem D1d {i n j:Nat}{it:DF}{tt:DT}(hn:n=j+1)(hp:PS X st (λD σ H=>A7c (iOf C it) n j (λJ=>cOf C tt) (λJ=>eOf C te) σ H λv H1=>D.nx (σ.set i (some v)) H1)):PS X st (sOf C (A3t i (dF (A1y j it tt te)))):=
 PS.wk hp λJ J J zz34=>el3 zz34 fun ρ P J R ht E=>B5c hn ⟨ρ,P,_,R,ht,λp vs ds ρ' H1 zz35 hp q=>el2 zz35 λcol r t=>E.nx _ _ _ ⟨col,(((r.lst t hp).store (i:=i) ((r.lst t hp).pd _ D6)).sub λJ h=>C8 _ h)⟩ q⟩
def A3w (i:Nat)(te:DE)  (D:Z4) (ρ:List Sl):Prop:=match ρ[i]? with
 | some (.ow _)=>te ρ λd ρ'=>match ρ'[i]? with
  | some (.ow ds)=>ds.length<=1000/\D.nx (ρ'.set i (.ow (ds++[d])))
  | _=>False
 | _=>False
set_option tactic.hygienic true in
theorem A9h {i:Nat}{K:A8}(hp:PS X st (B93 (tBM K "list" C07 (Y9 i) (V8 (eOf C te) T8)))):PS X st (sOf C (A3w i te)):=PS.wk hp λD σ H zz36=>el3 zz36 fun ρ P Dd zz37 ht E=>zz37.elim λcol r=>by
 unfold A3w at ht;split at ht
 ·rename_i ds0 e0;obtain⟨a,vs,e1,c,n,e2,t⟩:=r.sl i _ e0;refine⟨.ref a,O5 e1,.inl ⟨rfl,vs,SqL.of e2⟩,ρ,P,_,⟨col,r⟩,ht,λv d ρ' H' zz38 q=>zz38.elim λcol' r'=>?_⟩;split at q
  ·rename_i ds e0';obtain⟨a',vs',e1',c',n',e2',t'⟩:=r'.sl i _ e0';rw[e1] at e1';cases e1';exact⟨a,vs',v,rfl,rfl,e2',by rw[t'.len];exact B1e q.1,E.nx _ _ _ ⟨col',((r'.write e0' e1 (t'.snoc (r'.pd _ D6)))).sub λJ h=>C8 _ h⟩ q.2⟩
  ·exact q.elim
 ·exact ht.elim
def A56 (i:Nat)(te tk:DE)  (D:Z4) (ρ:List Sl):Prop:=te ρ λd ρ1=>match ρ1[i]? with
 | some (.ow _)=>tk ρ1 λk ρ2=>match ρ2[i]? with
  | some (.ow ds)=>match k with
   | .int k=>bnd (ixN ds.length k) λj=>D.nx (ρ2.set i (.ow (ds.set j d)))
   | _=>False
  | _=>False
 | _=>False
theorem B4.set {F:Addr->Prop}{H:Hp}{v:V}{d:PyData}(x:ThV F H v d):∀{vs:List V}{ds:List PyData}(j:Nat),B4 F H vs ds->B4 F H (vs.set j v) (ds.set j d)
 | _,_,_,.nil=>.nil
 | _,_,0,.cons _ t=>.cons x t
 | _,_,j+1,.cons y t=>.cons y (B4.set x j t)
set_option tactic.hygienic true in
theorem A9i {i:Nat}{tk:DE}(hp:PS X st (A83 (eOf C te) (B95 (Y9 i) (eOf C tk) C03))):PS X st (sOf C (A56 i te tk)):=PS.wk hp λD σ H zz39=>el3 zz39 fun ρ P Dd R ht E=>⟨ρ,P,_,R,ht,λv d ρ1 H1 zz40 q1=>zz40.elim λcol1 r1=>by
 split at q1
 ·rename_i ds0 e0;obtain⟨a,vs,e1,c,n,e2,t⟩:=r1.sl i _ e0;refine⟨.ref a,O5 e1,ρ1,_,_,⟨col1,r1⟩,q1,λw k ρ2 H2 zz41 q2=>zz41.elim λcol2 r2=>?_⟩;split at q2
  ·rename_i ds e0';cases k with
   | int k'=>obtain⟨j,hj,q⟩:=O3 q2;obtain⟨a',vs',e1',c',n',e2',t'⟩:=r2.sl i _ e0';rw[e1] at e1';cases e1';have tw:ThV (Z col2) H2 w (.int k'):=r2.pd _ D6;cases tw;refine⟨a,vs',k',j,rfl,rfl,e2',by rw[t'.len];exact hj,E.nx _ _ _ ⟨col2,((r2.write e0' e1 (B4.set (r2.pd (.v v d) (C8 _ D6)) j t'))).sub λJ h=>C8 _ (C8 _ h)⟩ q⟩
   | _=>exact q2.elim
  ·exact q2.elim
 ·exact q1.elim⟩
abbrev DG:=PyData->List Sl->(List Sl->Prop)->Prop
def gOf (C:DC)(g:DG):TG:=λv σ H Q=>∃ρ P d Qd,Rel C ρ σ (.v v d::P) H/\g d ρ Qd/\∀ρ' σ',Rel C ρ' σ' P H->Qd ρ'->Q σ' H
theorem PG.wk {tg:Expr}{g g':TG}(h:PG X tg g)(f:∀v σ H Q,g' v σ H Q->g v σ H Q):PG X tg g':=λpins s σ H v u Q I r q=>h pins s σ H v u Q I r (f v σ H Q q)
def gN (i:Nat)  (d:PyData) (ρ:List Sl) (Q:List Sl->Prop):Prop:=Q (ρ.set i (.sh d))
theorem B1x {tg:Expr}{i:Nat}(h:PG X tg (G3 i)):PG X tg (gOf C (gN i)):=PG.wk h λ_ _ _ _ ⟨_,_,_,_,⟨col,r⟩,ht,k⟩=>k _ _ ⟨col,((r.store (i:=i) (r.pd _ D6)).sub λJ h=>C8 _ h)⟩ ht
def gT2 (i j:Nat)  (d:PyData) (ρ:List Sl) (Q:List Sl->Prop):Prop:=match d with
 | .tuple [a,b]=>Q ((ρ.set i (.sh a)).set j (.sh b))
 | _=>False
set_option tactic.hygienic true in
theorem C2c {tg:Expr}{i j:Nat}{K:A8}(h:PG X tg (B03 K 2 (A02 (G3 i) (A02 (G3 j) B02)))):PG X tg (gOf C (gT2 i j)):=PG.wk h λv σ H Q ⟨ρ,P,d,Qd,⟨col,r⟩,ht,k⟩=>by
 unfold gT2 at ht;split at ht
 ·rename_i a b;have z:ThV (Z col) H v (.tuple [a,b]):=r.pd _ D6;cases z with
  | tup za e t=>obtain⟨x,y,rfl,t1,t2⟩:=X9 t;exact⟨_,_,rfl,SqT.of e,rfl,x,[y],rfl,y,[],rfl,rfl,k _ _ ⟨col,(((r.store (i:=i) t1).store (i:=j) t2).sub λJ h=>C8 _ h)⟩ ht⟩
 ·exact ht.elim
def Blk (t:DS)(D:Z4)(ρ:List Sl):Prop:=t D ρ
def B5d (it:DF)(g:DG)(tb:DS)(D:Z4)(ρ:List Sl):Prop:=it ρ λxs ρ1=>∃I:List PyData->List Sl->Prop,I xs ρ1/\(∀x r ρ,I (x::r) ρ->g x ρ (Blk tb { nx:=I r,ct:=I r,bk:=D.nx,rt:=D.rt }))/\∀ρ,I [] ρ->D.nx ρ
theorem A7p {it:DF}{g:DG}{tb:DS}(hp:PS X st (B99 (iOf C it) (gOf C g) (sOf C tb))):PS X st (sOf C (B5d it g tb)):=PS.wk hp λD σ H zz46=>el3 zz46 fun ρ P Dd R ht E=>⟨ρ,P,_,R,ht,λxs ρ1 P1 H1 J R1 s1 io q=>by
 obtain⟨I,q0,qs,qd⟩:=q;refine⟨λi m σ' H'=>m=xs.length-i/\i<=xs.length/\∃ρ',Rel C ρ' σ' P1 H'/\I (xs.drop i) ρ',⟨xs.length,by simp,P5 _,ρ1,R1,q0⟩,?_⟩;rintro i m σ2 H2 ⟨rfl,hi,ρ2,R2,q2⟩;by_cases hlt:i<xs.length
 ·rw[C7b hlt] at q2;refine .inr ⟨io.go (λY h=>h) R2 hlt,fun σ' H'=>∃ρ',Rel C ρ' σ' P1 H'/\I (xs.drop (i+1)) ρ',fun σ' H' h=>⟨xs.length-(i+1),by omega,rfl,hlt,h⟩,λx H3 y=>?_⟩;refine⟨ρ2,P1,_,_,io.yld (λY h=>h) R2 (P7 hlt) y,qs _ _ _ q2,fun ρ3 σ3 R3 q3=>?_⟩;refine⟨ρ3,P1,⟨I (xs.drop (i+1)),Dd.rt,Dd.nx,I (xs.drop (i+1)),λY=>False⟩,R3,q3,⟨fun ρ4 σ4 H4 R4 q4=>⟨ρ4,R4,q4⟩,λv d ρ4 σ4 H4 R4 q4=>E.rt v d ρ4 σ4 H4 (R4.sub (C13 s1)) q4,fun ρ4 σ4 H4 R4 q4=>E.nx ρ4 σ4 H4 (R4.sub s1) q4,fun ρ4 σ4 H4 R4 q4=>⟨ρ4,R4,q4⟩,λY Y Y Y Y Y Y Y h=>h.elim⟩⟩
 ·have e:i=xs.length:=by omega
  subst e;rw[List.drop_length] at q2;exact .inl ⟨io.stop (λY h=>h) R2,E.nx _ _ _ (R2.sub s1) (qd _ q2)⟩⟩
def A7q (c:DT)(tb:DS)  (D:Z4) (ρ:List Sl):Prop:=∃W:Nat->List Sl->Prop,(∃m,W m ρ)/\∀m ρ,W m ρ->c ρ λb ρ1=>if b=true then Blk tb { nx:=fun ρ'=>∃m',m'<m/\W m' ρ',ct:=fun ρ'=>∃m',m'<m/\W m' ρ',bk:=D.nx,rt:=D.rt } ρ1 else D.nx ρ1
theorem A9j {tb:DS}(hp:PS X st (B39 (cOf C c) (sOf C tb))):PS X st (sOf C (A7q c tb)):=PS.wk hp λD σ H ⟨ρ,P,Dd,R,⟨W,⟨m0,w0⟩,turn⟩,E⟩=>by
 refine⟨λm σ' H'=>∃ρ',Rel C ρ' σ' P H'/\W m ρ',⟨m0,ρ,R,w0⟩,?_⟩;rintro m σ1 H1 ⟨ρ1,R1,w1⟩;refine⟨ρ1,P,_,R1,turn m ρ1 w1,λb ρ2 H2 R2 q2=>?_⟩;cases b with
 | true=>refine G4 ⟨fun σ' H'=>∃ρ',Rel C ρ' σ' P H'/\∃m',m'<m/\W m' ρ',fun σ' H' zz48=>zz48.elim fun ρ' zz49=>zz49.elim λR' zz50=>zz50.elim λm' zz51=>zz51.elim λhm w=>⟨m',hm,ρ',R',w⟩,ρ2,P,⟨fun ρ'=>∃m',m'<m/\W m' ρ',Dd.rt,Dd.nx,fun ρ'=>∃m',m'<m/\W m' ρ',λJ=>False⟩,R2,by simpa [Blk] using q2,⟨fun ρ4 σ4 H4 R4 q4=>⟨ρ4,R4,q4⟩,E.rt,fun ρ4 σ4 H4 R4 q4=>E.nx ρ4 σ4 H4 R4 q4,fun ρ4 σ4 H4 R4 q4=>⟨ρ4,R4,q4⟩,λJ J J J J J J J h=>h.elim⟩⟩
 | false=>exact E4 (E.nx _ _ _ R2 (by simpa using q2))
end
open PySem.Spec PyProof.Rows
def r8:Md->PyData->Sl
 | .sh,d=>.sh d
 | .bo,.list ds=>.bo ds
 | .bo,_=>.no
 | .hd,_=>.hd
 | .b2,d=>match B44 d with
  | some dss=>.b2 dss
  | none=>.no
 | .bd,d=>.bd d
theorem C2d:∀dss:List (List PyData),A3q (lls dss)=some dss
 | []=>rfl
 | ds::dss=>by
  show (A3q (lls dss)).map (ds::·)=some (ds::dss);rw[C2d dss];rfl
theorem D1e (dss:List (List PyData)):r8 .b2 (.list (lls dss))=.b2 dss:=by
 show (match A3q (lls dss) with
  | some dss=>Sl.b2 dss
  | none=>.no)=_
 rw[C2d]
def A3x (n:Nat):List Md->List PyData->List Sl
 | m::ms,d::ds=>r8 m d::A3x (n-1) ms ds
 | _,_=>F2 n .no
def A0m:List Str->List Md->List PyData->List Sl
 | [],_,_=>[]
 | _::N,ms,ds=>(match ms,ds with
  | m::_,d::_=>r8 m d
  | _,_=>.no)::A0m N ms.tail ds.tail
theorem C2e:∀N:List Str,A0m N [] []=F2 N.length .no
 | []=>rfl
 | _::N=>by
  show Sl.no::A0m N [] []=_;rw[C2e N];rfl
theorem C2f:∀{N:List Str}{ms:List Md}{ds:List PyData},ms.length<=N.length->ds.length=ms.length->A0m N ms ds=A3x N.length ms ds
 | N,[],[],_,_=>C2e N
 | _::N,m::ms,d::ds,h1,h2=>by
  show r8 m d::A0m N ms ds=r8 m d::A3x (N.length+1-1) ms ds;rw[C2f (by simpa using h1) (by simpa using h2)];rfl
 | [],_::_,_,h,_=>by simp at h
 | _,[],_::_,_,h=>by simp at h
 | _,_::_,[],_,h=>by simp at h
section
variable {P:Program}{w:World}{K:A8}{mg:Str->Option Value}{base:Heap}
theorem D1f {C:DC}{col:Addr->Nat}{H:Hp}{F:Addr->Prop}{hand:Option (Addr×Addr)}(hC:C.hand=hand)(hH:C.H0=H)(f:∀b,F b->col b=0)(lo:∀b,col b<=1){ms:List Md}{vs:List V}{ds:List PyData}{n:Nat}(ar:d8 F hand H ms vs ds) :
  ∀(i:Nat)(s:Sl),(A3x n ms ds)[i]?=some s->∀j:Nat,SlR C col H j ((vs.map some++F2 (n-vs.length) none)[i]?).join s:=by
 induction ar generalizing n with
 | nil=>
  intro i s e j;have e':(F2 n Sl.no)[i]?=some s:=e;rw[B9j] at e';split at e'
  ·cases e';trivial
  ·cases e'
 | @cons m v d ms vs ds a t ih=>
  intro i s e j;have e':(r8 m d::A3x (n-1) ms ds)[i]?=some s:=e;cases i with
  | zero=>
   cases e';show SlR C col H j (some v) (r8 m d);have mv0:∀b o,F b->H b=some o->Z col b/\H b=some o:=λb o z e=>⟨f b z,e⟩;cases m with
   | sh=>exact⟨v,rfl,ThV.mv mv0 a⟩
   | bo=>obtain⟨ad,us,es,rfl,rfl,nh,e2,t2⟩:=a;exact⟨ad,us,rfl,lo ad,by rw[hC];exact nh,e2,B4.mv mv0 t2⟩
   | hd=>obtain⟨q,hq,rfl⟩:=a;exact⟨q,hC.trans hq,rfl⟩
   | b2=>obtain⟨ad,as,dss,rfl,rfl,nh,e2,t2⟩:=a;rw[D1e];exact⟨ad,as,rfl,⟨lo ad,by rw[hC];exact nh⟩,e2,t2.mv mv0 λb o g e=>⟨⟨lo b,by rw[hC];exact g⟩,e⟩⟩
   | bd=>exact⟨v,rfl,ThV.mv (λb o g e=>⟨⟨(by rw[hH,e];exact λq=>nomatch q),by rw[hC];exact g⟩,by rw[hH];exact e⟩) a⟩
  | succ i=>have:=ih (n:=n-1) i s e' j;rw[K9,T6,A8y,K4,show n-(vs.length+1)=n-1-vs.length by omega];exact this
theorem D1g {F:Addr->Prop}{hand:Option (Addr×Addr)}{H:Hp}{ms:List Md}{vs:List V}{ds:List PyData}{n:Nat}(a:d8 F hand H ms vs ds)(h:ms.length<=n):(A3x n ms ds).length=n:=by
 induction a generalizing n with
 | nil=>show (F2 n Sl.no).length=n;rw[a8]
 | @cons m v d ms vs ds a t ih=>show (r8 m d::A3x (n-1) ms ds).length=n;rw[K4] at h;rw[K4,ih (by omega)];omega
open Classical in
theorem J3 {x qual:Str}{st:Stmt}{f:Addr}{fd:FuncData}{N ps:List Str}{k:Nat}{sp:DSp}{ms:List Md}(F:Fun K x qual st f fd)(S:C3 N ps (B1 st))(hm:ms.length=ps.length)
  (hb:∀(C:DC)(cdv:Value)(A:Around)(outer:List Env)(s:Shared)(H:Hp)(E:XK),P8 k (A.deeper (envOfC qual (B1 st) s.heap.objs.size f cdv))->
   ∃t,PSs (G5 CX0 P w K mg base N qual (B1 st) f cdv A outer s H E).nox (A2l st) (sOf C t)/\∀ds Q,ds.length=ms.length->sp ds Q->t { nx:=λJ=>Q .none,rt:=Q } (A0m N ms ds)) :
  B8 P w K mg base CX0 (k+1) f fd ps (spD ms sp):=by
 refine F.ok S (λJ H Q J h=>?_) (λcdv A outer s H J Q E hr h=>?_)
 ·obtain⟨_,_,_,_,_,_,_,a,_⟩:=h;rw[a.len.1,hm]
 ·obtain⟨G,hand,ds,Qd,h1,h2,h3,a,h4,h5⟩:=h;obtain⟨t,ht,q⟩:=hb ⟨G,hand,H⟩ cdv A outer s H E hr;have hN:ps.length<=N.length:=by have:=congrArg B3s S.pre;rw[Z9] at this;omega
  let col:Addr->Nat:=λb=>if G b then 0 else 1
  have c0:∀b,G b->col b=0:=λb hb=>if_pos hb;have c1:∀b,¬ G b->col b=1:=λb hb=>if_neg hb;have lo:∀b,col b<=1:=λb=>by
   by_cases z:G b
   ·rw[c0 b z];omega
   ·rw[c1 b z];omega
  refine⟨_,ht,A3x N.length ms ds,[],⟨λJ=>Qd .none,Qd,λJ=>False,λJ=>False,λJ=>False⟩,⟨col,λb hb=>c0 b (h1.1 b hb),λb hb=>?_,λq hq=>c1 _ (h2 q hq),λi s e=>D1f (C:=⟨G,hand,H⟩) rfl rfl c0 lo a i s e i,λp hp=>(nomatch hp),Kq.refl,h3,h3,h1,?_⟩,by rw[<-C2f (by omega) a.len.2];exact q ds Qd a.len.2 h4,⟨fun ρ σ H' R h=>?_,λv d ρ σ H' R h=>?_,λJ J J J h=>h.elim,λJ J J J h=>h.elim,λJ J J J J J J J h=>h.elim⟩⟩
  ·by_cases z:G b
   ·exact z
   ·rw[c1 b z] at hb;cases hb
  ·rw[D1g a (by omega)];unfold Lake.start;rw[S8,B6,a8,a.len.1];omega
  ·obtain⟨col',r⟩:=R;exact h5 _ _ _ h .non r.kq r.hq
  ·obtain⟨col',r⟩:=R;exact h5 _ _ _ h (ThV.mv (λb o z e=>⟨r.inF b z,e⟩) (r.pd _ D6)) r.kq r.hq
open Classical in
end
end Tactic
namespace Tactic
open PySem Lake
variable {X:Cx}{C:DC}{e:Expr}{pos:Pos}
section
variable {tg a b:Expr}{t ta tb:DE}{u:DF}
def A1z:List PyData->Option (List Int)
 | []=>some []
 | .int b::r=>(A1z r).map (b::·)
 | _::_=>none
theorem B5e {F:Addr->Prop}{H:Hp}{ds:List PyData}{vs:List V}{bs:List Int}(t:B4 F H vs ds)(h:A1z ds=some bs):vs=bs.map V.int:=by
 induction ds generalizing vs bs with
 | nil=>cases t;cases h;rfl
 | cons d r ih=>
  cases t with
  | cons x y=>
   cases x with
   | int b=>
    have h':(A1z r).map (b::·)=some bs:=h;cases q:A1z r with
    | none=>rw[q] at h';cases h'
    | some cs=>rw[q] at h';cases h';rw[ih y q];rfl
   | _=>cases h
theorem A7r:∀ns:List Int,A1z (ns.map PyData.int)=some ns
 | []=>rfl
 | n::ns=>by
  show (A1z (ns.map PyData.int)).map (n::·)=some (n::ns);rw[A7r ns];rfl
def gIn (neg:Bool)  (a b:PyData) (Q:PyData->Prop):Prop:=match a,b with
 | .int i,.list xs=>bnd (A1z xs) λns=>Q (.bool (if neg then !(ns.contains i) else ns.contains i))
 | _,_=>False
theorem C2g (i:Int):∀ns:List Int,inV (V.int i) (ns.map V.int)=ns.contains i
 | []=>rfl
 | n::ns=>by
  have:=C2g i ns;unfold inV at this ⊢;rw[K9,A4m,this,List.contains_cons];congr 1;show (n == i)=(i == n);exact Bool.beq_comm
theorem C2h:∀ns:List Int,(ns.map V.int).all A2k=true
 | []=>rfl
 | n::ns=>by rw[K9,List.all_cons,C2h ns];rfl
theorem D1h {K:A8}{neg:Bool}:W2 C (rIn K neg) (gIn neg):=by
 intro ρ σ P H v w a b Qd Q R hg k;unfold gIn at hg;split at hg
 ·obtain⟨ns,hn,q⟩:=O3 hg;obtain⟨col,r,t1,t2⟩:=th2 R;cases t1;cases t2 with
  | lst za e t=>have z:=B5e t hn;subst z;refine⟨_,_,rfl,.inl (SqL.of e),rfl,C2h ns,k _ _ _ ⟨col,r.push ?_⟩ q⟩;rw[C2g];exact .bl _
 ·exact hg.elim
def A57 (i:Nat)(tk:DE)  (ρ:List Sl) (Q:PyData->List Sl->Prop):Prop:=bnd (U9 ρ i) λa0=>bnd (T3 a0) λJ=>tk ρ λk ρ2=>match k with
 | .int k=>bnd (U9 ρ2 i) λa=>bnd (T3 a) λxs=>bnd (A1z xs) λns=>(k∈ns/\ns.length<=100000)/\Q (.int (ns.idxOf k:Nat)) ρ2
 | _=>False
set_option tactic.hygienic true in
theorem C2i {i:Nat}{K:A8}(h:PE X e (tBM K "list" (C1n K) (Y9 i) (V8 (eOf C t) T8))):PE X e (eOf C (A57 i t)):=PE.wk h fun σ H Q zz1=>el3 zz1 fun ρ P Qd zz2 ht k=>zz2.elim λcol0 r0=>by
 obtain⟨a0,h0,ht⟩:=O3 ht;obtain⟨xs0,hx0,ht⟩:=O3 ht;have:=A50 hx0;subst this;obtain⟨v,ev,t0⟩:=r0.slot h0;obtain⟨a,vs,rfl,e0,_⟩:=t0.lst;refine⟨_,ev,.inl ⟨rfl,vs,SqL.of e0⟩,ρ,P,_,⟨col0,r0⟩,ht,λw d ρ2 H2 R2 h2=>?_⟩;split at h2
 ·rename_i kk;obtain⟨a1,h1,h2⟩:=O3 h2;obtain⟨xs,hx,h2⟩:=O3 h2;obtain⟨ns,hn,⟨hk,hz⟩,q⟩:=O3 h2;have:=A50 hx;subst this;obtain⟨col,r⟩:=R2;obtain⟨v',ev',t1⟩:=r.slot h1;rw[ev] at ev';cases ev';obtain⟨a',vs',e',e1,t1⟩:=t1.lst;cases e';have z:=B5e t1 hn;subst z;have tw:ThV (Z col) H2 w (.int kk):=r.pd _ D6;cases tw;exact⟨a,ns,kk,rfl,rfl,SqL.of e1,hk,hz,k _ _ _ _ ⟨col,(r.sub λJ h=>C8 _ h).push (.int _)⟩ q⟩
 ·exact h2.elim
def A58 (t:DE)  (ρ:List Sl) (Q:List PyData->List Sl->Prop):Prop:=t ρ λd ρ'=>bnd (T3 d) λxs=>Q xs.reverse ρ'
theorem B4.rev {F:Addr->Prop}{H:Hp}{vs:List V}{ds:List PyData}(t:B4 F H vs ds):B4 F H vs.reverse ds.reverse:=by
 induction vs generalizing ds with
 | nil=>cases t;exact .nil
 | cons v vs ih=>
  cases t with
  | cons x t=>rw[B9p,B9p];exact (ih t).append (.cons x .nil)
theorem D1i {K:A8}(h:PE X e (fun σ H Q=>V8 (eOf C t) T8 σ H λvs H1=>∃a xs,vs=[.ref a]/\SqL K H1 a xs/\∀p,H1 p=none->Q (.ref p) (upd H1 p (.lst xs.reverse)))):PE X e (fOf C (A58 t)):=PE.wk h λJ J J zz3=>el3 zz3 fun ρ P J R ht k=>⟨ρ,P,_,R,ht,λv d ρ' H' zz4 q=>zz4.elim λcol r=>by
 obtain⟨xs,hx,q⟩:=O3 q;have:=A50 hx;subst this;obtain⟨a,vs,rfl,e,t⟩:=Red.lst (.th (r.pd _ D6));exact⟨a,vs,rfl,SqL.of e,λp hp=>k _ _ _ _ _ ⟨col,r.sub λJ h=>C8 _ h,t.rev⟩ hp q⟩⟩
theorem D1j {K:A8}{a:Addr}{vs:List V}{xs:List PyData}{P:List Pe}:A9g C (Itv K a vs.length) xs.reverse (.n a (.lst vs)::.s vs xs::P) where
 go:=λ{i ρ σ P' H} s R hi=>by
  obtain⟨col,r⟩:=R;have h1:=r.pd _ (s _ D6);have h2:B4 (Z col) H vs xs:=r.pd _ (s _ (C8 _ D6));have hl:=h2.len;rw[A6t] at hi;exact⟨vs,vs.reverse[i]'(by rw[A6t];omega),SqL.of h1.2.2,rfl,P7 _⟩
 yld:=λ{i ρ σ P' H H' x d} s R hi y=>by
  obtain⟨e,y⟩:=y;subst e;obtain⟨col,r⟩:=R;have h1:=r.pd _ (s _ D6);have h2:B4 (Z col) H' vs xs:=r.pd _ (s _ (C8 _ D6));have hx:=y vs (SqL.of h1.2.2);obtain⟨d',e1,t⟩:=h2.rev.get hx;rw[hi] at e1;cases e1;exact⟨col,r.push t⟩
 stop:=λ{ρ σ P' H} s R=>by
  obtain⟨col,r⟩:=R;have h2:B4 (Z col) H vs xs:=r.pd _ (s _ (C8 _ D6));have hl:=h2.len;show vs.length<=xs.reverse.length;rw[A6t];omega
def B5f (t:DE)  (ρ:List Sl) (Q:List PyData->List Sl->Prop):Prop:=t ρ λd ρ'=>bnd (T3 d) λxs=>Q xs.reverse ρ'
theorem D1k {K:A8}(h:PI X tg e (C1q K (V8 (eOf C t) T8))):PI X tg e (iOf C (B5f t)):=PI.wk h λJ J J zz5=>el3 zz5 fun ρ P J R ht k=>⟨ρ,P,_,R,ht,λv d ρ' H' zz6 q=>zz6.elim λcol r=>by
 obtain⟨xs,hx,q⟩:=O3 q;have:=A50 hx;subst this;obtain⟨a,vs,rfl,za,e1,t1⟩:=M2 (show ThV (Z col) H' v (.list xs) from r.pd _ D6);refine⟨a,vs,rfl,SqL.of e1,k _ ρ' (.n a (.lst vs)::.s vs xs::P) H' _ ⟨col,?_⟩ (λJ h=>C8 _ (C8 _ h)) D1j q⟩;exact ((r.sub λJ h=>C8 _ h).add (x:=.s vs xs) t1).add (x:=.n a (.lst vs)) ⟨by rw[show col a=0 from za];decide,r.notH (by rw[show col a=0 from za];decide),e1⟩⟩
theorem A2r {n j:Nat}{it:DF}{tt:DT}{te:DE}(hn:n=j+1)(h:PE X e (A7c (iOf C it) n j (λJ=>cOf C tt) (λJ=>eOf C te))):PE X e (fOf C (A1y j it tt te)):=PE.wk h λJ J J h=>B5c hn h
end
theorem A9k {α:Type}{x:α}{xs:List α}:atI (x::xs) 0=some x:=A2j (j:=0) rfl
theorem A7s {α:Type}{x:α}:atI [x] 0=some x:=rfl
theorem A7t {α:Type}{x y:α}:atI [x,y] 0=some x:=rfl
theorem A7u {α:Type}{x y:α}:atI [x,y] 1=some y:=rfl
theorem A7v {α:Type}{x y z:α}:atI [x,y,z] 0=some x:=rfl
theorem A7w {α:Type}{x y z:α}:atI [x,y,z] 1=some y:=rfl
theorem A7x {α:Type}{x y z:α}:atI [x,y,z] 2=some z:=rfl
theorem A7y {a b:Prop}:(if true=true then a else b)=a:=rfl
theorem A7z {a b:Prop}:(if false=true then a else b)=b:=rfl
theorem A70 {a b:Bool}:(if true=true then a else b)=a:=rfl
theorem A71 {a b:Bool}:(if false=true then a else b)=b:=rfl
theorem A72 {a b:Int}:(if true=true then a else b)=a:=rfl
theorem A73 {a b:Int}:(if false=true then a else b)=b:=rfl
theorem A74 {α:Type}{a:α}{Q:α->Prop}:bnd (some a) Q=Q a:=rfl
theorem A2s {α:Type}{te:DE}{ρ:List Sl}{Q:List PyData->Prop}{g f:α->PyData}:∀{xs:List α}{acc:List PyData},(∀x∈xs,∀Q':PyData->List Sl->Prop,Q' (f x) (ρ++[.sh (g x)])->te (ρ++[.sh (g x)]) Q')->Q (acc++xs.map f)->A3s B5b te ρ Q (xs.map g) acc
 | [],acc,_,q=>by
  have q':Q (acc++[]):=q;rw[X5] at q';exact q'
 | x::r,acc,h,q=>by
  refine⟨rfl,?_⟩;rw[if_pos rfl];refine h x D6 _ ⟨rfl,A2s (λy hy=>h y (C8 _ hy)) ?_⟩;rw[m5];exact q
theorem B1y {α:Type}{tt:DT}{te:DE}{ρ:List Sl}{Q:List PyData->Prop}{g f:α->PyData}{p:α->Bool}:∀{xs:List α}{acc:List PyData},(∀x∈xs,∀Q':Bool->List Sl->Prop,Q' (p x) (ρ++[.sh (g x)])->tt (ρ++[.sh (g x)]) Q')->(∀x∈xs,p x=true->∀Q':PyData->List Sl->Prop,Q' (f x) (ρ++[.sh (g x)])->te (ρ++[.sh (g x)]) Q')->
  Q (acc++(xs.filter p).map f)->A3s tt te ρ Q (xs.map g) acc
 | [],acc,_,_,q=>by
  have q':Q (acc++[]):=q;rw[X5] at q';exact q'
 | x::r,acc,h1,h2,q=>by
  refine h1 x D6 _ ⟨rfl,?_⟩;cases e:p x with
  | true=>rw[if_pos rfl];refine h2 x D6 e _ ⟨rfl,B1y (λy hy=>h1 y (C8 _ hy)) (λy hy=>h2 y (C8 _ hy)) ?_⟩;rw[B9r e] at q;rw[m5];exact q
  | false=>rw[if_neg P4];refine B1y (λy hy=>h1 y (C8 _ hy)) (λy hy=>h2 y (C8 _ hy)) ?_;rw[B9s (by rw[e];exact P4)] at q;exact q
theorem B5g {xs:List PyData}{k:Nat}:p8 xs none (some ((k:Nat):Int))=xs.take k:=by
 unfold p8;rw[HT.sIx_none,HT.sIx_nat,B3w,Nat.sub_zero];by_cases h:k<=xs.length
 ·rw[B3x h]
 ·rw[Nat.min_eq_right (by omega),A8x (E8 _),A8x (by omega)]
theorem D1l {xs:List PyData}{i j:Nat}(h1:i<=xs.length)(h2:j<=xs.length):p8 xs (some ((i:Nat):Int)) (some ((j:Nat):Int))=(xs.drop i).take (j-i):=by
 unfold p8;rw[HT.sIx_nat,HT.sIx_nat,B3x h1,B3x h2]
theorem C2j {te:DE}{ρ:List Sl}{Q:List PyData->Prop}{R:PyData->Prop}:∀{xs acc:List PyData},(∀x∈xs,∀Q':PyData->List Sl->Prop,(∀d,R d->Q' d (ρ++[.sh x]))->te (ρ++[.sh x]) Q')->(∀ds:List PyData,ds.length=xs.length->(∀d∈ds,R d)->Q (acc++ds))->A3s B5b te ρ Q xs acc
 | [],acc,_,q=>by
  have q':=q [] rfl (λd hd=>nomatch hd);rw[X5] at q';exact q'
 | x::r,acc,h,q=>by
  refine⟨rfl,?_⟩;rw[if_pos rfl];refine h x D6 _ λd hd=>⟨rfl,C2j (λy hy=>h y (C8 _ hy)) λds hl hR=>?_⟩;rw[m5];refine q ([d]++ds) (by simp [hl]) λe he=>?_;rcases A1j.mp he with z | z
  ·have:e=d:=by simpa using z
   subst this;exact hd
  ·exact hR e z
open Classical in
theorem D1m {xs:List PyData}{x:PyData}:p8 (xs++[x]) none (some (-1))=xs:=by
 have e1:HT.sIx (xs++[x]).length 0 none=0:=rfl;have e2:HT.sIx (xs++[x]).length (xs++[x]).length (some (-1))=xs.length:=by
  show (if (-1:Int)<0 then ((-1:Int)+(((xs++[x]).length:Nat):Int)).toNat else min (-1:Int).toNat (xs++[x]).length)=xs.length;rw[if_pos DD,S8,C66];omega
 unfold p8;rw[e1,e2,B3w,Nat.sub_zero,List.take_left]
def O9 (b:Nat×Int):PyData:=.tuple [.int (b.1:Nat),.int b.2]
section
variable {u:DF}
end
section
variable {tg:Expr}{t u:DE}
end
variable {st:Stmt}
section
variable {te:DE}
end
theorem Rws.mvm {G F G' F':Addr->Prop}{H H':Hp}{as:List Addr}{dss:List (List PyData)}(t:Rws G F H as dss)(f:∀b o,F b->H b=some o->F' b/\H' b=some o)(g:∀b o,b∈as->G b->H b=some o->G' b/\H' b=some o):Rws G' F' H' as dss:=by
 induction t with
 | nil=>exact .nil
 | cons x e y _ ih=>have:=g _ _ D6 x e;exact .cons this.1 this.2 (y.mv f) (ih λb o hb=>g b o (C8 _ hb))
section
variable {col col':Addr->Nat}{ρ:List Sl}{σ σ':St}{P:List Pe}{H H':Hp}{p:Addr}
end
section
variable {a b:Expr}
end
section
variable {te:DE}{u:DA}
end
section
variable {ta:DE}
end
end Tactic
namespace Tactic
abbrev Tb:=List (Option Int)
abbrev Rn:=List (Option Nat)
abbrev Wy:=Nat×Nat×Int
def J8 (st lv c:Int):Option Int:=if lv+c<0 then none else some (if st<lv+c then st else lv+c)
def gt {α:Type}(t:List (Option α))(p:Nat):Option α:=(t[p]?).join
def O6 (st:Int)(t:Tb)(w:Wy):Option Int:=match gt t w.1 with
 | none=>none
 | some l=>J8 st l w.2.2
def Z5:Option Int->Option Int->Bool
 | none,_=>false
 | some _,none=>true
 | some a,some b=>decide (b<a)
def leO (a b:Option Int):Prop:=Z5 a b=false
theorem T9 {a b:Int}:leO (some a) (some b)↔a<=b:=by unfold leO Z5;simp
theorem B1z {b:Option Int}:leO none b:=rfl
theorem A0n {a:Int}:¬ leO (some a) none:=by unfold leO Z5;simp
theorem A59 (a:Option Int):leO a a:=by
 cases a with
 | none=>rfl
 | some x=>exact T9.mpr (A1n x)
theorem A10 {a b c:Option Int}(h1:leO a b)(h2:leO b c):leO a c:=by
 cases a with
 | none=>rfl
 | some x=>
  cases b with
  | none=>exact absurd h1 A0n
  | some y=>
   cases c with
   | none=>exact absurd h2 A0n
   | some z=>exact T9.mpr (A01 (T9.mp h1) (T9.mp h2))
theorem D1n {a b:Option Int}(h1:leO a b)(h2:leO b a):a=b:=by
 cases a with
 | none=>cases b with
  | none=>rfl
  | some y=>exact absurd h2 A0n
 | some x=>cases b with
  | none=>exact absurd h1 A0n
  | some y=>rw[Int.le_antisymm (T9.mp h1) (T9.mp h2)]
theorem D1o {a b:Option Int}(h:Z5 a b=true):leO b a:=by
 cases a with
 | none=>cases h
 | some x=>cases b with
  | none=>rfl
  | some y=>unfold Z5 at h;exact T9.mpr (by have:=of_decide_eq_true h;omega)
theorem B5h {a b:Option Int}(h:Z5 a b=true):¬ leO a b:=λz=>by unfold leO at z;rw[z] at h;cases h
theorem B5i {a b:Option Int}:Z5 a b=true\/leO a b:=by
 cases e:Z5 a b with
 | true=>exact .inl rfl
 | false=>exact .inr e
theorem C2k {st a b c:Int}(h:a<=b):leO (J8 st a c) (J8 st b c):=by
 unfold J8;by_cases h1:a+c<0
 ·rw[if_pos h1];rfl
 ·have h2:¬ b+c<0:=by omega
  rw[if_neg h1,if_neg h2];apply T9.mpr;split <;> split <;> omega
theorem B5j {st l c x:Int}(h0:0<=st)(h:J8 st l c=some x):0<=x/\x<=st:=by
 unfold J8 at h;split at h
 ·cases h
 ·have:=Option.some.inj h;subst this;split <;> omega
def leT (t u:Tb):Prop:=∀p,leO (gt t p) (gt u p)
theorem B5k (t:Tb):leT t t:=λJ=>A59 _
theorem C2l {t u v:Tb}(a:leT t u)(b:leT u v):leT t v:=λp=>A10 (a p) (b p)
theorem D1p {st:Int}{t u:Tb}{w:Wy}(h:leT t u):leO (O6 st t w) (O6 st u w):=by
 have:=h w.1;unfold O6;cases e:gt t w.1 with
 | none=>rfl
 | some a=>
  rw[e] at this;cases e2:gt u w.1 with
  | none=>rw[e2] at this;exact absurd this A0n
  | some b=>rw[e2] at this;exact C2k (T9.mp this)
theorem D1q {st:Int}{t:Tb}{w:Wy}{x:Int}(h0:0<=st)(h:O6 st t w=some x):0<=x/\x<=st:=by
 unfold O6 at h;split at h
 ·cases h
 ·exact B5j h0 h
structure F9 (m:Nat)(st:Int)(t:Tb):Prop where
 len:t.length=m
 bd:∀p x,gt t p=some x->0<=x/\x<=st
structure K0 (m:Nat)(ws:List Wy):Prop where
 m1:1<=m
 m2:m<=12
 few:ws.length<=40
 st:∀w∈ws,w.1<m
 en:∀w∈ws,w.2.1<m
 lo:∀w∈ws,-∅<=w.2.2
 hi:∀w∈ws,w.2.2<=∅
theorem B10 {α:Type}{t:List (Option α)}{p:Nat}(h:t.length<=p):gt t p=none:=by unfold gt;rw[A4p h];rfl
theorem A9l {α:Type}{t:List (Option α)}{p:Nat}(h:p<t.length):t[p]?=some (gt t p):=by unfold gt;rw[P7 h];rfl
theorem A3y {α:Type}{t:List (Option α)}{i j:Nat}{x:Option α}(h:i<t.length):gt (t.set i x) j=if i=j then x else gt t j:=by
 unfold gt;rw[A4o];by_cases e:i=j
 ·rw[if_pos e,if_pos h,if_pos e];rfl
 ·rw[if_neg e,if_neg e]
theorem A11 {α:Type}{m p:Nat}:gt (F2 m (none:Option α)) p=none:=by
 unfold gt;rw[B9j];split <;> rfl
theorem C2m {t u:Tb}(hl:t.length=u.length)(h:∀p,gt t p=gt u p):t=u:=by
 apply List.ext_getElem?;intro i;by_cases hi:i<t.length
 ·rw[A9l hi,A9l (by omega),h i]
 ·rw[A4p (by omega),A4p (by omega)]
theorem D1r {t u:Tb}(hl:t.length=u.length)(h1:leT t u)(h2:leT u t):t=u:=C2m hl λp=>D1n (h1 p) (h2 p)
def A3z (st:Int)(t:Tb)(acc:Tb×Rn)(p:Wy×Nat):Tb×Rn:=
 if Z5 (O6 st t p.1) (gt acc.1 p.1.2.1)=true then (acc.1.set p.1.2.1 (O6 st t p.1),acc.2.set p.1.2.1 (some p.2)) else acc
def N4 (m:Nat)(ws:List Wy)(st:Int)(t s:Tb):Tb×Rn:=ws.zipIdx.foldl (A3z st t) (s,F2 m none)
structure A75 (m:Nat)(ws:List Wy)(st:Int)(t s:Tb)(L:List (Wy×Nat))(acc:Tb×Rn):Prop where
 l1:acc.1.length=m
 l2:acc.2.length=m
 up:leT s acc.1
 no:∀p,gt acc.2 p=none->gt acc.1 p=gt s p
 yes:∀p n,gt acc.2 p=some n->∃w,ws[n]?=some w/\w.2.1=p/\gt acc.1 p=O6 st t w/\Z5 (O6 st t w) (gt s p)=true
 top:∀q∈L,leO (O6 st t q.1) (gt acc.1 q.1.2.1)
theorem D1s {m:Nat}{ws:List Wy}{st:Int}{t s:Tb}{L:List (Wy×Nat)}{acc:Tb×Rn}(ok:K0 m ws)(I:A75 m ws st t s L acc){q:Wy×Nat}(hq:ws[q.2]?=some q.1):A75 m ws st t s (L++[q]) (A3z st t acc q):=by
 have hw:q.1∈ws:=R6 hq;have he:q.1.2.1<m:=ok.en _ hw;unfold A3z;by_cases c:Z5 (O6 st t q.1) (gt acc.1 q.1.2.1)=true
 ·rw[if_pos c];have g1:∀j,gt (acc.1.set q.1.2.1 (O6 st t q.1)) j=if q.1.2.1=j then O6 st t q.1 else gt acc.1 j:=λj=>A3y (by rw[I.l1];exact he)
  have g2:∀j,gt (acc.2.set q.1.2.1 (some q.2)) j=if q.1.2.1=j then some q.2 else gt acc.2 j:=λj=>A3y (by rw[I.l2];exact he)
  have hup:∀j,leO (gt acc.1 j) (gt (acc.1.set q.1.2.1 (O6 st t q.1)) j):=λj=>by
   rw[g1];by_cases e:q.1.2.1=j
   ·rw[if_pos e,<-e];exact D1o c
   ·rw[if_neg e];exact A59 _
  refine⟨by rw[S3];exact I.l1,by rw[S3];exact I.l2,λp=>A10 (I.up p) (hup p),λp hp=>?_,λp n hp=>?_,λr hr=>?_⟩
  ·rw[g2] at hp;by_cases e:q.1.2.1=p
   ·rw[if_pos e] at hp;cases hp
   ·rw[if_neg e] at hp;rw[g1,if_neg e];exact I.no p hp
  ·rw[g2] at hp;by_cases e:q.1.2.1=p
   ·rw[if_pos e] at hp;cases hp;refine⟨q.1,hq,e,by rw[g1,if_pos e],?_⟩;rcases B5i (a:=O6 st t q.1) (b:=gt s p) with z | z
    ·exact z
    ·exact absurd (A10 z (I.up p)) (B5h (e▸c))
   ·rw[if_neg e] at hp;rw[g1,if_neg e];exact I.yes p n hp
  ·rcases A1j.mp hr with hr | hr
   ·exact A10 (I.top r hr) (hup _)
   ·have:r=q:=by simpa using hr
    subst this;rw[g1,if_pos rfl];exact A59 _
 ·rw[if_neg c];refine⟨I.l1,I.l2,I.up,I.no,I.yes,λr hr=>?_⟩;rcases A1j.mp hr with hr | hr
  ·exact I.top r hr
  ·have:r=q:=by simpa using hr
   subst this;rcases B5i (a:=O6 st t r.1) (b:=gt acc.1 r.1.2.1) with z | z
   ·exact absurd z c
   ·exact z
theorem C2n {m:Nat}{ws:List Wy}{st:Int}{t s:Tb}(ok:K0 m ws):∀(R L:List (Wy×Nat))(acc:Tb×Rn),A75 m ws st t s L acc->(∀q∈R,ws[q.2]?=some q.1)->A75 m ws st t s (L++R) (R.foldl (A3z st t) acc)
 | [],L,acc,I,_=>by rw[X5];exact I
 | q::R,L,acc,I,h=>by
  have:=C2n ok R (L++[q]) _ (D1s ok I (h q D6)) λr hr=>h r (C8 _ hr);rw[m5] at this;exact this
theorem f9 {m:Nat}{ws:List Wy}{st:Int}{t s:Tb}(ok:K0 m ws)(hs:s.length=m):A75 m ws st t s ws.zipIdx (N4 m ws st t s):=by
 have h0:A75 m ws st t s [] (s,F2 m none):=⟨hs,by rw[a8],B5k s,λJ J=>rfl,λp n h=>(by rw[A11] at h;cases h),λq hq=>(nomatch hq)⟩;have:=C2n ok ws.zipIdx [] _ h0 λq hq=>by
  obtain⟨w,n⟩:=q;rw[C7c] at hq;exact hq
 rw[O1] at this;exact this
theorem C2o {m:Nat}{ws:List Wy}{st:Int}{t s:Tb}(ok:K0 m ws)(hs:s.length=m){w:Wy}(hw:w∈ws):leO (O6 st t w) (gt (N4 m ws st t s).1 w.2.1):=by
 obtain⟨n,hn,e⟩:=A8w.mp hw;exact (f9 ok hs).top (w,n) (by rw[C7c];show ws[n]?=some w;rw[P7 hn,e])
theorem D1t {m:Nat}{ws:List Wy}{st:Int}{t s:Tb}(ok:K0 m ws)(h0:0<=st)(hs:F9 m st s):F9 m st (N4 m ws st t s).1:=by
 have I:=f9 (st:=st) (t:=t) ok hs.len;refine⟨I.l1,λp x h=>?_⟩;cases e:gt (N4 m ws st t s).2 p with
 | none=>rw[I.no p e] at h;exact hs.bd p x h
 | some n=>obtain⟨w,_,_,e2,_⟩:=I.yes p n e;rw[e2] at h;exact D1q h0 h
def A6a (ws:List Wy)(st:Int)(t:Tb):Prop:=∀w∈ws,leO (O6 st t w) (gt t w.2.1)
theorem D1u {m:Nat}{ws:List Wy}{st:Int}{t s L:Tb}(ok:K0 m ws)(hs:s.length=m)(h1:leT t L)(h2:leT s L)(c:A6a ws st L):leT (N4 m ws st t s).1 L:=λp=>by
 have I:=f9 (st:=st) (t:=t) ok hs;cases e:gt (N4 m ws st t s).2 p with
 | none=>rw[I.no p e];exact h2 p
 | some n=>obtain⟨w,hw,e1,e2,_⟩:=I.yes p n e;rw[e2,<-e1];exact A10 (D1p h1) (c w (R6 hw))
structure Q8 (m:Nat)(ws:List Wy)(st:Int)(b t:Tb):Prop where
 tab:F9 m st t
 up:leT b t
 cl:A6a ws st t
 le:∀L,F9 m st L->leT b L->A6a ws st L->leT t L
theorem Q8.uniq {m:Nat}{ws:List Wy}{st:Int}{b t u:Tb}(h:Q8 m ws st b t)(h':Q8 m ws st b u):t=u:=D1r (h.tab.len.trans h'.tab.len.symm) (h.le u h'.tab h'.up h'.cl) (h'.le t h.tab h.up h.cl)
abbrev Rw:=Tb×Rn
def U0 (m:Nat)(ws:List Wy)(st:Int):Nat->Rw->List Rw
 | 0,r=>[r]
 | k+1,r=>if (N4 m ws st r.1 r.1).1=r.1 then [r] else r::U0 m ws st k (N4 m ws st r.1 r.1)
inductive Rows (m:Nat)(ws:List Wy)(st:Int)(b:Tb):List Rw->Prop
 | one:Rows m ws st b [(b,F2 m none)]
 | more {r rs}:Rows m ws st b (r::rs)->(N4 m ws st r.1 r.1).1≠r.1->Rows m ws st b (N4 m ws st r.1 r.1::r::rs)
theorem C2p {m:Nat}{ws:List Wy}{st:Int}{b:Tb}:∀(k:Nat)(r:Rw)(rs:List Rw),Rows m ws st b (r::rs)->∃r' rs',(rs.reverse++U0 m ws st k r).reverse=r'::rs'/\Rows m ws st b (r'::rs')/\((N4 m ws st r'.1 r'.1).1=r'.1\/(r'::rs').length=rs.length+k+1)
 | 0,r,rs,h=>⟨r,rs,by simp [U0],h,.inr (by simp)⟩
 | k+1,r,rs,h=>by
  unfold U0;by_cases c:(N4 m ws st r.1 r.1).1=r.1
  ·rw[if_pos c];exact⟨r,rs,by simp,h,.inl c⟩
  ·rw[if_neg c];obtain⟨r',rs',e,h',z⟩:=C2p k _ (r::rs) (.more h c);refine⟨r',rs',?_,h',?_⟩
   ·rw[<-e];simp
   ·rcases z with z | z
    ·exact .inl z
    ·refine .inr ?_;rw[z,K4];omega
variable {m:Nat}{ws:List Wy}{st:Int}
section
variable {b:Tb}
theorem Rows.ok (ok:K0 m ws)(h0:0<=st)(hb:F9 m st b):∀{r:Rw}{rs:List Rw},Rows m ws st b (r::rs)->F9 m st r.1/\r.2.length=m/\leT b r.1
 | _,_,.one=>⟨hb,by simp,B5k b⟩
 | _,_,.more (r:=r) h c=>by
  obtain⟨a1,_,a3⟩:=Rows.ok ok h0 hb h;have I:=f9 (st:=st) (t:=r.1) ok a1.len;exact⟨D1t ok h0 a1,I.l2,C2l a3 I.up⟩
theorem Rows.under (ok:K0 m ws)(hb:b.length=m){L:Tb}(h1:leT b L)(c:A6a ws st L):∀{r:Rw}{rs:List Rw},Rows m ws st b (r::rs)->r.1.length=m/\leT r.1 L
 | _,_,.one=>⟨hb,h1⟩
 | _,_,.more (r:=r) h _=>by
  obtain⟨a1,a2⟩:=Rows.under ok hb h1 c h;exact⟨(f9 (st:=st) (t:=r.1) ok a1).l1,D1u ok a1 a2 a2 c⟩
theorem Rows.least (ok:K0 m ws)(h0:0<=st)(hb:F9 m st b){r:Rw}{rs:List Rw}(h:Rows m ws st b (r::rs))(c:(N4 m ws st r.1 r.1).1=r.1):Q8 m ws st b r.1:=by
 obtain⟨a1,_,a3⟩:=h.ok ok h0 hb;refine⟨a1,a3,λw hw=>?_,λL J h1 cl=>(h.under ok hb.len h1 cl).2⟩;have:=C2o (st:=st) (t:=r.1) (s:=r.1) ok a1.len hw;rw[c] at this;exact this
end
abbrev Ef:=Option (Int×Int×Int)
def EOk (st:Int)(e:Int×Int×Int):Prop:=0<=e.1/\e.1<=st/\0<=e.2.2/\e.2.2<=st/\0<=e.1+e.2.1/\e.2.2<=st+e.2.1
def N2 (e:Ef)(x:Int):Option Int:=match e with
 | none=>none
 | some (l,g,t)=>if x<l then none else some (if t<x+g then t else x+g)
def g4 (a b:Ef):Ef:=match a,b with
 | some (l1,g1,t1),some (l2,g2,t2)=>if t1<l2 then none else some (if l2-g1>l1 then l2-g1 else l1,g1+g2,if t2<t1+g2 then t2 else t1+g2)
 | _,_=>none
theorem A76 {a b:Int×Int×Int}(h:¬ a.2.2<b.1):g4 (some a) (some b)=some (if b.1-a.2.1>a.1 then b.1-a.2.1 else a.1,a.2.1+b.2.1,if b.2.2<a.2.2+b.2.1 then b.2.2 else a.2.2+b.2.1):=by
 obtain⟨l1,g1,t1⟩:=a;obtain⟨l2,g2,t2⟩:=b;unfold g4;simp only at h;simp only[if_neg h]
theorem A9m {a b:Int×Int×Int}(h:a.2.2<b.1):g4 (some a) (some b)=none:=by
 obtain⟨l1,g1,t1⟩:=a;obtain⟨l2,g2,t2⟩:=b;unfold g4;simp only at h;simp only[if_pos h]
theorem D1v {st:Int}{a b r:Int×Int×Int}(ha:EOk st a)(hb:EOk st b)(h:g4 (some a) (some b)=some r):EOk st r:=by
 by_cases c:a.2.2<b.1
 ·rw[A9m c] at h;cases h
 ·rw[A76 c] at h;cases h;obtain⟨l1,g1,t1⟩:=a;obtain⟨l2,g2,t2⟩:=b;obtain⟨h1,h2,h3,h4,h5,h6⟩:=ha;obtain⟨i1,i2,i3,i4,i5,i6⟩:=hb;simp only at h1 h2 h3 h4 h5 h6 i1 i2 i3 i4 i5 i6 c;refine⟨?_,?_,?_,?_,?_,?_⟩ <;> dsimp only <;> (repeat' split) <;> omega
theorem D1w {a b r:Int×Int×Int}(h:g4 (some a) (some b)=some r)(x:Int):N2 (some r) x=(N2 (some a) x).bind (N2 (some b)):=by
 by_cases c:a.2.2<b.1
 ·rw[A9m c] at h;cases h
 ·rw[A76 c] at h;cases h;obtain⟨l1,g1,t1⟩:=a;obtain⟨l2,g2,t2⟩:=b;simp only at c;unfold N2;dsimp only;by_cases c1:x<l1
  ·rw[if_pos c1,if_pos (by split <;> omega)];rfl
  ·rw[if_neg c1];show _=(if (if t1<x+g1 then t1 else x+g1)<l2 then none else some (if t2<(if t1<x+g1 then t1 else x+g1)+g2 then t2 else (if t1<x+g1 then t1 else x+g1)+g2));obtain⟨y,ey,y1,y2,y3⟩:∃y,(if t1<x+g1 then t1 else x+g1)=y/\y<=t1/\y<=x+g1/\(y=t1\/y=x+g1):=⟨_,rfl,by split <;> omega,by split <;> omega,by split <;> omega⟩;obtain⟨m,em,m1,m2,m3⟩:∃m,(if l2-g1>l1 then l2-g1 else l1)=m/\l1<=m/\l2-g1<=m/\(m=l1\/m=l2-g1):=⟨_,rfl,by split <;> omega,by split <;> omega,by split <;> omega⟩;obtain⟨n,en,n1,n2,n3⟩:∃n,(if t2<t1+g2 then t2 else t1+g2)=n/\n<=t2/\n<=t1+g2/\(n=t2\/n=t1+g2):=⟨_,rfl,by split <;> omega,by split <;> omega,by split <;> omega⟩;rw[ey,em,en];by_cases c2:x<m
   ·rw[if_pos c2,if_pos (show y<l2 by omega)]
   ·rw[if_neg c2,if_neg (show ¬ y<l2 by omega)];congr 1;split <;> split <;> omega
def OkE (st:Int):Ef->Prop
 | none=>True
 | some e=>EOk st e
theorem OkE.join {st:Int}{a b:Ef}(ha:OkE st a)(hb:OkE st b):OkE st (g4 a b):=by
 rcases a with _ | a
 ·exact trivial
 ·rcases b with _ | b
  ·exact trivial
  ·cases q:g4 (some a) (some b) with
   | none=>exact trivial
   | some r=>exact D1v ha hb q
theorem D1x {st:Int}(h:0<=st):EOk st (0,0,st):=⟨A1n _,h,h,A1n _,by simp,by simp⟩
def A0o (st c:Int):Ef:=if st+c<0 then none else some (if -c>0 then -c else 0,c,if st+c<st then st+c else st)
def foF (st:Int)(w:Ef)(cs:List Int):Ef:=cs.foldl (λw c=>g4 w (A0o st c)) w
def fxF (st:Int)(cs:List Int):Ef:=foF st (some (0,0,st)) cs
theorem D1y {st:Int}(h:0<=st)(c:Int):OkE st (A0o st c):=by
 unfold A0o;split
 ·exact trivial
 ·refine⟨?_,?_,?_,?_,?_,?_⟩ <;> dsimp only <;> (repeat' split) <;> omega
theorem C2q {st:Int}(h:0<=st):∀(cs:List Int){w:Ef},OkE st w->OkE st (foF st w cs)
 | [],_,hw=>hw
 | c::cs,w,hw=>C2q h cs (hw.join (D1y h c))
theorem D1z {st:Int}(h:0<=st)(cs:List Int):OkE st (fxF st cs):=C2q h cs (D1x h)
theorem D10 (a b:Ef)(x:Int):N2 (g4 a b) x=(N2 a x).bind (N2 b):=by
 rcases a with _ | a
 ·rfl
 ·rcases b with _ | b
  ·show none=(N2 (some a) x).bind (N2 none);cases N2 (some a) x <;> rfl
  ·by_cases c:a.2.2<b.1
   ·rw[A9m c];obtain⟨l1,g1,t1⟩:=a;obtain⟨l2,g2,t2⟩:=b;simp only at c;show none=_;unfold N2;dsimp only;by_cases c1:x<l1
    ·rw[if_pos c1];rfl
    ·rw[if_neg c1];show none=if (if t1<x+g1 then t1 else x+g1)<l2 then none else _
     rw[if_pos (by split <;> omega)]
   ·exact D1w (A76 c) x |>.symm▸(by rw[A76 c])
def wkF (st:Int)(o:Option Int)(cs:List Int):Option Int:=cs.foldl (λo c=>o.bind (λx=>J8 st x c)) o
theorem B11 (st:Int):∀cs:List Int,wkF st none cs=none
 | []=>rfl
 | _::cs=>B11 st cs
theorem D11 {st x c:Int}(h0:0<=x)(h1:x<=st):N2 (A0o st c) x=J8 st x c:=by
 unfold A0o J8;by_cases d:st+c<0
 ·rw[if_pos d,if_pos (by omega)];rfl
 ·rw[if_neg d];unfold N2;dsimp only;by_cases e:x+c<0
  ·rw[if_pos e,if_pos (by split <;> omega)]
  ·rw[if_neg e,if_neg (by split <;> omega)];congr 1;split <;> split <;> (try split) <;> omega
theorem C2r {st:Int}(h:0<=st)(x:Int):∀(cs:List Int)(w:Ef),(∀y,N2 w x=some y->0<=y/\y<=st)->N2 (foF st w cs) x=wkF st (N2 w x) cs
 | [],_,_=>rfl
 | c::cs,w,hw=>by
  have e:N2 (g4 w (A0o st c)) x=(N2 w x).bind (λy=>J8 st y c):=by
   rw[D10];cases q:N2 w x with
   | none=>rfl
   | some y=>exact D11 (hw y q).1 (hw y q).2
  show N2 (foF st (g4 w (A0o st c)) cs) x=wkF st ((N2 w x).bind (λy=>J8 st y c)) cs;rw[C2r h x cs _ ?_,e];intro y q;rw[e] at q;cases q2:N2 w x with
  | none=>rw[q2] at q;cases q
  | some z=>rw[q2] at q;exact B5j h q
theorem C2s {st x:Int}(h0:0<=x)(h1:x<=st):N2 (some (0,0,st)) x=some x:=by
 unfold N2;dsimp only;rw[if_neg (by omega)];congr 1;split <;> omega
theorem B12 {st x:Int}(h0:0<=x)(h1:x<=st)(cs:List Int):N2 (fxF st cs) x=wkF st (some x) cs:=by
 unfold fxF;rw[C2r (by omega) x cs _ ?_,C2s h0 h1];intro y q;rw[C2s h0 h1] at q;cases q;exact⟨h0,h1⟩
theorem C2t {st:Int}:∀(cs:List Int){w:Int×Int×Int}{r:Int×Int×Int},foF st (some w) cs=some r->r.2.1=w.2.1+cs.sum
 | [],w,r,q=>by
  have q':some w=some r:=q;cases q';simp
 | c::cs,w,r,q=>by
  have q':foF st (g4 (some w) (A0o st c)) cs=some r:=q;cases q2:g4 (some w) (A0o st c) with
  | none=>
   rw[q2] at q';have:∀cs:List Int,foF st none cs=none:=by
    intro cs
    induction cs with
    | nil=>rfl
    | cons c cs ih=>exact ih
   rw[this] at q';cases q'
  | some a=>
   rw[q2] at q';rw[C2t cs q'];have ga:a.2.1=w.2.1+c:=by
    unfold A0o at q2;split at q2
    ·cases q2
    ·by_cases d:w.2.2<(if -c>0 then -c else 0)
     ·rw[A9m (by exact d)] at q2;cases q2
     ·rw[A76 (by exact d)] at q2;cases q2;rfl
   rw[ga,B9t];omega
theorem D12 {st:Int}{cs:List Int}{r:Int×Int×Int}(q:fxF st cs=some r):r.2.1=cs.sum:=by
 rw[C2t cs q];show 0+cs.sum=cs.sum;omega
def N5 (ws:List Wy)(n:Nat):Nat:=match ws[n]? with
 | some w=>w.1
 | none=>0
def A2t (ws:List Wy)(n:Nat):Nat:=match ws[n]? with
 | some w=>w.2.1
 | none=>0
def g6 (ws:List Wy)(n:Nat):Int:=match ws[n]? with
 | some w=>w.2.2
 | none=>0
def wlk (ws:List Wy):List Rw->Nat->Nat×List Nat
 | [],p=>(p,[])
 | r::rs,p=>match gt r.2 p with
  | none=>wlk ws rs p
  | some n=>((wlk ws rs (N5 ws n)).1,(wlk ws rs (N5 ws n)).2++[n])
structure Wk (ws:List Wy)(st:Int)(b:Tb)(N:List Nat)(P:Nat->Nat)(L:Nat->Int):Prop where
 way:∀k n,N[k]?=some n->∃w,ws[n]?=some w/\w.1=P k/\w.2.1=P (k+1)/\J8 st (L k) w.2.2=some (L (k+1))
 beg:gt b (P 0)=some (L 0)
 rise:∀k,1<=k->k<=N.length->Z5 (some (L k)) (gt b (P k))=true
 strict:∀i j,i<j->j<=N.length->P i=P j->L i<L j
theorem D13 {a b c:Option Int}(h:Z5 a c=true)(z:leO b c):Z5 a b=true:=by
 rcases B5i (a:=a) (b:=b) with q | q
 ·exact q
 ·exact absurd (A10 q z) (B5h h)
section
variable {b:Tb}
set_option tactic.hygienic true in
theorem C2u (ok:K0 m ws)(h0:0<=st)(hb:F9 m st b):∀{r:Rw}{rs:List Rw},Rows m ws st b (r::rs)->∀p,((rs=[]/\∃l,gt b p=some l)\/(∃n,gt r.2 p=some n))->
  ∃N P L,wlk ws (r::rs) p=(P 0,N)/\N.length=rs.length/\P N.length=p/\gt r.1 p=some (L N.length)/\Wk ws st b N P L/\∀k,k<=N.length->leO (some (L k)) (gt r.1 (P k))
 | _,_,.one,p,h=>by
  rcases h with ⟨_,l,hl⟩ | ⟨n,hn⟩
  ·refine⟨[],λJ=>p,λJ=>l,?_,rfl,rfl,hl,⟨λk n e=>by simp at e,hl,λk h1 h2=>?_,λi j h1 h2=>?_⟩,λk J=>by show leO (some l) (gt b p);rw[hl];exact A59 _⟩
   ·unfold wlk;rw[A11];rfl
   ·simp at h2;omega
   ·simp at h2;omega
  ·rw[A11] at hn;cases hn
 | _,_,.more (r:=r) (rs:=rs) h c,p,hp=>by
  obtain⟨a1,_,a3⟩:=h.ok ok h0 hb;have I:=f9 (st:=st) (t:=r.1) ok a1.len;have hp':∃n,gt (N4 m ws st r.1 r.1).2 p=some n:=by
   rcases hp with ⟨z,_⟩ | z
   ·cases z
   ·exact z
  obtain⟨n,hn⟩:=hp';obtain⟨w,hw,e1,e2,e3⟩:=I.yes p n hn;obtain⟨l,hl⟩:∃l,O6 st r.1 w=some l:=by
   cases q:O6 st r.1 w with
   | none=>rw[q] at e3;cases e3
   | some l=>exact⟨l,rfl⟩
  obtain⟨l',hl',hs⟩:∃l',gt r.1 w.1=some l'/\J8 st l' w.2.2=some l:=by
   have hl2:=hl;unfold O6 at hl2;split at hl2
   ·cases hl2
   ·rename_i l' e;exact⟨l',e,hl2⟩
  rw[hl] at e2 e3;have hq:(rs=[]/\∃l,gt b w.1=some l)\/(∃n,gt r.2 w.1=some n):=by
   cases h with
   | one=>exact .inl ⟨rfl,l',hl'⟩
   | @more r0 rs0 h' c'=>
    obtain⟨b1,_,_⟩:=h'.ok ok h0 hb;have I0:=f9 (st:=st) (t:=r0.1) ok b1.len;cases e:gt (N4 m ws st r0.1 r0.1).2 w.1 with
    | some n'=>exact .inr ⟨n',rfl⟩
    | none=>
     have e4:=I0.no w.1 e;have e5:O6 st r0.1 w=some l:=by
      unfold O6;rw[<-e4,hl'];exact hs
     have:=C2o (st:=st) (t:=r0.1) (s:=r0.1) ok b1.len (R6 hw);rw[e5,e1] at this;exact absurd this (B5h e3)
  obtain⟨N,P,L,f1,f2,f3,f4,W,f6⟩:=C2u ok h0 hb h w.1 hq;have eL:L N.length=l':=by rw[hl'] at f4;exact (Option.some.inj f4).symm
  let P':Nat->Nat:=λk=>if k<=N.length then P k else p
  let L':Nat->Int:=λk=>if k<=N.length then L k else l
  have p1:∀k,k<=N.length->P' k=P k:=λk hk=>if_pos hk;have p2:∀k,¬ k<=N.length->P' k=p:=λk hk=>if_neg hk;have l1:∀k,k<=N.length->L' k=L k:=λk hk=>if_pos hk;have l2:∀k,¬ k<=N.length->L' k=l:=λk hk=>if_neg hk;have hlen:(N++[n]).length=N.length+1:=by simp
  refine⟨N++[n],P',L',?_,by rw[hlen,f2];rfl,by rw[hlen];exact p2 _ (by omega),by rw[hlen,l2 _ (by omega)];exact e2,⟨λk n' e=>?_,by rw[p1 0 (P5 _),l1 0 (P5 _)];exact W.beg,λk k1 k2=>?_,λi j hij hj hp=>?_⟩,λk hk=>?_⟩
  ·show (match gt (N4 m ws st r.1 r.1).2 p with
    | none=>wlk ws (r::rs) p
    | some n=>((wlk ws (r::rs) (N5 ws n)).1,(wlk ws (r::rs) (N5 ws n)).2++[n]))=_
   rw[hn];have:N5 ws n=w.1:=by unfold N5;rw[hw]
   show ((wlk ws (r::rs) (N5 ws n)).1,(wlk ws (r::rs) (N5 ws n)).2++[n])=_;rw[this,f1,p1 0 (P5 _)]
  ·by_cases hk:k<N.length
   ·rw[A26 hk] at e;rw[p1 k (by omega),p1 (k+1) (by omega),l1 k (by omega),l1 (k+1) (by omega)];exact W.way k n' e
   ·rw[k0 (by omega)] at e;have hk':k=N.length:=by
     match q:k-N.length with
     | 0=>omega
     | z+1=>rw[q] at e;simp at e
    subst hk';rw[Nat.sub_self] at e;cases e;refine⟨w,hw,?_,?_,?_⟩
    ·rw[p1 _ (E8 _),f3]
    ·rw[p2 _ (by omega),e1]
    ·rw[l1 _ (E8 _),l2 _ (by omega),eL];exact hs
  ·by_cases hk:k<=N.length
   ·rw[p1 k hk,l1 k hk];exact W.rise k k1 hk
   ·rw[p2 k hk,l2 k hk];exact D13 e3 (a3 p)
  ·by_cases hk:j<=N.length
   ·rw[l1 i (by omega),l1 j hk];rw[p1 i (by omega),p1 j hk] at hp;exact W.strict i j hij hk hp
   ·rw[hlen] at hj;rw[p1 i (by omega),p2 j hk] at hp;rw[l1 i (by omega),l2 j hk];have z:=f6 i (by omega);rw[hp] at z;cases q:gt r.1 p with
    | none=>rw[q] at z;exact absurd z A0n
    | some y=>rw[q] at z e3;have z1:=T9.mp z;have z2:y<l:=of_decide_eq_true e3;omega
  ·by_cases hk':k<=N.length
   ·rw[p1 k hk',l1 k hk'];exact A10 (f6 k hk') (I.up _)
   ·rw[p2 k hk',l2 k hk',e2];exact A59 _
end
def seg (N:List Nat)(i j:Nat):List Nat:=(N.drop i).take (j-i)
def chs (ws:List Wy)(ns:List Nat):List Int:=ns.map (g6 ws)
theorem A77 (N:List Nat)(i:Nat):seg N i i=[]:=by unfold seg;rw[Nat.sub_self];rfl
theorem B5l {N:List Nat}{i j:Nat}(h:i<=j)(h2:j<N.length):seg N i (j+1)=seg N i j++[N[j]]:=by
 unfold seg;have e:j+1-i=j-i+1:=by omega
 rw[e,A27,List.getElem?_drop,show i+(j-i)=j by omega,P7 h2];rfl
theorem A9n {N:List Nat}{i j:Nat}(h:j<=N.length):(seg N i j).length=j-i:=by
 unfold seg;rw[Z9,List.length_drop];omega
theorem B5m (st:Int)(o:Option Int)(xs ys:List Int):wkF st o (xs++ys)=wkF st (wkF st o xs) ys:=by unfold wkF;rw[List.foldl_append]
section
variable {b:Tb}{N:List Nat}{P:Nat->Nat}{L:Nat->Int}
theorem Wk.ch (W:Wk ws st b N P L){k:Nat}(h:k<N.length):J8 st (L k) (g6 ws N[k])=some (L (k+1)):=by
 obtain⟨w,hw,_,_,e⟩:=W.way k N[k] (P7 h);unfold g6;rw[hw];exact e
theorem Wk.seg (W:Wk ws st b N P L){i:Nat}:∀{j:Nat},i<=j->j<=N.length->wkF st (some (L i)) (chs ws (Tactic.seg N i j))=some (L j)
 | 0,h1,_=>by
  have:i=0:=by omega
  subst this;rw[A77];rfl
 | j+1,h1,h2=>by
  by_cases e:i=j+1
  ·subst e;rw[A77];rfl
  ·rw[B5l (by omega) (by omega)];unfold chs;rw[Q3,B5m];have:=W.seg (i:=i) (j:=j) (by omega) (by omega);unfold chs at this;rw[this];exact W.ch (by omega)
theorem Wk.bd (W:Wk ws st b N P L)(h0:0<=st){m:Nat}(hb:F9 m st b):∀k,k<=N.length->0<=L k/\L k<=st
 | 0,_=>hb.bd _ _ W.beg
 | k+1,h=>B5j h0 (W.ch (k:=k) (by omega))
theorem Wk.pl (W:Wk ws st b N P L){m:Nat}(ok:K0 m ws)(hb:F9 m st b):∀k,k<=N.length->P k<m
 | 0,_=>by
  by_cases h:P 0<m
  ·exact h
  ·have:=W.beg;rw[B10 (by rw[hb.len];omega)] at this;cases this
 | k+1,h=>by
  obtain⟨w,hw,_,e,_⟩:=W.way k N[k] (P7 (by omega));rw[<-e];exact ok.en w (R6 hw)
theorem Wk.lid (W:Wk ws st b N P L){T:Tb}(c:A6a ws st T){i:Nat}{x:Int}(hx:leO (some x) (gt T (P i))):∀{j:Nat}{y:Int},i<=j->j<=N.length->wkF st (some x) (chs ws (Tactic.seg N i j))=some y->leO (some y) (gt T (P j))
 | 0,y,h1,_,e=>by
  have:i=0:=by omega
  subst this;rw[A77] at e;cases e;exact hx
 | j+1,y,h1,h2,e=>by
  by_cases q:i=j+1
  ·subst q;rw[A77] at e;cases e;exact hx
  ·rw[B5l (by omega) (by omega)] at e;unfold chs at e;rw[Q3,B5m] at e;obtain⟨w,hw,e1,e2,_⟩:=W.way j N[j] (P7 (by omega));cases z:wkF st (some x) ((Tactic.seg N i j).map (g6 ws)) with
   | none=>rw[z] at e;cases e
   | some v=>
    rw[z] at e;have e':J8 st v (g6 ws N[j])=some y:=e;have ih:=W.lid c hx (j:=j) (y:=v) (by omega) (by omega) z;have hc:g6 ws N[j]=w.2.2:=by unfold g6;rw[hw]
    cases g:gt T (P j) with
    | none=>rw[g] at ih;exact absurd ih A0n
    | some u=>rw[g] at ih;have s1:=C2k (st:=st) (c:=w.2.2) (T9.mp ih);rw[<-hc,e',hc] at s1;have s2:=c w (R6 hw);unfold O6 at s2;rw[e1,g,e2] at s2;exact A10 s1 s2
end
def P9 (st lv:Int):List Int->List Int
 | []=>[lv]
 | c::cs=>match J8 st lv c with
  | none=>[lv]
  | some x=>lv::P9 st x cs
theorem D14 {st lv c:Int}{cs:List Int}(h:J8 st lv c=none):P9 st lv (c::cs)=[lv]:=by rw[P9,h]
theorem D15 {st lv c x:Int}{cs:List Int}(h:J8 st lv c=some x):P9 st lv (c::cs)=lv::P9 st x cs:=by rw[P9,h]
theorem B5n {st:Int}:∀{cs:List Int}{x y:Int},wkF st (some x) cs=some y->∀k,k<=cs.length->∃z,(P9 st x cs)[k]?=some z/\wkF st (some x) (cs.take k)=some z
 | [],x,y,_,k,hk=>by
  have:k=0:=by simpa using hk
  subst this;exact⟨x,rfl,rfl⟩
 | c::cs,x,y,h,k,hk=>by
  cases e:J8 st x c with
  | none=>have h':wkF st (J8 st x c) cs=some y:=h;rw[e,B11] at h';cases h'
  | some x1=>
   have h':wkF st (J8 st x c) cs=some y:=h;rw[e] at h';unfold P9;rw[e];cases k with
   | zero=>exact⟨x,rfl,rfl⟩
   | succ k=>obtain⟨z,z1,z2⟩:=B5n h' k (by simpa using hk);refine⟨z,z1,?_⟩;show wkF st (J8 st x c) (cs.take k)=some z;rw[e];exact z2
theorem B5o {st:Int}:∀{cs:List Int}{x y:Int},wkF st (some x) cs=some y->(P9 st x cs).length=cs.length+1
 | [],_,_,_=>rfl
 | c::cs,x,y,h=>by
  have h':wkF st (J8 st x c) cs=some y:=h;cases e:J8 st x c with
  | none=>rw[e,B11] at h';cases h'
  | some x1=>rw[e] at h';unfold P9;rw[e,K4,K4,B5o h']
theorem C2v {st:Int}:∀{cs:List Int}{x y:Int},wkF st (some x) cs=some y->y=x+cs.sum\/st∈P9 st x cs
 | [],x,y,h=>by
  cases h;exact .inl (by simp)
 | c::cs,x,y,h=>by
  have h':wkF st (J8 st x c) cs=some y:=h;cases e:J8 st x c with
  | none=>rw[e,B11] at h';cases h'
  | some x1=>
   rw[e] at h';have hd:(P9 st x1 cs).head?=some x1:=by
    cases cs with
    | nil=>rfl
    | cons d ds=>unfold P9;cases J8 st x1 d <;> rfl
   by_cases q:x1=st
   ·refine .inr ?_;unfold P9;rw[e];refine C8 _ ?_;have hm:=List.mem_of_head? hd;have e3:(st∈P9 st x1 cs)=(x1∈P9 st x1 cs):=congrArg (·∈P9 st x1 cs) q.symm;rw[e3];exact hm
   ·have e1:x1=x+c:=by
     unfold J8 at e;split at e
     ·cases e
     ·have e2:=Option.some.inj e;split at e2
      ·exact absurd e2.symm q
      ·exact e2.symm
    rcases C2v h' with z | z
    ·refine .inl ?_;rw[z,e1,B9t];omega
    ·refine .inr ?_;unfold P9;rw[e];exact C8 _ z
structure Rnd (st:Int)(cs:List Int)(x:Int)(le g tp:Int)(k:Nat):Prop where
 fx:fxF st cs=some (le,g,tp)
 g0:0<g
 gs:g=cs.sum
 xt:x<tp
 tst:tp<=st
 kl:k<=cs.length
 ki:(P9 st tp cs).idxOf st=k
 km:st∈P9 st tp cs
 kw:wkF st (some tp) (cs.take k)=some st
 ll:(P9 st tp cs).length=cs.length+1
set_option tactic.hygienic true in
theorem D16 {st:Int}{cs:List Int}{x y:Int}(h0:0<=x)(h1:x<=st)(w:wkF st (some x) cs=some y)(hy:x<y):∃le g tp k,Rnd st cs x le g tp k/\le<=x:=by
 have hp:=B12 h0 h1 cs;rw[w] at hp;have hok:=D1z (by omega) cs (st:=st);cases e:fxF st cs with
 | none=>rw[e] at hp;cases hp
 | some r=>
  obtain⟨le,g,tp⟩:=r;rw[e] at hp hok;have gs:=D12 e;obtain⟨o1,o2,o3,o4,o5,o6⟩:=hok;simp only at o1 o2 o3 o4 o5 o6 gs;unfold N2 at hp;dsimp only at hp;split at hp
  ·cases hp
  ·rename_i hle;have hy2:=Option.some.inj hp;have g0:0<g:=by split at hy2 <;> omega
   have xt:x<tp:=by split at hy2 <;> omega
   have wt:=B12 (st:=st) (x:=tp) o3 o4 cs;rw[e] at wt;unfold N2 at wt;dsimp only at wt;rw[if_neg (by omega),if_pos (by omega)] at wt;have km:st∈P9 st tp cs:=by
    rcases C2v wt.symm with z | z
    ·omega
    ·exact z
   have hlt:=B3u.mpr km;have ll:=B5o wt.symm;rw[ll] at hlt;obtain⟨z,z1,z2⟩:=B5n wt.symm ((P9 st tp cs).idxOf st) (by omega);have ez:z=st:=by
    have hl2:=B3u.mpr km;rw[P7 hl2,C68 hl2] at z1;exact (Option.some.inj z1).symm
   subst ez;exact⟨le,g,tp,_,⟨e,g0,gs,xt,o4,by omega,rfl,km,z2,ll⟩,by omega⟩
section
variable {b:Tb}{N:List Nat}{P:Nat->Nat}{L:Nat->Int}
theorem B5p {N:List Nat}{i j k:Nat}(h:k<=j-i):(seg N i j).take k=seg N i (i+k):=by
 unfold seg;rw[List.take_take,show min k (j-i)=k by omega,show i+k-i=k by omega]
theorem D17 (W:Wk ws st b N P L){i j:Nat}(hij:i<j)(hj:j<=N.length)(hp:P i=P j){le g tp:Int}{k:Nat}(hle:le<=L i)(R:Rnd st (chs ws (seg N i j)) (L i) le g tp k){T:Tb}(hT:F9 m st T)(hb:leT b T)(c:A6a ws st T) :
  leO (some st) (gt T (P (i+k))):=by
 have kl:k<=j-i:=by
  have:=R.kl;unfold chs at this;rw[B6,A9n hj] at this;exact this
 have h0:leO (some (L 0)) (gt T (P 0)):=by rw[<-W.beg];exact hb _
 have hi:=W.lid c h0 (j:=i) (P5 _) (by omega) (W.seg (P5 _) (by omega));cases q:gt T (P i) with
 | none=>rw[q] at hi;exact absurd hi A0n
 | some z=>
  rw[q] at hi;have hz:=T9.mp hi;obtain⟨z0,z1⟩:=hT.bd _ _ q;have wz:=B12 z0 z1 (chs ws (seg N i j));rw[R.fx] at wz;unfold N2 at wz;dsimp only at wz;rw[if_neg (by omega)] at wz;have hr:=W.lid c (x:=z) (by rw[q];exact A59 _) (j:=j) (by omega) hj wz.symm;rw[<-hp,q] at hr;have hr':=T9.mp hr;have:=R.g0;have htz:tp<=z:=by split at hr' <;> omega
  have ht:leO (some tp) (gt T (P i)):=by rw[q];exact T9.mpr htz
  refine W.lid c ht (j:=i+k) (by omega) (by omega) ?_;have kw:=R.kw;unfold chs at kw ⊢;rw[<-A19,B5p kl] at kw;exact kw
theorem D18 (W:Wk ws st b N P L)(h0:0<=st)(hb:F9 m st b){i j k:Nat}(hij:i<j)(hj:j<=N.length)(hp:P i=P j)(hk:i+k<=j):gt b (P (i+k))≠some st:=λe=>by
 have key:∀q,1<=q->q<=N.length->gt b (P q)≠some st:=λq h1 h2 e=>by
  have r:=W.rise q h1 h2;rw[e] at r;have:=of_decide_eq_true r;have:=(W.bd h0 hb q h2).2;omega
 by_cases hk0:i+k=0
 ·rw[hk0] at e;have:i=0:=by omega
  rw[this] at hp;rw[hp] at e;exact key j (by omega) hj e
 ·exact key (i+k) (by omega) (by omega) e
theorem Q8.fill (hb:F9 m st b){p:Nat}(hp:p<m){t:Tb}(h:Q8 m ws st (b.set p (some st)) t)(hl:∀T,F9 m st T->leT b T->A6a ws st T->leO (some st) (gt T p)):Q8 m ws st b t:=by
 have g:∀j,gt (b.set p (some st)) j=if p=j then some st else gt b j:=λj=>A3y (by rw[hb.len];exact hp)
 refine⟨h.tab,λq=>A10 ?_ (h.up q),h.cl,λT hT h1 h2=>h.le T hT (λq=>?_) h2⟩
 ·rw[g];by_cases e:p=q
  ·rw[if_pos e];cases z:gt b q with
   | none=>rfl
   | some x=>exact T9.mpr (hb.bd _ _ z).2
  ·rw[if_neg e];exact A59 _
 ·rw[g];by_cases e:p=q
  ·rw[if_pos e,<-e];exact hl T hT h1 h2
  ·rw[if_neg e];exact h1 q
theorem D19 (h0:0<=st)(hb:F9 m st b){p:Nat}(hp:p<m):F9 m st (b.set p (some st)):=by
 refine⟨by rw[S3];exact hb.len,λq x h=>?_⟩;rw[A3y (by rw[hb.len];exact hp)] at h;by_cases e:p=q
 ·rw[if_pos e] at h;cases h;exact⟨h0,A1n _⟩
 ·rw[if_neg e] at h;exact hb.bd q x h
end
def A6b (st:Int)(b:Tb):Nat:=b.countP λx=>!(x == some st)
theorem C2w (st:Int):∀(b:Tb)(p:Nat),p<b.length->gt b p≠some st->A6b st (b.set p (some st))<A6b st b
 | [],_,h,_=>by simp at h
 | x::b,0,_,h=>by
  have hx:x≠some st:=h;show List.countP _ (some st::b)<List.countP _ (x::b);rw[List.countP_cons_of_neg (by simp),List.countP_cons_of_pos (by simp [hx])];omega
 | x::b,p+1,h1,h2=>by
  have ih:=C2w st b p (by simpa using h1) h2;show List.countP _ (x::b.set p (some st))<List.countP _ (x::b);unfold A6b at ih;rw[List.countP_cons,List.countP_cons];omega
theorem B5q:∀(m:Nat)(l:List Nat),l.Nodup->(∀x∈l,x<m)->l.length<=m
 | 0,l,_,h=>by
  cases l with
  | nil=>exact E8 _
  | cons x r=>exact absurd (h x D6) (by omega)
 | m+1,l,nd,h=>by
  by_cases c:m∈l
  ·have h1:=B5q m (l.erase m) (nd.erase m) λx hx=>by
    have h2:=h x (List.mem_of_mem_erase hx);have h3:x≠m:=λe=>by
     subst e;exact absurd hx (nd.not_mem_erase)
    omega
   rw[List.length_erase_of_mem c] at h1;omega
  ·have:=B5q m l nd λx hx=>by
    have h2:=h x hx;have h3:x≠m:=λe=>c (e▸hx);omega
   omega
abbrev Sp2:=Nat×Int
def Y2 (m:Nat)(b:Sp2):Tb:=(F2 m none).set b.1 (some b.2)
def srF (m:Nat)(ws:List Wy)(st:Int)(b:Sp2):Nat->Rw
 | 0=>(Y2 m b,F2 m none)
 | k+1=>N4 m ws st (srF m ws st b k).1 (F2 m none)
def skF (m:Nat)(ws:List Wy)(st:Int)(b:Sp2)(k:Nat):Tb:=(srF m ws st b k).1
def srs (m:Nat)(ws:List Wy)(st:Int)(b:Sp2)(n:Nat):List Rw:=(T5 n).map (srF m ws st b)
def enF (t:Tb)(g:Sp2):Bool:=match gt t g.1 with
 | none=>false
 | some l=>decide (g.2<=l)
def goN (ws:List Wy)(st:Int):List Nat->Sp2->Option Sp2
 | [],q=>some q
 | n::ns,q=>match ws[n]? with
  | none=>none
  | some w=>if w.1=q.1 then (J8 st q.2 w.2.2).bind λl=>goN ws st ns (w.2.1,l) else none
section
variable {b g:Sp2}
theorem C2x {w:Wy}{n:Nat}{l:Int}(hw:ws[n]?=some w):∀{ns:List Nat}{q r:Sp2},goN ws st ns q=some r->w.1=r.1->J8 st r.2 w.2.2=some l->goN ws st (ns++[n]) q=some (w.2.1,l)
 | [],q,r,e,h1,h2=>by
  cases e;show (match ws[n]? with
   | none=>none
   | some w=>if w.1=q.1 then (J8 st q.2 w.2.2).bind λl=>goN ws st [] (w.2.1,l) else none)=_
  rw[hw];show (if w.1=q.1 then (J8 st q.2 w.2.2).bind λl=>goN ws st [] (w.2.1,l) else none)=_;rw[if_pos h1,h2];rfl
 | k::ns,q,r,e,h1,h2=>by
  have e':(match ws[k]? with
   | none=>none
   | some w=>if w.1=q.1 then (J8 st q.2 w.2.2).bind λl=>goN ws st ns (w.2.1,l) else none)=some r:=e
  show (match ws[k]? with
   | none=>none
   | some w=>if w.1=q.1 then (J8 st q.2 w.2.2).bind λl=>goN ws st (ns++[n]) (w.2.1,l) else none)=_
  cases hk:ws[k]? with
  | none=>rw[hk] at e';cases e'
  | some v=>
   rw[hk] at e';have e2:(if v.1=q.1 then (J8 st q.2 v.2.2).bind λl=>goN ws st ns (v.2.1,l) else none)=some r:=e';show (if v.1=q.1 then (J8 st q.2 v.2.2).bind λl=>goN ws st (ns++[n]) (v.2.1,l) else none)=_;by_cases c:v.1=q.1
   ·rw[if_pos c] at e2 ⊢;cases hs:J8 st q.2 v.2.2 with
    | none=>rw[hs] at e2;cases e2
    | some x=>rw[hs] at e2;exact C2x hw (ns:=ns) e2 h1 h2
   ·rw[if_neg c] at e2;cases e2
theorem B13:(Y2 m b).length=m:=by unfold Y2;rw[S3,a8]
theorem D2a (hb:b.1<m){p:Nat}:gt (Y2 m b) p=if b.1=p then some b.2 else none:=by
 unfold Y2;rw[A3y (by rw[a8];exact hb),A11]
theorem B5r (ok:K0 m ws):∀k,(skF m ws st b k).length=m
 | 0=>B13
 | k+1=>(f9 (st:=st) (t:=skF m ws st b k) ok (a8 (a:=(none:Option Int)))).l1
theorem D2b (ok:K0 m ws):∀k,(srF m ws st b k).2.length=m
 | 0=>a8
 | k+1=>(f9 (st:=st) (t:=skF m ws st b k) ok (a8 (a:=(none:Option Int)))).l2
theorem D2c (ok:K0 m ws):∀{k q n:Nat},gt (srF m ws st b k).2 q=some n->n<ws.length
 | 0,q,n,h=>by
  have h':gt (F2 m (none:Option Nat)) q=some n:=h;rw[A11] at h';cases h'
 | k+1,q,n,h=>by
  obtain⟨w,hw,_⟩:=(f9 (st:=st) (t:=skF m ws st b k) ok (a8 (a:=(none:Option Int)))).yes q n h;exact (A0h.mp hw).1
theorem B5s (n:Nat):srs m ws st b (n+1)=srs m ws st b n++[srF m ws st b n]:=by unfold srs;rw[B9u,Q3];rfl
theorem C2y (ok:K0 m ws)(hb:b.1<m):∀{k p:Nat}{l:Int},gt (skF m ws st b k) p=some l->∃ns:List Nat,wlk ws (srs m ws st b (k+1)).reverse p=(b.1,ns)/\ns.length=k/\goN ws st ns b=some (p,l)/\∀n∈ns,n<ws.length
 | 0,p,l,h=>by
  have h':gt (Y2 m b) p=some l:=h;rw[D2a hb] at h';by_cases c:b.1=p
  ·rw[if_pos c] at h';cases h';subst c;refine⟨[],?_,rfl,rfl,λn hn=>nomatch hn⟩;show (match gt (F2 m (none:Option Nat)) b.1 with
    | none=>wlk ws [] b.1
    | some n=>((wlk ws [] (N5 ws n)).1,(wlk ws [] (N5 ws n)).2++[n]))=_
   rw[A11];rfl
  ·rw[if_neg c] at h';cases h'
 | k+1,p,l,h=>by
  have I:=f9 (st:=st) (t:=skF m ws st b k) ok (a8 (n:=m) (a:=(none:Option Int)));have h':gt (N4 m ws st (skF m ws st b k) (F2 m none)).1 p=some l:=h;cases e:gt (N4 m ws st (skF m ws st b k) (F2 m none)).2 p with
  | none=>have:=I.no p e;rw[h',A11] at this;cases this
  | some n=>
   obtain⟨w,hw,h1,h2,_⟩:=I.yes p n e;rw[h'] at h2;unfold O6 at h2;cases e3:gt (skF m ws st b k) w.1 with
   | none=>rw[e3] at h2;cases h2
   | some x=>
    rw[e3] at h2;have h2':J8 st x w.2.2=some l:=h2.symm;obtain⟨ns,a1,a2,a3,a4⟩:=C2y ok hb e3;refine⟨ns++[n],?_,by rw[S8,a2];rfl,?_,λz hz=>?_⟩
    ·rw[B5s,List.reverse_append];show (match gt (N4 m ws st (skF m ws st b k) (F2 m none)).2 p with
      | none=>wlk ws (srs m ws st b (k+1)).reverse p
      | some n=>((wlk ws (srs m ws st b (k+1)).reverse (N5 ws n)).1,(wlk ws (srs m ws st b (k+1)).reverse (N5 ws n)).2++[n]))=_
     rw[e];show ((wlk ws (srs m ws st b (k+1)).reverse (N5 ws n)).1,(wlk ws (srs m ws st b (k+1)).reverse (N5 ws n)).2++[n])=_;have:N5 ws n=w.1:=by unfold N5;rw[hw]
     rw[this,a1]
    ·rw[<-h1];exact C2x hw a3 rfl h2'
    ·rcases A1j.mp hz with z1 | z1
     ·exact a4 z z1
     ·have:z=n:=by simpa using z1
      rw[this];exact (A0h.mp hw).1
end
variable {row:List Nat}{cs:List Int}{sc gv:Int}
section
variable {x y:Int}{p0:Nat}
end
section
variable {B S:List Wy}
end
section
variable {x y:Int}{p0 pl:Nat}
end
def Bet (ws ws':List Wy):Prop:=∀w∈ws,∃w'∈ws',w'.1=w.1/\w'.2.1=w.2.1/\w.2.2<=w'.2.2
theorem D2d (ws:List Wy):Bet ws ws:=λw hw=>⟨w,hw,rfl,rfl,A1n _⟩
def A9o (st:Int)(t:Tb):Tb:=t.map λo=>o.map λx=>if st<x then st else x
theorem A9p (t:Tb)(p:Nat):gt (A9o st t) p=(gt t p).map λx=>if st<x then st else x:=by
 unfold gt A9o;rw[P6];cases t[p]? with
 | none=>rfl
 | some o=>rfl
theorem D2e (t:Tb):leT (A9o st t) t:=λp=>by
 rw[A9p];cases gt t p with
 | none=>exact B1z
 | some x=>refine T9.mpr ?_;show (if st<x then st else x)<=x;split <;> omega
theorem D2f {ws ws':List Wy}{st':Int}{b b' t t':Tb}(h0:0<=st)(hs:st<=st')(hb0:F9 m st b)(hw:Bet ws ws')(hb:leT b b')(h:Q8 m ws st b t)(h':Q8 m ws' st' b' t'):leT t t':=by
 refine C2l (h.le (A9o st t') ⟨by unfold A9o;rw[B6];exact h'.tab.len,λp x e=>?_⟩ (λp=>?_) λw hw1=>?_) (D2e t')
 ·rw[A9p] at e;cases z:gt t' p with
  | none=>rw[z] at e;cases e
  | some y=>rw[z] at e;have e':(if st<y then st else y)=x:=Option.some.inj e;obtain⟨y0,_⟩:=h'.tab.bd p y z;subst e';split <;> omega
 ·rw[A9p];have h1:=A10 (hb p) (h'.up p);cases z:gt b p with
  | none=>exact B1z
  | some x=>
   rw[z] at h1;cases z2:gt t' p with
   | none=>rw[z2] at h1;exact absurd h1 A0n
   | some y=>rw[z2] at h1;have:=T9.mp h1;have:=(hb0.bd p x z).2;refine T9.mpr ?_;show x<=(if st<y then st else y);split <;> omega
 ·obtain⟨w',hw',e1,e2,e3⟩:=hw w hw1;have c:=h'.cl w' hw';unfold O6 at c ⊢;rw[e1,e2] at c;rw[A9p,A9p];cases z:gt t' w.1 with
  | none=>exact B1z
  | some x=>
   rw[z] at c;have c':leO (J8 st' x w'.2.2) (gt t' w.2.1):=c;show leO (J8 st (if st<x then st else x) w.2.2) _;generalize hx:(if st<x then st else x)=y;have hy:y<=x:=by rw[<-hx];split <;> omega
   unfold J8 at c' ⊢;by_cases d:y+w.2.2<0
   ·rw[if_pos d];exact B1z
   ·rw[if_neg d];rw[if_neg (by omega)] at c';cases z2:gt t' w.2.1 with
    | none=>rw[z2] at c';exact absurd c' A0n
    | some u=>rw[z2] at c';have c2:=T9.mp c';refine T9.mpr ?_;show _<=(if st<u then st else u);split at c2 <;> split <;> split <;> omega
end Tactic
namespace Lake
open PySem PySem.Spec PyProof.Rows
end Lake
namespace Tactic
open PySem Lake
variable {X:Cx}{C:DC}{st:Stmt}{te:DE}
section
variable {tg e:Expr}{u:DF}
end
section
def A30 (d:Int)(ds:List PyData)(Q:PyData->Prop):Prop:=match ds with
 | [.list xs]=>bnd (A1z xs) λns=>(ns=[]->Q (.int d))/\∀M,A9e ns M->Q (.int M)
 | _=>False
set_option tactic.hygienic true in
theorem C2z {K:A8}{d:Int}:A1w C (B4r d K) (A30 d):=by
 intro ρ σ P col H vs ds Qd Q r t g k;unfold A30 at g;split at g
 ·rename_i xs;cases hn:A1z xs with
  | none=>rw[hn] at g;exact g.elim
  | some ns=>
   rw[hn] at g;obtain⟨g1,g2⟩:=g;obtain⟨v,rfl,t1⟩:=A3l t;cases t1 with
   | lst _ e t2=>have z:=B5e t2 hn;subst z;exact⟨_,ns,rfl,SqL.of e,λq=>k _ _ _ ⟨col,r.push (.int d)⟩ (g1 q),λM hM=>k _ _ _ ⟨col,r.push (.int M)⟩ (g2 M hM)⟩
 ·exact g.elim
section
variable {ta:DF}
variable {a b:Expr}{pos:Pos}
end
end
section
variable {col col2:Addr->Nat}{ρ:List Sl}{σ:St}{P:List Pe}{H H2:Hp}{i:Nat}{ds:List PyData}{a:Addr}{vs:List V}
variable {e:Expr}
end
end Tactic
namespace Lake
open PySem PySem.Spec PyProof.Rows
section
variable {κ:Type}[DecidableEq κ]
def S6 (kvs:List (κ×V))(k:κ):Option V:=(kvs.find? λkv=>decide (kv.1=k)).map (·.2)
def U1 (kvs:List (κ×V))(k:κ)(v:V):List (κ×V):=
 if (kvs.any λkv=>decide (kv.1=k))=true then kvs.map (λkv=>if kv.1=k then (kv.1,v) else kv) else kvs++[(k,v)]
def A12 (kvs:List (κ×V))(k:κ):List (κ×V):=kvs.filter λkv=>decide (kv.1≠k)
theorem B14 {p:κ×V}{r:List (κ×V)}{k:κ}(e:p.1=k):S6 (p::r) k=some p.2:=by simp [S6,A4q,e]
theorem B15 {p:κ×V}{r:List (κ×V)}{k:κ}(e:¬ p.1=k):S6 (p::r) k=S6 r k:=by simp [S6,A4q,e]
theorem C20 (k:κ):∀kvs:List (κ×V),(kvs.any λkv=>decide (kv.1=k))=(S6 kvs k).isSome
 | []=>rfl
 | p::r=>by
  rw[A4m];by_cases e:p.1=k
  ·simp only[B14 e,decide_eq_true e,Bool.true_or,Option.isSome_some]
  ·rw[B15 e,decide_eq_false e,Bool.false_or];exact C20 k r
theorem C21 (kvs:List (κ×V))(k:κ)(v:V):(U1 kvs k v).length<=kvs.length+1:=by
 unfold U1;split
 ·rw[B6];omega
 ·rw[S8,K4,A6v];omega
theorem U3.isSome_eq {o:Option V}{u:Option Value}(r:U3 o u):o.isSome=u.isSome:=by
 cases o with
 | none=>cases u with
  | none=>rfl
  | some _=>exact (show False from r).elim
 | some _=>cases u with
  | none=>exact (show False from r).elim
  | some _=>rfl
theorem U3.getD {o:Option V}{u:Option Value}{d:V}{d':Value}(r:U3 o u)(rd:E1 d d'):E1 (o.getD d) (u.getD d'):=by
 cases o with
 | none=>cases u with
  | none=>exact rd
  | some _=>exact (show False from r).elim
 | some _=>cases u with
  | none=>exact (show False from r).elim
  | some _=>exact r
theorem KV.val {kvs:List (κ×V)}{vs:List (κ×Value)}(r:KV kvs vs)(k:κ):U3 (S6 kvs k) (valueAt vs k):=by
 unfold KV at r
 induction r with
 | nil=>exact True.intro
 | @cons p q ps qs h t ih=>
  obtain⟨h1,h2⟩:=h;by_cases e:p.1=k
  ·have e':q.1=k:=h1.symm.trans e;have b:valueAt (q::qs) k=some q.2:=by simp [valueAt,A4q,e']
   rw[B14 e,b];exact h2
  ·have e':¬ q.1=k:=λz=>e (h1.trans z);have b:valueAt (q::qs) k=valueAt qs k:=by simp [valueAt,A4q,e']
   rw[B15 e,b];exact ih
theorem KV.any {kvs:List (κ×V)}{vs:List (κ×Value)}(r:KV kvs vs)(k:κ):(kvs.any λkv=>decide (kv.1=k))=vs.any λkv=>decide (kv.1=k):=by
 unfold KV at r
 induction r with
 | nil=>rfl
 | cons h t ih=>rw[A4m,A4m,ih,h.1]
theorem KV.repl {kvs:List (κ×V)}{vs:List (κ×Value)}(r:KV kvs vs)(k:κ){y:V}{u:Value}(ry:E1 y u) :
  KV (kvs.map λkv=>if kv.1=k then (kv.1,y) else kv) (vs.map λkv=>if kv.1=k then (kv.1,u) else kv):=by
 unfold KV at r ⊢
 induction r with
 | nil=>exact .nil
 | @cons p q ps qs h t ih=>
  rw[K9,K9];refine .cons ?_ ih;obtain⟨h1,h2⟩:=h;by_cases e:p.1=k
  ·rw[if_pos e,if_pos (h1.symm.trans e)];exact⟨h1,ry⟩
  ·rw[if_neg e,if_neg (λz=>e (h1.trans z))];exact⟨h1,h2⟩
theorem KV.put {kvs:List (κ×V)}{vs:List (κ×Value)}(r:KV kvs vs)(k:κ){y:V}{u:Value}(ry:E1 y u):KV (U1 kvs k y) (stored vs k u):=by
 unfold U1 stored;rw[r.any k];by_cases e:(vs.any λkv=>decide (kv.1=k))=true
 ·rw[if_pos e,if_pos e];exact r.repl k ry
 ·rw[if_neg e,if_neg e];exact Paired.snoc r ⟨rfl,ry⟩
theorem KV.drop {kvs:List (κ×V)}{vs:List (κ×Value)}(r:KV kvs vs)(k:κ):KV (A12 kvs k) (without vs k):=by
 unfold KV at r ⊢;unfold A12 without
 induction r with
 | nil=>exact .nil
 | @cons p q ps qs h t ih=>
  obtain⟨h1,h2⟩:=h;rw[List.filter_cons,List.filter_cons];by_cases e:p.1=k
  ·have a:¬ decide (p.1≠k)=true:=by simp [e]
   have b:¬ decide (q.1≠k)=true:=by simp [h1.symm.trans e]
   rw[if_neg a,if_neg b];exact ih
  ·have e':¬ q.1=k:=λz=>e (h1.trans z);have a:decide (p.1≠k)=true:=by simp [e]
   have b:decide (q.1≠k)=true:=by simp [e']
   rw[if_pos a,if_pos b];exact .cons ⟨h1,h2⟩ ih
theorem KV.length {kvs:List (κ×V)}{vs:List (κ×Value)}(r:KV kvs vs):kvs.length=vs.length:=Paired.length r
theorem D2g (kvs:List (κ×V))(k:κ):(A12 kvs k).length<=kvs.length:=B9v _ _
end
theorem A31 {P:Program}{w:World}{k:Key}{u:Value}(r:E1 (kV k) u):(S9 P w).is k u=true:=by
 cases k with
 | inl i=>obtain⟨t,e⟩:=(show ∃t,u=Value.int i t from r);subst e;exact C7t P w i t
 | inr x=>obtain⟨t,e⟩:=(show ∃t,u=Value.str x t from r);subst e;exact B32 P w x t
theorem C22 {P:Program}{w:World}:∀{ks:List Key}{us:List Value},C6 (ks.map kV) us->ItemsAre (S9 P w) ks us
 | [],_,r=>by rw[A4l] at r;cases r;exact .nil
 | k::ks,_,r=>by
  rw[K9] at r;cases r with
  | cons h t=>exact .cons (A31 h) (C22 t)
abbrev KT (H:Hp):List (List Key×V)->List (List Key×Addr×Value)->Prop:=Paired λp q=>p.1=q.1/\H q.2.1=some (.tup (p.1.map kV))/\E1 p.2 q.2.2
theorem KT.val {H:Hp}{kvs:List (List Key×V)}{xs:List (List Key×Addr×Value)}(r:KT H kvs xs)(k:List Key):U3 (S6 kvs k) ((atKey xs k).map (·.2)):=by
 induction r with
 | nil=>exact True.intro
 | @cons p q ps qs h t ih=>
  obtain⟨h1,_,h2⟩:=h;by_cases e:p.1=k
  ·have e':q.1=k:=h1.symm.trans e;have b:atKey (q::qs) k=some q.2:=by simp [atKey,A4q,e']
   rw[B14 e,b];exact h2
  ·have e':¬ q.1=k:=λz=>e (h1.trans z);have b:atKey (q::qs) k=atKey qs k:=by simp [atKey,A4q,e']
   rw[B15 e,b];exact ih
theorem KT.repl {H:Hp}{kvs:List (List Key×V)}{xs:List (List Key×Addr×Value)}(r:KT H kvs xs)(k:List Key){y:V}{u:Value}(ry:E1 y u) :
  KT H (kvs.map λkv=>if kv.1=k then (kv.1,y) else kv) (xs.map (putAt k u)):=by
 induction r with
 | nil=>exact .nil
 | @cons p q ps qs h t ih=>
  rw[K9,K9];refine .cons ?_ ih;obtain⟨h1,h2,h3⟩:=h;unfold putAt;by_cases e:p.1=k
  ·rw[if_pos e,if_pos (h1.symm.trans e)];exact⟨h1,h2,ry⟩
  ·rw[if_neg e,if_neg (λz=>e (h1.trans z))];exact⟨h1,h2,h3⟩
theorem KT.put {H:Hp}{kvs:List (List Key×V)}{xs:List (List Key×Addr×Value)}(r:KT H kvs xs)(k:List Key){b:Addr}{y:V}{u:Value}(hb:H b=some (.tup (k.map kV)))(ry:E1 y u) :
  KT H (U1 kvs k y) (storedH xs k b u):=by
 have e:(kvs.any λkv=>decide (kv.1=k))=(atKey xs k).isSome:=by
  rw[C20,(r.val k).isSome_eq,Option.isSome_map]
 unfold U1 storedH;rw[e];by_cases q:(atKey xs k).isSome=true
 ·rw[if_pos q,if_pos q];exact r.repl k ry
 ·rw[if_neg q,if_neg q];exact Paired.snoc r ⟨rfl,hb,ry⟩
theorem KT.keeps {H H':Hp}{kvs:List (List Key×V)}{xs:List (List Key×Addr×Value)}(r:KT H kvs xs)(ht:∀b ys,H b=some (.tup ys)->H' b=some (.tup ys)):KT H' kvs xs:=
 Paired.mapP r λJ J z=>⟨z.1,ht _ _ z.2.1,z.2.2⟩
variable {H:Hp}{a:Addr}
section
variable {P:Program}{w:World}{h:Heap}
theorem C23 {u:HO}(ok:HOk P w H h)(e:Rd H a u):O7 P w H h a u:=e.ok ok
theorem A6c {kvs:List (Key×V)}(ok:HOk P w H h)(e:Rd H a (.dK kvs)):kvs.length<=sizeLine/\(a == sysModules)=false/\∃vs,KV kvs vs/\h.DictOf (S9 P w) a vs:=
 show O7 P w H h a (.dK kvs) from C23 ok e
theorem B5t {kvs:List (Key×V)}(ok:HOk P w H h)(e:H a=some (.dK kvs)):kvs.length<=sizeLine/\(a == sysModules)=false/\∃vs,KV kvs vs/\h.DictOf (S9 P w) a vs:=A6c ok (.inl e)
theorem A9q {ks:List Key}(ok:HOk P w H h)(e:H a=some (.tup (ks.map kV))):(tupleKind (S9 P w)).is h ks a:=by
 obtain⟨_,its,r,o,h1,h2,n,h3⟩:=(show O7 P w H h a (.tup (ks.map kV)) from ok a _ e);exact⟨o,its.toArray,n,h1,h2,h3,by simpa using C22 r⟩
theorem A78 {kvs:List (List Key×V)}(ok:HOk P w H h)(e:Rd H a (.dT kvs)):kvs.length<=sizeLine/\(a == sysModules)=false/\
  ∃xs,KT H kvs xs/\h.DictOfH (tupleKind (S9 P w)) a xs:=by
 obtain⟨z,y,xs,r,o,es,ep,h1,h2,h3,h4,h5⟩:=(show O7 P w H h a (.dT kvs) from C23 ok e);refine⟨z,y,xs,r,o,es,ep,h1,h2,h3,h4,λx hx=>?_,h5⟩;have all:∀{l:List (List Key×V)}{m:List (List Key×Addr×Value)},KT H l m->∀x∈m,(tupleKind (S9 P w)).is h x.1 x.2.1:=by
  intro l m q
  induction q with
  | nil=>intro x hx;exact nomatch hx
  | @cons p q ps qs hq t ih=>
   intro x hx;rcases G1.mp hx with e | hx
   ·subst e;exact A9q ok (by rw[<-hq.1];exact hq.2.1)
   ·exact ih x hx
 exact all r x hx
theorem D2h {kvs:List (List Key×V)}(ok:HOk P w H h)(e:H a=some (.dT kvs)):kvs.length<=sizeLine/\(a == sysModules)=false/\
  ∃xs,KT H kvs xs/\h.DictOfH (tupleKind (S9 P w)) a xs:=A78 ok (.inl e)
end
def Y3 (H:Hp)(a:Addr)(y:V)(r:Option V):Prop:=
 (∃kvs k,Rd H a (.dK kvs)/\y=kV k/\r=S6 kvs k)\/∃kvs k b,Rd H a (.dT kvs)/\y=.ref b/\H b=some (.tup (k.map kV))/\r=S6 kvs k
def A32 (H:Hp)(a:Addr)(y v:V)(H':Hp):Prop:=
 (∃kvs k,H a=some (.dK kvs)/\y=kV k/\kvs.length<sizeLine/\H'=upd H a (.dK (U1 kvs k v)))\/
 ∃kvs k b,H a=some (.dT kvs)/\y=.ref b/\H b=some (.tup (k.map kV))/\kvs.length<sizeLine/\H'=upd H a (.dT (U1 kvs k v))
theorem Y3.k {H:Hp}{a:Addr}{kvs:List (Key×V)}{k:Key}(e:H a=some (.dK kvs)):Y3 H a (kV k) (S6 kvs k):=.inl ⟨kvs,k,.inl e,rfl,rfl⟩
theorem A32.k {H:Hp}{a:Addr}{kvs:List (Key×V)}{k:Key}{v:V}(e:H a=some (.dK kvs))(hl:kvs.length<sizeLine):A32 H a (kV k) v (upd H a (.dK (U1 kvs k v))):=.inl ⟨kvs,k,e,rfl,hl,rfl⟩
variable {X:Cx}{pins:List (Addr×Obj)}{σ:St}{s:Shared}{y:V}{u:Value}{A:Around}{E:Value->Shared->Prop}
section
variable {v:V}{r:Value}{o:Option V}
theorem Inv.big (I:Inv X pins σ H s):sysModules<s.heap.objs.size:=by
 have h:mainGlobals<s.heap.objs.size:=(I.mod.glob.keeps I.bk).lt;exact Nat.lt_trans DD h
theorem D2i {Q:Value->Shared->Prop}(hu:A.units+1<cLine)(I:Inv X pins σ H s)(g:Y3 H a y (some v))(ry:E1 y u)(h:∀w' s',Inv X pins σ H s'->E1 v w'->Q w' s') :
  wpAny (model X.prog X.w) A (getItem (.ref a) u) Q E s:=by
 rcases g with ⟨kvs,k,e,ey,l⟩ | ⟨kvs,k,b,e,ey,eb,l⟩
 ·subst ey;obtain⟨z,hd,vs,rel,dd⟩:=A6c I.hok e;obtain⟨w',hw,rw'⟩:=U3.some_of (v:=v) (o:=valueAt vs k) (by rw[l];exact rel.val k);exact wpAny_getItem_of (A31 ry) dd.mapOf hw (h w' _ (I.tok _) rw')
 ·subst ey;cases (show u=Value.ref b from ry);obtain⟨z,hd,xs,rel,dd⟩:=A78 I.hok e;obtain⟨w',hw,rw'⟩:=U3.some_of (v:=v) (o:=(atKey xs k).map (·.2)) (by rw[l];exact rel.val k);obtain⟨p,hp,hp2⟩:=A28.mp hw;refine wpAny_getItem_heap (tupleKind_room_in1 hu) (A9q I.hok eb) dd hp ?_;rw[hp2];exact h w' _ (I.tok _) rw'
theorem D2j {Q:Value->Shared->Prop}(hu:A.units+1<cLine)(I:Inv X pins σ H s)(g:Y3 H a y o)(ry:E1 y u)(h:∀s',Inv X pins σ H s'->Q (.bool o.isSome) s') :
  wpAny (model X.prog X.w) A (compareOp .In u (.ref a)) Q E s:=by
 rcases g with ⟨kvs,k,e,ey,l⟩ | ⟨kvs,k,b,e,ey,eb,l⟩
 ·subst ey;obtain⟨z,hd,vs,rel,dd⟩:=A6c I.hok e;refine wpAny_in_of (A31 ry) hd dd.mapOf ?_;rw[<-(rel.val k).isSome_eq,<-l];exact h _ (I.tok _)
 ·subst ey;cases (show u=Value.ref b from ry);obtain⟨z,hd,xs,rel,dd⟩:=A78 I.hok e;refine wpAny_in_heap (tupleKind_room_in1 hu) (A9q I.hok eb) hd dd ?_;have q:=(rel.val k).isSome_eq;rw[Option.isSome_map] at q;rw[<-q,<-l];exact h _ (I.tok _)
theorem D2k {Q:Value->Shared->Prop}(hu:A.units+1<cLine)(I:Inv X pins σ H s)(g:Y3 H a y o)(ry:E1 y u)(h:∀s',Inv X pins σ H s'->Q (.bool (!o.isSome)) s') :
  wpAny (model X.prog X.w) A (compareOp .NotIn u (.ref a)) Q E s:=by
 rcases g with ⟨kvs,k,e,ey,l⟩ | ⟨kvs,k,b,e,ey,eb,l⟩
 ·subst ey;obtain⟨z,hd,vs,rel,dd⟩:=A6c I.hok e;refine wpAny_notIn_of (A31 ry) hd dd.mapOf ?_;rw[<-(rel.val k).isSome_eq,<-l];exact h _ (I.tok _)
 ·subst ey;cases (show u=Value.ref b from ry);obtain⟨z,hd,xs,rel,dd⟩:=A78 I.hok e;refine wpAny_notIn_heap (tupleKind_room_in1 hu) (A9q I.hok eb) hd dd ?_;have q:=(rel.val k).isSome_eq;rw[Option.isSome_map] at q;rw[<-q,<-l];exact h _ (I.tok _)
theorem B5u {h':Heap}{t':Nat}{ob:HO}(I:Inv X pins σ H s)(mu:Mut (H a))(hs:Heap.SameBut a s.heap h')(he:∃q,h'.get? a=some q)(new:O7 X.prog X.w (upd H a ob) h' a ob) :
  Inv X pins σ (upd H a ob) { s with heap:=h',toks:=t' }:=
 I.write (x:=a) (e:=a) mu (.inl rfl) (λb q hb z=>(hs.2 b hb).trans z) he new
theorem C24 {P:Program}{w:World}{H':Hp}{h':Heap}{kvs:List (Key×V)}{vs:List (Key×Value)}(z:kvs.length<=sizeLine)(hd:(a == sysModules)=false)(rel:KV kvs vs)(dd:h'.DictOf (S9 P w) a vs) :
  O7 P w H' h' a (.dK kvs):=⟨z,hd,vs,rel,dd⟩
theorem D2l {H':Hp}{Q:Unit->Shared->Prop}(hu:A.units+1<cLine)(I:Inv X pins σ H s)(g:A32 H a y v H')(ry:E1 y u)(rv:E1 v r)(h:∀s',Inv X pins σ H' s'->Q () s') :
  wpAny (model X.prog X.w) A (setItem (.ref a) u r) Q E s:=by
 rcases g with ⟨kvs,k,e,ey,l,eH⟩ | ⟨kvs,k,b,e,ey,eb,l,eH⟩
 ·subst ey eH;obtain⟨z,hd,vs,rel,dd⟩:=B5t I.hok e;have hz:vs.length<=sizeLine:=by rw[<-rel.length];exact z
  have hl:(U1 kvs k v).length<=sizeLine:=by have:=C21 kvs k v;omega
  refine wpAny_setItem_pairs (hsz:=hz) (A31 ry) dd λh' dd' hs=>h _ ?_;have he:∃q,h'.get? a=some q:=let ⟨q,_,_,hq,_⟩:=dd';⟨q,hq⟩;exact B5u I (by rw[e];exact True.intro) hs he (C24 hl hd (rel.put k rv) dd')
 ·subst ey eH;cases (show u=Value.ref b from ry);obtain⟨z,hd,xs,rel,dd⟩:=D2h I.hok e;have hz:xs.length<=sizeLine:=by rw[<-Paired.length rel];exact z
  have hl:(U1 kvs k v).length<=sizeLine:=by have:=C21 kvs k v;omega
  refine wpAny_setItem_heap (hsz:=hz) (tupleKind_room_in1 hu) (A9q I.hok eb) dd λh' dd' hs=>h _ ?_;obtain⟨q,es,ep,hq,h2,h3,h4,_,h5⟩:=dd';refine B5u I (by rw[e];exact True.intro) hs ⟨q,hq⟩ ⟨hl,hd,_,(rel.put k eb rv).keeps λc ys ec=>?_,q,es,ep,hq,h2,h3,h4,h5⟩;rw[B7 (B90 ec e (λz=>nomatch z))];exact ec
end
section
variable {kvs:List (Key×V)}{k:Key}
theorem D2m {v:V}{more:List Value}{Q:Value->Shared->Prop}(I:Inv X pins σ H s)(e:H a=some (.dK kvs))(ry:E1 (kV k) u)(l:S6 kvs k=some v)(hm:more=[]\/∃x,more=[x])
  (h:∀w' s',Inv X pins σ (upd H a (.dK (A12 kvs k))) s'->E1 v w'->Q w' s'):wpAny (model X.prog X.w) A (call (.builtin "dict.pop") (.ref a::u::more)) Q E s:=by
 obtain⟨z,hd,vs,rel,dd⟩:=B5t I.hok e;obtain⟨w',hw,rw'⟩:=U3.some_of (v:=v) (o:=valueAt vs k) (by rw[<-l];exact rel.val k);have hp:(keyPart u).isSome=true:=by
  cases k with
  | inl i=>obtain⟨t,q⟩:=(show ∃t,u=Value.int i t from ry);subst q;rfl
  | inr x=>obtain⟨t,q⟩:=(show ∃t,u=Value.str x t from ry);subst q;rfl
 have ha:argsOk "dict.pop" ⟨.ref a::u::more,[]⟩:=by
  rcases hm with q | ⟨x,q⟩
  ·subst q;exact PySem.F.args_dict_pop_2 _ _
  ·subst q;exact PySem.F.args_dict_pop_3 _ _ _
 refine call_meetsIn PySem.F.slot_dict_pop dd.typeIs PySem.F.entry_dict_pop ha (meets_dict_pop_there (S9 X.prog X.w) a (A31 ry) more hm hp)
  ⟨vs,w',dd,by rw[<-rel.length];exact z,hw,λh' dd' hs=>h w' _ ?_ rw'⟩
 have he:∃q,h'.get? a=some q:=let ⟨q,_,_,hq,_⟩:=dd';⟨q,hq⟩;exact B5u I (by rw[e];exact True.intro) hs he (C24 (J1 (D2g kvs k) z) hd (rel.drop k) dd')
theorem D2n {Q:Value->Shared->Prop}(I:Inv X pins σ H s)(e:Rd H a (.dK kvs))(h:∀t s',Inv X pins σ H s'->Q (.int kvs.length t) s'):wpAny (model X.prog X.w) A (call (.builtin "len") [.ref a]) Q E s:=by
 obtain⟨z,hd,vs,rel,dd⟩:=A6c I.hok e;refine call_len_dict hd dd (by rw[<-rel.length];rw[sizeLine_eq] at z;omega) ?_;rw[<-rel.length];exact h _ _ (I.tok _)
end
def B5v (i:Expr):Prop:=∀ov iv,subscripted i false ov iv=operate [ov,iv] (getItem ov iv)
theorem C25 {prog:Program}{w:World}{A:Around}{E:Value->Shared->Prop}{s:Shared}{env:Env}{value slice:Expr}{pos:Pos}{T id:String}{Q:Value->Shared->Prop}
  (hl:typeLookup (.type T) "__getitem__" = pure (some (.builtin id))) (hs:B5v slice)
  (h:wpAny (model prog w) A (eval value env) (λo s₁=>wpAny (model prog w) A (eval slice env) (λi s₂=>s₂.TypeIs o T/\wpAny (model prog w) A (getItem o i) Q E s₂) E s₁) E s) :
  wpAny (model prog w) A (eval (.Subscript value slice pos) env) Q E s:=by
 refine Subscript_ (wpAny_mono h (λo s₁ h₁=>wpAny_mono h₁ (λi s₂ h₂=>?_) λJ J x=>x) λJ J x=>x);obtain⟨hT,h₂⟩:=h₂;unfold subscriptTail;refine wpAny_bind ?_;rw[getitemInPython_of_ne hT.not_modules];refine wpAny_bind (wpAny_specialOf hT hl ?_);have fin:wpAny (model prog w) A (subscripted slice false o i) (λr s₃=>wpAny (model prog w) A (letTemporaryGo value o r >>= λJ=>pure r) Q E s₃) E s₂:=by
  rw[hs o i];exact wpAny_operating (wpAny_mono h₂ (λr s₃ h₃=>wpAny_bind (wpAny_letTemporaryGo (wpAny_pure h₃))) λJ J x=>x)
 first
  | exact wpAny_pure (wpAny_bind fin)
  | exact wpAny_bind (wpAny_pure (wpAny_bind fin))
  | exact wpAny_bind fin
theorem D2o {X:Cx}{pins:List (Addr×Obj)}{σ:St}{H:Hp}{s:Shared}{a:Addr}{y:V}{o:Option V}(I:Inv X pins σ H s)(g:Y3 H a y o):s.TypeIs (.ref a) "dict" :=by
 rcases g with ⟨kvs,k,e,_,_⟩ | ⟨kvs,k,b,e,_,_,_⟩
 ·obtain⟨_,_,vs,_,dd⟩:=A6c I.hok e;exact dd.typeIs
 ·obtain⟨_,_,xs,_,dd⟩:=A78 I.hok e;exact dd.typeIs
def D2p (td ty:TE):TE:=fun σ H Q=>td σ H λx H1=>ty σ H1 λy H2=>∃a v,x=.ref a/\Y3 H2 a y (some v)/\Q v H2
def D2q (ty td:TE):TE:=fun σ H Q=>ty σ H λy H1=>td σ H1 λx H2=>∃a o,x=.ref a/\Y3 H2 a y o/\Q (.bl o.isSome) H2
def D2r (ty td:TE):TE:=fun σ H Q=>ty σ H λy H1=>td σ H1 λx H2=>∃a o,x=.ref a/\Y3 H2 a y o/\Q (.bl (!o.isSome)) H2
def D2s (td ty tv:TE):TS:=λD σ H=>tv σ H λv H1=>td σ H1 λx H2=>ty σ H2 λy H3=>∃a H4,x=.ref a/\A32 H3 a y v H4/\D.nx σ H4
section
variable {o i e value:Expr}{pos pos' tpos:Pos}{td ty tv:TE}
theorem B16 (hu:X.A.units+1<cLine)(ho:PE X o td)(hi:PE X i ty)(hs:B5v i):PE X (.Subscript o i pos) (D2p td ty):=by
 intro pins s σ H Q I h;refine C25 PySem.F.slot_dict_getitem.lookup hs (thn (ho pins s σ H _ I h) λu s1 zw1=>el5 zw1 λx H1 I1 rx q1=>thn (hi pins s1 σ H1 _ I1 q1) λiv s2 zw2=>el5 zw2 λy H2 I2 ry qw2=>?_);obtain⟨a,v,ex,g,q2⟩:=qw2;subst ex;obtain rfl:u=Value.ref a:=rx;exact⟨D2o I2 g,D2i hu I2 g ry λw' s3 I3 rw'=>⟨v,H2,I3,rw',q2⟩⟩
theorem C26 (hu:X.A.units+1<cLine)(hi:PE X i ty)(ho:PE X o td):PC X .In i o (D2q ty td):=by
 intro pins s σ H Q I h;refine thn (hi pins s σ H _ I h) λiv s1 zw3=>el5 zw3 λy H1 I1 ry q1=>thn (ho pins s1 σ H1 _ I1 q1) λu s2 zw4=>el5 zw4 λx H2 I2 rx qw4=>?_;obtain⟨a,ov,ex,g,q2⟩:=qw4;subst ex;obtain rfl:u=Value.ref a:=rx;exact D2j hu I2 g ry λs3 I3=>⟨.bl ov.isSome,H2,I3,rfl,q2⟩
theorem D2t (hu:X.A.units+1<cLine)(hi:PE X i ty)(ho:PE X o td):PC X .NotIn i o (D2r ty td):=by
 intro pins s σ H Q I h;refine thn (hi pins s σ H _ I h) λiv s1 zw5=>el5 zw5 λy H1 I1 ry q1=>thn (ho pins s1 σ H1 _ I1 q1) λu s2 zw6=>el5 zw6 λx H2 I2 rx qw6=>?_;obtain⟨a,ov,ex,g,q2⟩:=qw6;subst ex;obtain rfl:u=Value.ref a:=rx;exact D2k hu I2 g ry λs3 I3=>⟨.bl (!ov.isSome),H2,I3,rfl,q2⟩
theorem B17 (hu:X.A.units+1<cLine)(ho:PE X o td)(hi:PE X i ty)(hv:PE X value tv)(hs:swapsWith value (some (.Subscript o i pos')) pos.line X.env=pure false) :
  PS X (.Assign [.Subscript o i pos'] value pos) (D2s td ty tv):=by
 intro pins s σ H D I h;refine wpAny_Assign_Subscript (thn (hv pins s σ H _ I h) λr s1 zw7=>el5 zw7 λv H1 I1 rv q1=>thn (ho pins s1 σ H1 _ I1 q1) λu s2 zw8=>el5 zw8 λx H2 I2 rx q2=>thn (hi pins s2 σ H2 _ I2 q2) λiv s3 zw9=>el5 zw9 λy H3 I3 ry qw9=>?_) hs;obtain⟨a,H4,ex,g,q3⟩:=qw9;subst ex;obtain rfl:u=Value.ref a:=rx;exact D2l hu I3 g ry rv λs4 I4=>⟨σ,H4,I4,q3⟩
end
theorem D2u {P:Program}{w:World}{H:Hp}(h:Heap)(hb:sysModules<h.objs.size):O7 P w H (h.push { cls:=.type "dict",data:=.dict #[] }) h.objs.size (.dK []):=
 ⟨P5 _,beq_eq_false_iff_ne.mpr (Ne.symm (O0 hb)),[],.nil,Heap.DictOf.new h⟩
def D2v:TE:=λJ H Q=>∀p,H p=none->Q (.ref p) (upd H p (.dK []))
section
variable {pos:Pos}
theorem C27:PE X (.Dict [] [] pos) D2v:=λpins s σ H Q I h=>
 wpAny_Dict_empty ⟨.ref s.heap.objs.size,_,I.laid (a:=s.heap.objs.size) (o:=.dK []) (t':=s.toks) (λJ J q=>M5 _ q) (E8 _) (D2u s.heap I.big),rfl,h _ (I.hok.fresh (E8 _))⟩
end
structure M1 (X:Cx)(o:Expr)(m:Str)(apos:Pos)(e:Expr)(cpos:Pos):Prop where
 base:attributeBase o m X.env (eval o X.env)=eval o X.env
 few:((backTo cpos (starEach [e] X.env)).all (λx=>!x.1)&&(backToKw cpos (keywordEach [] X.env)).all (λx=>x.1.isSome)
  &&decide (([e]:List Expr).length+([]:List Keyword).length+(if ([]:List Keyword).isEmpty then 0 else 1)<30))=true
 line:(apos.endLine == cpos.line)=true
 trees:backTo cpos (starEach [e] X.env)=[(false,eval e X.env)]
def IsD (H:Hp)(a:Addr):Prop:=(∃kvs,Rd H a (.dK kvs))\/∃kvs,Rd H a (.dT kvs)
theorem D2w {X:Cx}{pins:List (Addr×Obj)}{σ:St}{H:Hp}{s:Shared}{a:Addr}(I:Inv X pins σ H s)(d:IsD H a) :
  s.TypeIs (.ref a) "dict" /\(∀b,Value.ref a=.ref b->∃ob,s.heap.get? b=some ob/\ob.dict=none)/\(a == sysModules)=false:=by
 rcases d with ⟨kvs,e⟩ | ⟨kvs,e⟩
 ·obtain⟨_,hd,vs,_,dd⟩:=A6c I.hok e;refine⟨dd.typeIs,λb q=>?_,hd⟩;cases q;obtain⟨ob,_,_,h1,h2,_⟩:=dd;exact⟨ob,h1,h2.2.1⟩
 ·obtain⟨_,hd,xs,_,dd⟩:=A78 I.hok e;refine⟨dd.typeIs,λb q=>?_,hd⟩;cases q;obtain⟨ob,_,_,h1,h2,_⟩:=dd;exact⟨ob,h1,h2.2.1⟩
section
variable {d:V}{r:Value}{o:Option V}
end
def D2x (td ty:TE):TE:=fun σ H Q=>td σ H λx H1=>∃a,x=.ref a/\IsD H1 a/\ty σ H1 λy H2=>∃kvs k v,H2 a=some (.dK kvs)/\y=kV k/\S6 kvs k=some v/\Q v (upd H2 a (.dK (A12 kvs k)))
section
variable {o e f:Expr}{apos cpos:Pos}{td ty tx:TE}
theorem C28 (ho:PE X o td)(he:PE X e ty)(m:M1 X o "pop" apos e cpos):PE X (.Call (.Attribute o "pop" apos) [e] [] cpos) (D2x td ty):=by
 intro pins s σ H Q I h;refine wpAny_Call_method m.base m.few m.line PySem.F.plainAttrs_dict PySem.F.slot_dict_pop PySem.F.type_dict_pop (thn (ho pins s σ H _ I h) λu s1 zw10=>el5 zw10 λx H1 I1 rx qw10=>?_);obtain⟨a,ex,d,q1⟩:=qw10;subst ex;obtain rfl:u=Value.ref a:=rx;obtain⟨t1,t2,_⟩:=D2w I1 d;refine⟨t1,t2,?_⟩;rw[m.trees];refine Calls.callWith_builtin rfl (Calls.evalArgs_plain (Calls.spliced_cons (thn (he pins s1 σ H1 _ I1 q1) λiv s2 zw11=>el5 zw11 λy H2 I2 ry qw11=>Calls.spliced_nil ?_)));obtain⟨kvs,k,v,ea,ey,l,q2⟩:=qw11;subst ey;exact D2m I2 ea ry l (.inl rfl) λw' s3 I3 rw'=>⟨v,_,I3,rw',q2⟩
end
section
variable {kvs:List (Key×V)}
end
section
variable {prog:Program}{w:World}
end
end Lake
namespace Tactic
open PySem Lake
theorem u1 {n:Nat}(h:n+64<cLine):n+1<cLine:=by omega
section
variable {C:DC}{col:Addr->Nat}{ρ:List Sl}{σ:St}{P:List Pe}{H H':Hp}{p:Addr}
end
open PySem.Spec PyProof.Rows
section
variable {P:Program}{w:World}{K:A8}{mg:Str->Option Value}{base:Heap}
open Classical in
end
section
variable {X:Cx}{C:DC}{st:Stmt}{e a b:Expr}{te tk:DE}{u:DA}{pos:Pos}
end
end Tactic
namespace Tactic
open PySem Lake
mutual
def D2y:PyData->List (List PyData)
 | .list ds=>ds::B5w ds
 | .tuple ds=>B5w ds
 | _=>[]
def B5w:List PyData->List (List PyData)
 | []=>[]
 | d::ds=>D2y d++B5w ds
end
mutual
def szD:PyData->Nat
 | .list ds=>szL ds+1
 | .tuple ds=>szL ds+1
 | _=>1
def szL:List PyData->Nat
 | []=>0
 | d::ds=>szD d+szL ds
end
section
variable {X:Cx}{C:DC}{st:Stmt}{u:DA}
variable {a b:Expr}{tb:DE}{pos:Pos}
variable {a b:Expr}{tb:DE}{pos:Pos}
end
end Tactic
namespace Lake
open PySem PySem.Spec PyProof.Rows
end Lake
namespace Tactic
open PySem Lake
open PySem.Spec PyProof.Rows
section
variable {C:DC}{col:Addr->Nat}{ρ:List Sl}{σ:Lake.St}{P:List Pe}{H H':Hp}{p:Addr}
end
section
variable {X:Cx}{C:DC}{st:Stmt}{e:Expr}{te:DE}{u:DA}{pos:Pos}
end
end Tactic
namespace Tactic
open PySem Lake
section
variable {X:Cx}{C:DC}{st:Stmt}{e:Expr}{ta:DE}
end
end Tactic
namespace Tactic
abbrev Ct:=List (List (Option Int))
abbrev Spt:=Nat×Nat
def ca (t:Ct)(s:Spt):Option Int:=gt (t.getD s.1 []) s.2
open PySem Lake
def mxI (a b:Int):Int:=if b>a then b else a
end Tactic
namespace Lake
open PySem PySem.Spec PyProof.Rows
section
variable {X:Cx}
end
end Lake
namespace Tactic
open PySem Lake
section
variable {C:DC}
end
end Tactic
namespace Lake
open PySem PySem.Spec PyProof.Rows
variable {X:Cx}{s:Shared}
section
variable {pins:List (Addr×Obj)}{σ:St}{H:Hp}
end
variable {prog:Program}{A:Around}{E:Value->Shared->Prop}
section
variable {w:World}{K:Type}[DecidableEq K]{knd:HeapKind prog w K}
end
section
variable {pins:List (Addr×Obj)}{σ:St}{H:Hp}{a b:Addr}{kvs:List (List Key×V)}{k:List Key}
end
section
variable {w:World}
end
section
variable {w:World}{R:Result->Shared->Prop}{I:Addr}{fp wr:List Addr}{n:Nat}{P:Nat->Value->Prop}{St:Nat->Heap->Prop}
end
theorem C29:∀{kvs:List (Key×V)}{vs:List (Key×Value)}{ns:List Int}{its:List Value},KV kvs vs->kvs.map (·.1)=ns.map Sum.inl->its.length=vs.length->(∀(j:Nat)(v:Value),its[j]?=some v->∃k x,vs[j]?=some (k,x)/\∀i,k=Sum.inl i->∃t,v=Value.int i t)->C6 (ns.map V.int) its
 | [],[],[],[],_,_,_,_=>.nil
 | [],[],[],_::_,_,_,hl,_=>nomatch hl
 | [],[],_::_,_,_,h,_,_=>nomatch h
 | [],_::_,_,_,h,_,_,_=>nomatch h
 | _::_,[],_,_,h,_,_,_=>nomatch h
 | _::_,_::_,[],_,_,h,_,_=>nomatch h
 | _::_,_::_,_::_,[],_,_,hl,_=>nomatch hl
 | p::kvs,q::vs,n::ns,u::its,h,hk,hl,hp=>by
  obtain⟨k,x,e,e1⟩:=hp 0 u rfl;cases e;have h1:p.1=k/\KV kvs vs:=by
   cases h with
   | cons a b=>exact⟨a.1,b⟩
  rw[K9,K9] at hk;injection hk with hk1 hk2
  rw[h1.1] at hk1;exact .cons (e1 n hk1) (C29 h1.2 hk2 (by simpa using hl) λj v hj=>hp (j+1) v hj)
section
variable {w:World}{T:String}{r d:Addr}{n:Nat}{P:Nat->Value->Prop}{OK:Heap->Prop}
theorem D2z {R:List Value->Shared->Prop}(src:PySem.W.KdlSrc prog w T r d n P OK)(calm:A.handled=none)(ok:OK s.heap)(few:n<=sizeLine)
  (k:∀(g:Heap)(t:Nat)(xs:Array Value),(∀b o,s.heap.get? b=some o->g.get? b=some o)->s.heap.objs.size<=g.objs.size->ItemsOf P xs n->R xs.toList { s with heap:=g,toks:=t }) :
  wpAny (model prog w) A (collect (.ref r)) R E s:=by
 obtain⟨lt1,lt2⟩:=src.there _ ok;unfold collect;refine wpAny_bind (wpAny_runValue (codeAny_builtin entry_proto_collect' ?_));rw[Around.under_plainId PySem.F.plain_proto_collect _];show wpAny _ A.in1 (newList [] >>= λq=>again (.builtin "list.__iadd__" ⟨[q,.ref r],[]⟩)) _ _ s;refine wpAny_bind (wpAny_newObj_type (wpAny_pure ⟨plainId_quiet PySem.F.plain_list_iadd _,codeAny_builtin entry_list_iadd' ?_⟩));rw[Around.under_plainId PySem.F.plain_list_iadd _];show wpAny _ A.in1 (Builtin.List.listExtendWith (.ref s.heap.objs.size) (.ref r) (.ref s.heap.objs.size)) _ _ _;have base:(s.heap.push { cls:=.type "list",data:=.seq ([]:List Value).toArray }).get? s.heap.objs.size=some { cls:=.type "list",data:=.seq #[] }:=R9 _ rfl;have walk:=PySem.W.kdl_extend (A:=A) (s:={ s with heap:=s.heap.push { cls:=.type "list",data:=.seq ([]:List Value).toArray } })
  (R:=λ(q:Result) (s':Shared)=>∃(g:Heap)(t:Nat)(xs:Array Value)(c:Nat),q=.ok (.ret (.ref s.heap.objs.size))/\s'={ s with heap:=g,toks:=t }/\(∀b o,s.heap.get? b=some o->g.get? b=some o)/\
   g.get? s.heap.objs.size=some { cls:=.type "list",dict:=none,data:=.seq xs c,slots:=#[] }/\ItemsOf P xs n)
  src calm (src.keep _ _ ok λb J o z=>M5 _ z) s.heap.objs.size (A8s lt1) (A8s lt2) (.ref s.heap.objs.size) 0 base
  (λg t xs c hk hS hx=>⟨g,t,xs,c,rfl,rfl,λb o z=>hk b o (O0 (G6 z)) (M5 _ z),hS,hx⟩) few
 have fin:∀{g:Heap}{t:Nat}{xs:Array Value}{c:Nat},(∀b o,s.heap.get? b=some o->g.get? b=some o)->g.get? s.heap.objs.size=some { cls:=.type "list",dict:=none,data:=.seq xs c,slots:=#[] }->ItemsOf P xs n->R xs.toList { s with heap:=g,toks:=t }:=
  λhk hS hx=>k _ _ _ hk (A24 (G6 hS)) hx
 refine wpAny_mono walk (λf s' x=>?_) λe s' x=>by obtain⟨_,_,_,_,z,_⟩:=x;cases z
 cases f with
 | done f=>obtain⟨g,t,xs,c,z,rfl,hk,hS,hx⟩:=x;cases z;show wpAny _ A (load s.heap.objs.size >>= _) _ _ _;exact wpAny_bind (wpAny_load hS (wpAny_pure (fin hk hS hx)))
 | again c₁=>refine⟨x.1,codeAny_mono x.2 λq s₂ y=>?_⟩;obtain⟨g,t,xs,c,rfl,rfl,hk,hS,hx⟩:=y;show wpAny _ A (load s.heap.objs.size >>= _) _ _ _;exact wpAny_bind (wpAny_load hS (wpAny_pure (fin hk hS hx)))
end
theorem B5x (hc:X.calm=true):V5 X (.builtin "sorted") (λxs H Q=>∃(p:Addr)(kvs:List (Key×V))(ns:List Int),xs=[.ref p]/\H p=some (.dK kvs)/\kvs.map (·.1)=ns.map Sum.inl/\ns.length<64/\∀(l:Addr)(ms:List Int),H l=none->ms.Perm ns->ms.Pairwise (·<=·)->Q (.ref l) (upd H l (.lst (ms.map V.int)))):=by
 intro pins s σ H xs us Q I r h;obtain⟨p,kvs,ns,rfl,e,hkeys,hn,q⟩:=h;obtain⟨u,rfl,rx⟩:=V7 r;cases rx;obtain⟨z,lo,vs,rel,dd⟩:=B5t I.hok e;obtain⟨ep,hat⟩:=dd.dictAt;have hh:=I.ok.hd hc;have ln:kvs.length=ns.length:=by have:=congrArg B3s hkeys;simpa using this
 have lv:vs.length=ns.length:=by rw[<-rel.length,ln]
 refine Calls.call_function_entry kind_sorted plain_sorted entry_sorted (args_sorted1 _) ?_;unfold Builtin.«sorted»;refine wpAny_bind (m:=checkCount "sorted" 1 1 _) (wpAny_pure ?_);refine wpAny_bind (D2z (A:=X.A.in1) (PySem.W.kdl_dict (knd:=S9 X.prog X.w) (kvs:=vs) (ep:=ep) lo) hh hat (by rw[<-rel.length];exact z) λh' tk acc hk ge hacc=>?_);have hl:acc.toList.length=vs.length:=by rw[A8r];exact hacc.1
 have hv:C6 (ns.map V.int) acc.toList:=C29 rel hkeys hl λj v hj=>by
  obtain⟨k,x,e1,e2⟩:=hacc.2 j v (by rw[<-B9q];exact hj);refine⟨k,x,e1,λi hi=>?_⟩;subst hi;have e2:A3a (Sum.inl i) v=true:=(C7s X.prog X.w (Sum.inl i) v).symm.trans e2;rcases A1p e2 with ⟨j,t,e3,e4⟩ | ⟨y,t,e3,_⟩
  ·cases e3;exact⟨t,e4⟩
  ·cases e3
 have hi:=C0y hv;have h64:acc.toList.length<64:=by rw[hl,lv];exact hn
 refine wpAny_bind (wpAny_newList ?_ (by rw[hl,<-rel.length];exact z));have hoL:(h'.push (seqObj "list" acc.toList.toArray 0)).get? h'.objs.size=some (seqObj "list" acc.toList.toArray 0):=R9 _ rfl;refine wpAny_bind (wpAny_holding (wpAny_call_entry slot_list_sort ⟨_,hoL,rfl⟩ entry_list_sort (list_sort_tree hoL hi h64 λout ms a1 a2 a3=>⟨_,rfl,?_⟩) (args_list_sort _)));refine wpAny_pure ⟨_,rfl,?_⟩;have hk2:∀b o,s.heap.get? b=some o->(sortedHeap (h'.push (seqObj "list" acc.toList.toArray 0)) h'.objs.size acc.toList out).get? b=some o:=λb o z=>by
  have z':=hk b o z;have lt:=G6 z';rw[sortedHeap_old (O0 lt) (by rw[size_push'];exact B9o lt)];exact M5 _ z'
 obtain⟨en,he⟩:=sortedHeap_at (out:=out) hoL;have hv2:C6 (ms.map V.int) out.toList:=B4h a1;refine⟨.ref h'.objs.size,_,I.laid (t':=tk) hk2 ge (show O7 X.prog X.w _ _ _ (.lst (ms.map V.int)) from ⟨?_,out.toList,en,hv2,by simpa [seqObj] using he⟩),rfl,q _ ms (I.hok.fresh ge) a2 a3⟩;rw[B6,a2.length_eq,sizeLine_eq];omega
theorem C3a:V5 X (.builtin "len") (λxs H Q=>∃a kvs,xs=[V.ref a]/\H a=some (.dK kvs)/\Q (.int kvs.length) H):=by
 intro pins s σ H xs us Q I r h;obtain⟨a,kvs,rfl,ha,q⟩:=h;obtain⟨u,rfl,ru⟩:=V7 r;cases ru;exact D2n I (.inl ha) λt s' I'=>⟨.int kvs.length,H,I',⟨t,rfl⟩,q⟩
theorem C3b:∀{ys:List Str}{us:List Value},C6 (ys.map V.str) us->StrsAre us ys
 | [],_,h=>by
  rw[A4l] at h;cases h;exact .nil
 | y::ys,_,h=>by
  rw[K9] at h;cases h with
  | cons r t=>obtain⟨k,rfl⟩:=(show ∃t,_=Value.str y t from r);exact .cons y k (C3b t)
def D20 (K:A8):V->List V->Hp->VK->Prop:=λx vs H Q=>∃c p ys,x=.str c/\vs=[.ref p]/\SqL K H p (ys.map V.str)/\(ys.map (λy=>y.length)).sum+ys.length*c.length<=16777216/\Q (.str (Txt.join c ys)) H
theorem A9r:MtM X "str.join" (D20 X.K):=by
 intro pins s σ H x vs v us Q I rx rv h;obtain⟨c,p,ys,rfl,rfl,hq,hz,q⟩:=h;obtain⟨u,rfl,ru⟩:=rv.one;obtain⟨t,rfl⟩:=rx;cases ru;obtain⟨its,r',pl,_⟩:=I.list hq;exact join_list pl.isList (by simpa using C3b r') hz λt' k=>⟨.str _,H,I.tok k,⟨_,rfl⟩,q⟩
def D21:V->List V->Hp->VK->Prop:=λx vs H Q=>∃a b,x=.str a/\vs=[.str b]/\Q (.bl (Txt.startswith a b)) H
theorem D22:MtM X "str.startswith" D21:=by
 intro pins s σ H x vs v us Q I rx rv h;obtain⟨a,b,rfl,rfl,q⟩:=h;obtain⟨u,rfl,ru⟩:=rv.one;obtain⟨t,rfl⟩:=rx;obtain⟨t',rfl⟩:=ru;exact SC.startswith ⟨.bl _,H,I,rfl,q⟩
theorem C3c:∀(k:Nat)(ys:List Str),C6 (ys.map V.str) (strsFrom k ys)
 | _,[]=>.nil
 | k,y::ys=>by
  rw[K9];exact .cons ⟨_,rfl⟩ (C3c (k+1) ys)
def D23:V->List V->Hp->VK->Prop:=λx vs H Q=>∃a b,x=.str a/\vs=[.str b]/\(b.length == 0)=false/\a.length<=1000000/\∀p,H p=none->Q (.ref p) (upd H p (.lst ((Txt.split a b).map V.str)))
theorem C3d:MtM X "str.split" D23:=by
 intro pins s σ H x vs v us Q I rx rv h;obtain⟨a,b,rfl,rfl,hb,hz,q⟩:=h;obtain⟨u,rfl,ru⟩:=rv.one;obtain⟨t,rfl⟩:=rx;obtain⟨t',rfl⟩:=ru;have hl:=(fact_split a b).2;have hs:=sizeLine_eq;by_cases c1:(decide (a.length<b.length)||decide (Builtin.Str.strKind a<Builtin.Str.strKind b))=true
 ·refine call_meets B3y rfl C7d (C7e _ _) (meets_str_split_cannot_occur a b t t' c1) ?_;have e:Txt.split a b=[a]:=by unfold Txt.split;rw[if_pos c1]
  rw[e] at q;exact⟨.ref _,_,I.lnew (ys:=[V.str a]) (its:=[.str a t]) (.cons ⟨_,rfl⟩ .nil) (by show 1<=sizeLine;rw[hs];decide),rfl,q _ I.fresh⟩
 ·have c1:(decide (a.length<b.length)||decide (Builtin.Str.strKind a<Builtin.Str.strKind b))=false:=by simpa using c1
  by_cases c2:(Builtin.Str.occurrences a b 0 a.length (a.length+1)).isEmpty=true
  ·refine call_meets B3y rfl C7d (C7e _ _) (meets_str_split_not_found a b t t' c1 hb c2) ?_;have e:Txt.split a b=[a]:=by unfold Txt.split;rw[if_neg (by rw[c1];exact P4),if_pos c2]
   rw[e] at q;exact⟨.ref _,_,I.lnew (ys:=[V.str a]) (its:=[.str a t]) (.cons ⟨_,rfl⟩ .nil) (by show 1<=sizeLine;rw[hs];decide),rfl,q _ I.fresh⟩
  ·have c2:(Builtin.Str.occurrences a b 0 a.length (a.length+1)).isEmpty=false:=by simpa using c2
   have e:Txt.split a b=Builtin.Str.partsBetween a (Builtin.Str.occurrences a b 0 a.length (a.length+1)) b.length:=by unfold Txt.split;rw[if_neg (by rw[c1];exact P4),if_neg (by rw[c2];exact P4)]
   have hl2:=hl;rw[e] at hl2;refine call_meets B3y rfl C7d (C7e _ _) (meets_str_split_sep a b t t' c1 hb c2 OO OO) ?_;rw[e] at q;exact⟨.ref _,_,I.lnew (C3c _ _) (by rw[B6];omega),rfl,q _ I.fresh⟩
inductive B5y:V->Str->Prop
 | txt (x:Str) (h:x.length<=sizeLine):B5y (.str x) x
 | num (i:Int) (h:i.natAbs.log2<1920):B5y (.int i) (toString i)
def B5z (t:TE):TE:=fun σ H Q=>t σ H λy H1=>∃x,B5y y x/\Q (.str x) H1
abbrev TJ:=St->Hp->Str->(Str->Hp->Prop)->Prop
def tJn:TJ:=λJ H acc Q=>Q acc H
def tJc (ta:TE)(tr:TJ):TJ:=fun σ H acc Q=>ta σ H λy H1=>∃x,y=.str x/\(acc++x).length<=sizeLine/\tr σ H1 (acc++x) Q
def tJs (t:TJ):TE:=fun σ H Q=>t σ H Str.empty λout H1=>out.length<=sizeLine/\Q (.str out) H1
theorem S2 {e:Expr}{t:TE}{pos:Pos}(h:PE X e t):PE X (.FormattedValue e (-1) none pos) (B5z t):=by
 intro pins s σ H Q I hq;refine wpAny_FormattedValue_plain (thn (h pins s σ H _ I hq) λv s1 zz=>el5 zz λy H1 I1 r1 q1=>?_);obtain⟨x,hs,q⟩:=q1;cases hs with
 | txt x hz=>obtain⟨t,rfl⟩:=r1;exact wpAny_formatField_str ⟨.str x,H1,I1,⟨_,rfl⟩,q⟩ ⟨.str x,H1,I1.tok _,⟨_,rfl⟩,q⟩ hz
 | num i hz=>obtain⟨t,rfl⟩:=r1;exact wpAny_formatField_int hz ⟨.str _,H1,I1.tok _,⟨_,rfl⟩,q⟩
def PJ (X:Cx)(es:List Expr)(t:TJ):Prop:=
 ∀(pins:List (Addr×Obj))(s:Shared)(σ:St)(H:Hp)(acc:Str)(Q:Str->Hp->Prop),Inv X pins σ H s->t σ H acc Q->Joins (model X.prog X.w) X.A X.xe (evalEach es X.env) acc (λout s1=>∃H1,Inv X pins σ H1 s1/\Q out H1) s
theorem Joins.mono {M:Model}{A:Around}{E:Value->Shared->Prop}:∀{ms:List (Sem Value)}{acc:Str}{Q Q':Str->Shared->Prop}{s:Shared},Joins M A E ms acc Q s->(∀a s,Q a s->Q' a s)->Joins M A E ms acc Q' s
 | [],_,_,_,_,h,k=>k _ _ h
 | _::_,_,_,_,_,h,k=>thn h λ_ _ ⟨y,t,e,z,r⟩=>⟨y,t,e,z,Joins.mono r k⟩
theorem A2u:PJ X [] tJn:=λJ J J H J J I h=>⟨H,I,h⟩
theorem K1 {e:Expr}{es:List Expr}{ta:TE}{tr:TJ}(ha:PE X e ta)(hr:PJ X es tr):PJ X (e::es) (tJc ta tr):=by
 intro pins s σ H acc Q I h;show wpAny _ _ (eval e X.env) _ _ s;refine thn (ha pins s σ H _ I h) λv s1 zz=>el5 zz λy H1 I1 r1 q1=>?_;obtain⟨x,rfl,hz,q⟩:=q1;obtain⟨t,rfl⟩:=r1;exact⟨x,t,rfl,hz,hr pins s1 σ H1 _ Q I1 q⟩
theorem A2v {e1 e2:Expr}{es:List Expr}{t:TJ}{pos:Pos}(h:PJ X (e1::e2::es) t):PE X (.JoinedStr (e1::e2::es) pos) (tJs t):=by
 intro pins s σ H Q I hq;refine wpAny_JoinedStr (Joins.mono (h pins s σ H _ _ I hq) λout s1 zz=>?_);obtain⟨H1,I1,z,q⟩:=zz;exact⟨z,.str out,H1,I1.tok _,⟨_,rfl⟩,q⟩
theorem C3e:V5 X (.type "int") (λxs H Q=>∃x n,xs=[.str x]/\PySem.intText? x=some n/\x.length<=640/\Q (.int n) H):=by
 intro pins s σ H xs us Q I r h;obtain⟨x,n,rfl,hn,hz,q⟩:=h;obtain⟨u,rfl,t,rfl⟩:=V7 r;exact PySem.W.KIN.call_text hn hz ⟨.int n,H,I.tok _,⟨_,rfl⟩,q⟩
def Its (x:Str):It:=⟨λi J=>i<x.cps.size,λi H y H'=>H'=H/\∃c,x.cps[i]?=some c/\y=.str ⟨#[c]⟩,λi J=>x.cps.size<=i⟩
theorem C3f {P:Program}{w:World}{K:A8}{tg:Expr}{ty:String}{x:Str}{t:Tok}(it:Addr)
  (W:∀A:Around,A.handled=none->Walks P w A it [it] [it] x.cps.size (SignAt x) (λi h=>h.IsStrIter it ty x t i))
  (hn:["enumerate","zip","dict_itemiterator","dict_reverseitemiterator","odict_iterator","itertools.zip_longest","itertools.pairwise"].contains ty=false)
  (hd:∀(A:Around),A.handled=none->∀(s:Shared)(i:Nat)(E:Value->Shared->Prop)(Q:Option Value->Shared->Prop),s.heap.IsStrIter it ty x t i->x.cps.size<=i->(∀h',Heap.ExtBut it s.heap h'->Q none { s with heap:=h' })->wpAny (model P w) A (pyNext (.ref it)) Q E s)
  (hs:∀(A:Around)(i:Nat)(s:Shared)(Q:Value->Shared->Prop)(E:Value->Shared->Prop),s.heap.IsStrIter it ty x t i->Q (.ref it) s->wpAny (model P w) A (pyIter (.ref it)) Q E s) :
  A3f P w K tg (Its x) [it] it (λi h=>h.IsStrIter it ty x t i) where
 mem:=by simp
 obj:=λi h st b hb=>by
  have e:b=it:=by simpa using hb
  subst e;obtain⟨o,e,c,d⟩:=st;exact⟨o,e,λv z=>by rw[d] at z;cases z⟩
 keep:=λi h h' st k=>let ⟨o,e,r⟩:=st;⟨o,k it (by simp) o e,r⟩
 item:=by
  intro X hP hw hK hc i pins s σ H E I hf st hg;subst hP hw hK;obtain⟨f0,f1,f2,f3,f4,f5⟩:=hf it (by simp);refine (W X.A (I.ok.hd hc)).item i s _ _ hg st λv h' tk hv st' kk=>?_;obtain⟨c,u,hx,rfl⟩:=hv;have I1:Inv X pins σ H { s with heap:=h',toks:=tk }:=I.turned (λb o hb e=>kk b o (by simpa using hb) e) f0 f1 f3 f4 f5;obtain⟨o,e,cc,d⟩:=id st';exact⟨_,rfl,B04 (s:={ s with heap:=h',toks:=tk }) e cc d hn ⟨.str ⟨#[c]⟩,H,I1,⟨u,rfl⟩,⟨rfl,c,hx,rfl⟩,st',λb hb=>(hf b hb).1⟩⟩
 done:=by
  intro X hP hw hK hc i pins s σ H E I hf st hg;subst hP hw hK;obtain⟨f0,f1,f2,f3,f4,f5⟩:=hf it (by simp);exact hd X.A (I.ok.hd hc) s i E _ st hg λh' eb=>⟨rfl,I.turned (t':=s.toks) (λb o hb e=>eb b o hb e) f0 f1 f3 f4 f5⟩
 self:=λA i s Q E st h=>hs A i s Q E st h
section
variable {tg:Expr}
def D24 (tl:TE):TI:=fun σ H R=>tl σ H λx H1=>∃y,x=.str y/\R (Its y) H1
theorem D25 {l:Expr}{tl:TE}(hl:PE X l tl):PI X tg l (D24 tl):=by
 intro pins s σ H R I h;refine thn (hl pins s σ H _ I h) λv s1 zz=>el5 zz λx H1 I1 r1 q1=>?_;obtain⟨y,rfl,q⟩:=q1;obtain⟨t,rfl⟩:=r1;have fp:∀b∈[s1.heap.objs.size],b6 X pins H1 b:=λb hb=>by
  have e:b=s1.heap.objs.size:=by simpa using hb
  subst e;exact I1.fpOk (E8 _) (I1.hok.fresh (E8 _))
 cases ha:y.cps.all (· < 128)
 ·exact wpAny_pyIter_wide ha ⟨s1.heap.objs.size,[s1.heap.objs.size],_,_,H1,rfl,I1.kept (t':=s1.toks) λb o e=>M5 _ e,
   C3f (t:=t) _ (λA hA=>Walks.strWide hA _ y t) DD (λA hA s i E Q st hi k=>wpAny_pyNext_wide_end hA st (Array.getElem?_eq_none hi) k) (λA i s Q E st h=>wpAny_pyIter_striter_wide st h),⟨_,R9 _ rfl,rfl,rfl⟩,fp,q⟩
 ·exact wpAny_pyIter_ascii ha ⟨s1.heap.objs.size,[s1.heap.objs.size],_,_,H1,rfl,I1.kept (t':=s1.toks) λb o e=>M5 _ e,
   C3f (t:=t) _ (λA hA=>Walks.strAscii hA _ y t) DD (λA hA s i E Q st hi k=>wpAny_pyNext_ascii_end hA st (Array.getElem?_eq_none hi) k) (λA i s Q E st h=>wpAny_pyIter_striter_ascii st h),⟨_,R9 _ rfl,rfl,rfl⟩,fp,q⟩
def D26:V->Option Int->Option Int->Hp->VK->Prop:=λx lo hi H Q=>∃y,x=.str y/\y.length<=sizeLine/\Q (.str (Txt.slice y lo hi)) H
theorem D27:SlR X D26:=by
 intro pins s σ H x v vl vu lo hi sl Q I rx hs pl pu h;obtain⟨y,rfl,hz,q⟩:=h;obtain⟨t,rfl⟩:=rx;have fin:∀t' k,EP X pins σ Q (.str (Txt.slice y lo hi) t') { s with toks:=k }:=λt' k=>⟨.str _,H,I.tok k,⟨_,rfl⟩,q⟩;refine⟨"str",_,F.slot_str_getitem.lookup,typeIs_str _ _ _,?_⟩;cases pl with
 | none=>
  cases pu with
  | none=>exact wpAny_getItem_str_slice (l:=none) (u:=none) (st:=none) hs rfl (post_val_or_str ⟨J1 (Txt.slice_le y _ _) hz,λt' k=>fin t' k⟩)
  | int j uj=>exact wpAny_getItem_str_slice (l:=none) (u:=some (j,uj)) (st:=none) hs rfl (post_val_or_str ⟨J1 (Txt.slice_le y _ _) hz,λt' k=>fin t' k⟩)
 | int i ui=>
  cases pu with
  | none=>exact wpAny_getItem_str_slice (l:=some (i,ui)) (u:=none) (st:=none) hs rfl (post_val_or_str ⟨J1 (Txt.slice_le y _ _) hz,λt' k=>fin t' k⟩)
  | int j uj=>exact wpAny_getItem_str_slice (l:=some (i,ui)) (u:=some (j,uj)) (st:=none) hs rfl (post_val_or_str ⟨J1 (Txt.slice_le y _ _) hz,λt' k=>fin t' k⟩)
end
structure FnB (P:Program)(w:World)(K:A8)(mg:Str->Option Value)(base:Heap)(CX:CXT)(k:Nat)(a:Addr)(sp:Sp):Prop where
 go:∃j fd ps,j<=k/\B8 P w K mg base CX j a fd ps sp/\A6p K (.ref a)=true/\y8 K fd ps []
def D28 (S:Addr->Sp->Prop)(E:XK)(tf:TE)(t:TA):TE:=fun σ H Q=>tf σ H λv H1=>∃a sp,v=.ref a/\S a sp/\t σ H1 λvs H2=>sp vs H2 Q E
def KDt (P:Program)(w:World)(K:A8)(a:Addr)(kvs:List (Key×V)):Prop:=(a == sysModules)=false/\∃o vs,K.lookup a=some o/\KV kvs vs/\o.IsDictOf (S9 P w) vs
def D29 (P:Program)(w:World)(K:A8)(td ty:TE):TE:=fun σ H Q=>td σ H λx H1=>ty σ H1 λy H2=>∃a kvs k v,x=.ref a/\KDt P w K a kvs/\y=kV k/\S6 kvs k=some v/\Q v H2
def D3a (P:Program)(w:World)(K:A8)(td ty:TE):TE:=fun σ H Q=>td σ H λx H1=>∃a kvs,x=.ref a/\KDt P w K a kvs/\ty σ H1 λy H2=>∃k,y=kV k/\Q ((S6 kvs k).getD .non) H2
section
variable {CX:CXT}{k:Nat}{E:XK}{o i e:Expr}{es:List Expr}{pos p cpos apos:Pos}{td ty tf:TE}{t:TA}
theorem KDt.at {pins:List (Addr×Obj)}{σ:St}{H:Hp}{s:Shared}{a:Addr}{kvs:List (Key×V)}(h:KDt X.prog X.w X.K a kvs)(I:Inv X pins σ H s):(a == sysModules)=false/\∃vs,KV kvs vs/\s.heap.DictOf (S9 X.prog X.w) a vs:=by
 obtain⟨h0,ob,vs,h1,h2,h3⟩:=h;exact⟨h0,vs,h2,Heap.dictOf_iff.mpr ⟨ob,I.kIn _ _ h1,h3⟩⟩
theorem D3b (ho:PE X o td)(hi:PE X i ty)(hs:B5v i):PE X (.Subscript o i pos) (D29 X.prog X.w X.K td ty):=by
 intro pins s σ H Q I h;refine C25 PySem.F.slot_dict_getitem.lookup hs (thn (ho pins s σ H _ I h) λu s1 zw12=>el5 zw12 λx H1 I1 rx q1=>thn (hi pins s1 σ H1 _ I1 q1) λiv s2 zw13=>el5 zw13 λy H2 I2 ry qw13=>?_);obtain⟨a,kvs,k,v,ex,g,ek,l,q2⟩:=qw13;subst ex;obtain rfl:u=Value.ref a:=rx;obtain⟨hd,vs,rel,dd⟩:=g.at I2;subst ek;obtain⟨w',hw,rw'⟩:=U3.some_of (v:=v) (o:=valueAt vs k) (by rw[<-l];exact rel.val k);exact⟨dd.typeIs,wpAny_getItem_of (A31 ry) dd.mapOf hw ⟨v,H2,I2.tok _,rw',q2⟩⟩
theorem D3c (ho:PE X o td)(he:PE X e ty)(m:M1 X o "get" apos e cpos):PE X (.Call (.Attribute o "get" apos) [e] [] cpos) (D3a X.prog X.w X.K td ty):=by
 intro pins s σ H Q I h;refine wpAny_Call_method m.base m.few m.line PySem.F.plainAttrs_dict PySem.F.slot_dict_get PySem.F.type_dict_get (thn (ho pins s σ H _ I h) λu s1 zw14=>el5 zw14 λx H1 I1 rx qw14=>?_);obtain⟨a,kvs,ex,g,q1⟩:=qw14;subst ex;obtain rfl:u=Value.ref a:=rx;obtain⟨_,_,_,d1⟩:=g.at I1;refine⟨d1.typeIs,λb q=>?_,?_⟩
 ·cases q;obtain⟨ob,_,_,h1,h2,_⟩:=d1;exact⟨ob,h1,h2.2.1⟩
 rw[m.trees];refine Calls.callWith_builtin rfl (Calls.evalArgs_plain (Calls.spliced_cons (thn (he pins s1 σ H1 _ I1 q1) λiv s2 zw15=>el5 zw15 λy H2 I2 ry qw15=>Calls.spliced_nil ?_)));obtain⟨k,ek,q2⟩:=qw15;subst ek;obtain⟨hd,vs,rel,dd⟩:=g.at I2;refine call_meetsIn PySem.F.slot_dict_get dd.typeIs PySem.F.entry_dict_get (PySem.F.args_dict_get_2 _ _) (meets_dict_get (S9 X.prog X.w) a (A31 ry) hd) ⟨_,dd.mapOf,?_⟩;have rv:E1 ((S6 kvs k).getD .non) ((valueAt vs k).getD Value.none):=(rel.val k).getD rfl;exact⟨_,H2,I2.tok _,rv,q2⟩
theorem D3d (a i:Expr)(p:Pos)(args:List Expr)(kws:List Keyword)(pos:Pos)(env:Env):eval (.Call (.Subscript a i p) args kws pos) env=(do
  callWith pos (<-eval (.Subscript a i p) env) [] (backTo pos (starEach args env)) (backToKw pos (keywordEach kws env))):=rfl
theorem D3e {S:Addr->Sp->Prop}(hf:PE X (.Subscript o i p) tf)(hr:P8 k X.A)(G:∀a sp,S a sp->FnB X.prog X.w X.K X.mg X.base CX k a sp)(hx:A2i CX X E)
  (ha:PA X (e::es) t) (he:autoParam (starEach (e::es) X.env=(false,eval e X.env)::starEach es X.env) RF._auto_1) (hpl:autoParam ((backTo pos (starEach es X.env)).any (·.1)=false) RF._auto_1) :
  PE X (.Call (.Subscript o i p) (e::es) [] pos) (D28 S E tf t):=by
 intro pins s σ H Q I h;rw[D3d];refine wpAny_bind (thn (hf pins s σ H _ I h) λu s1 zz=>?_);obtain⟨x,H1,I1,rx,a,sp,ex,hS,q⟩:=zz;subst ex;obtain rfl:u=Value.ref a:=rx;obtain⟨j,fd,ps,hj,F,hk,hb⟩:=(G a sp hS).go;refine B9i (h₀:=X.base) I1.ok.mod.kin hk (thn (ha pos pins s1 σ H1 _ I1 q) λus s2 zz=>el5 zz λvs H2 I2 r q=>⟨I2.kIn,?_⟩) he hpl;exact B1b F (hr.mono hj) hb .nil hx I2 r (by rw[X5];exact q)
end
def A13 (w:World):List DictEntry->List (Str×V)->Prop
 | [],[]=>True
 | e::es,q::r=>e.hash=hashStr w q.1/\(∃t,e.key=.str q.1 t)/\E1 q.2 e.val/\A13 w es r
 | _,_=>False
abbrev A33 (q:Str×V):Key×V:=(.inr q.1,q.2)
theorem A13.keys {P:Program}{w:World}:∀{es:List DictEntry}{r:List (Str×V)},A13 w es r->∀e∈es,∃k,(S9 P w).is k e.key=true/\e.hash=(S9 P w).hash k
 | [],_,_,_,h=>by cases h
 | e::es,[],h,_,_=>h.elim
 | e::es,q::r,h,x,hx=>by
  rcases G1.mp hx with rfl | hx
  ·obtain⟨h1,⟨t,h2⟩,_⟩:=h;exact⟨.inr q.1,by rw[h2];exact B32 P w q.1 t,h1⟩
  ·exact A13.keys h.2.2.2 x hx
theorem A13.pairs {P:Program}{w:World}:∀{es:List DictEntry}{r:List (Str×V)},A13 w es r->∃vs,KV (r.map A33) vs/\Pairs (S9 P w) es vs/\vs.map (·.1)=r.map λq=>Sum.inr q.1
 | [],[],_=>⟨[],.nil,.nil,rfl⟩
 | [],_::_,h=>h.elim
 | e::es,[],h=>h.elim
 | e::es,q::r,h=>by
  obtain⟨h1,⟨t,h2⟩,h3,h4⟩:=h;obtain⟨vs,a,b,c⟩:=A13.pairs (P:=P) h4;exact⟨(.inr q.1,e.val)::vs,.cons ⟨rfl,h3⟩ a,.cons (by rw[h2];exact B32 P w q.1 t) rfl b,by rw[K9,K9,c]⟩
theorem KDt.of {P:Program}{w:World}{K:A8}{a:Addr}{es:Array DictEntry}{ep:Nat}{r:List (Str×V)}(h:K.lookup a=some ⟨.type "dict",none,.dict es ep,#[]⟩)(e:A13 w es.toList r)(h0:(a == sysModules)=false)
  (nd:(r.map (·.1)).Nodup):KDt P w K a (r.map A33):=by
 obtain⟨vs,a1,b1,c1⟩:=e.pairs (P:=P);refine⟨h0,_,vs,h,a1,es,ep,⟨rfl,rfl,rfl⟩,rfl,λx hx=>e.keys x (Array.mem_toList_iff.mpr hx),b1,?_⟩;rw[c1];have:(r.map λq=>(Sum.inr q.1:Key))=(r.map (·.1)).map Sum.inr:=by rw[N6];rfl
 rw[this];exact List.Pairwise.map _ (λJ J n e=>n (Sum.inr.inj e)) nd
def A9s (w:World)(K:A8):List DictEntry->List (Str×(Int ⊕ Str))->Prop
 | [],[]=>True
 | e::es,q::r=>e.hash=hashStr w q.1/\(∃t,e.key=.str q.1 t)/\(match q.2 with | .inl i=>∃t,e.val=.int i t | .inr x=>∃f,e.val=.ref f/\A1o K mainGlobals x=some (some (.ref f)))/\A9s w K es r
 | _,_=>False
def B50 (mg:Str->Option Value):List (Str×(Int ⊕ Str))->List (Str×V)->Prop
 | [],[]=>True
 | p::ps,q::r=>p.1=q.1/\(match p.2 with | .inl i=>q.2=.int i | .inr x=>∃a,q.2=.ref a/\mg x=some (.ref a))/\B50 mg ps r
 | _,_=>False
theorem A9s.to {w:World}{K:A8}{mg:Str->Option Value}{h:Heap}(X:K.In h)(G:h.Ns mainGlobals mg):∀{es:List DictEntry}{ps:List (Str×(Int ⊕ Str))}{r:List (Str×V)},A9s w K es ps->B50 mg ps r->A13 w es r
 | [],[],[],_,_=>trivial
 | [],[],_::_,_,m=>m.elim
 | [],_::_,_,e,_=>e.elim
 | _::_,[],_,e,_=>e.elim
 | _::_,_::_,[],_,m=>m.elim
 | e::es,p::ps,q::r,⟨e1,e2,e3,e4⟩,⟨m1,m2,m3⟩=>by
  refine⟨by rw[<-m1];exact e1,by rw[<-m1];exact e2,?_,A9s.to X G e4 m3⟩;cases hp:p.2 with
  | inl i=>rw[hp] at e3 m2;obtain⟨t,e3⟩:=e3;rw[show q.2=.int i from m2,e3];exact⟨t,rfl⟩
  | inr x=>rw[hp] at e3 m2;obtain⟨f,e3,e5⟩:=e3;obtain⟨a,m2,m4⟩:=m2;rw[m2,e3];have:=A2a X G e5;rw[m4] at this;cases this;rfl
def KDN (w:World)(K:A8)(c:Addr)(ps:List (Str×(Int ⊕ Str))):Prop:=(c == sysModules)=false/\∃es ep,K.lookup c=some ⟨.type "dict",none,.dict es ep,#[]⟩/\A9s w K es.toList ps
def KDH (w:World)(K:A8)(c:Addr)(r:List (Str×V)):Prop:=(c == sysModules)=false/\∃es ep,K.lookup c=some ⟨.type "dict",none,.dict es ep,#[]⟩/\A13 w es.toList r
theorem KDN.to {w:World}{K:A8}{mg:Str->Option Value}{h:Heap}{c:Addr}{ps:List (Str×(Int ⊕ Str))}{r:List (Str×V)}(X:K.In h)(G:h.Ns mainGlobals mg)(k:KDN w K c ps)(m:B50 mg ps r):KDH w K c r:=by
 obtain⟨h0,es,ep,hl,e⟩:=k;exact⟨h0,es,ep,hl,e.to X G m⟩
theorem KDH.at {P:Program}{w:World}{K:A8}{c:Addr}{r:List (Str×V)}(k:KDH w K c r)(nd:(r.map (·.1)).Nodup):KDt P w K c (r.map A33):=by
 obtain⟨h0,es,ep,hl,e⟩:=k;exact KDt.of hl e h0 nd
def KTH (K:A8)(c:Addr)(xs:List V):Prop:=∃(o:Obj)(its:Array Value)(n:Nat),K.lookup c=some o/\o.cls=.type "tuple" /\o.data=.seq its n/\its.size<=sizeLine/\C6 xs its.toList
theorem KTH.at {K:A8}{c:Addr}{xs:List V}(k:KTH K c xs)(H:Hp):SqT K H c xs:=.inr k
theorem C3g:V5 X (.type "str") (λxs H Q=>(∃i,xs=[.int i]/\i.natAbs.log2<1920/\Q (.str (toString i)) H)\/∃x,xs=[.str x]/\Q (.str x) H):=by
 intro pins s σ H xs us Q I r h;rcases h with h | ⟨x,rfl,q⟩
 ·exact A2h pins s σ H xs us Q I r h
 ·obtain⟨u,rfl,t,rfl⟩:=V7 r;exact PySem.P.str_of_str ⟨.str x,H,I,⟨t,rfl⟩,q⟩
def D3f:R2:=λx y H Q=>∃a b,x=.str a/\y=.str b/\a.length+b.length<=16777216/\Q (.str (a++b)) H
theorem B18:OpR X (binaryOp .Add) D3f:=by
 intro pins s σ H x y v u Q I rx ry h;obtain⟨a,b,rfl,rfl,hz,q⟩:=h;obtain⟨t,rfl⟩:=rx;obtain⟨t',rfl⟩:=ry;exact PySem.W.KXadd.add (E8 _) (E8 _) hz λt2 k J=>⟨.str (a++b),H,I.tok _,⟨t2,rfl⟩,q⟩
theorem D3g:V5 X (.type "str") (λxs H Q=>(∃i,xs=[.int i]/\i.natAbs.log2<1920/\Q (.str (toString i)) H)\/xs=[.non]/\Q (.str "None") H):=by
 intro pins s σ H xs us Q I r h;rcases h with h | ⟨rfl,q⟩
 ·exact A2h pins s σ H xs us Q I r h
 ·obtain⟨u,rfl,hu⟩:=V7 r;cases hu;exact PySem.P.str_of_none ⟨.str _,H,I.tok _,⟨_,rfl⟩,q⟩
theorem A1b {n:Int}(h:n.natAbs<10^60):n.natAbs.log2<1920:=by
 by_cases z:n.natAbs=0
 ·rw[z];decide
 ·exact (Nat.log2_lt z).mpr (Q7 h KK)
end Lake
namespace Tactic
open PySem Lake
abbrev cp (x:Str):List Nat:=x.cps.toList
theorem B19 {x y:Str}(h:cp x=cp y):x=y:=Str.ext' (Array.toList_inj.mp h)
theorem A1c (x y:Str):cp (x++y)=cp x++cp y:=Array.toList_append
theorem V0 (x:Str):x.length=(cp x).length:=rfl
theorem C3h (s:String):cp (Str.ofString s)=s.toList.map A2b:=PyProof.Rows.signs_ofString s
def jn:List Str->List Nat
 | []=>[]
 | w::r=>cp w++(if r.isEmpty then [] else 32::jn r)
theorem t8 (w v:Str)(r:List Str):jn (w::v::r)=cp w++32::jn (v::r):=rfl
theorem g7 (w:Str):jn [w]=cp w:=X5 _
theorem B51:∀ws:List Str,cp (Str.join " " ws)=jn ws
 | []=>rfl
 | [w]=>(g7 w).symm
 | w::v::r=>by
  show cp (w++(Str.ofString " ")++Str.join " " (v::r))=_;rw[A1c,A1c,B51 (v::r),t8,m5];rfl
theorem C3i {c:Nat}:∀{a b x y:List Nat},c∉a->c∉b->a++c::x=b++c::y->a=b/\x=y
 | [],[],_,_,_,_,h=>⟨rfl,(a9.inj h).2⟩
 | [],q::b,_,_,_,hb,h=>absurd (a9.inj h).1 λe=>hb (e▸D6)
 | p::a,[],_,_,ha,_,h=>absurd (a9.inj h).1 λe=>ha (e▸D6)
 | p::a,q::b,_,_,ha,hb,h=>by
  obtain⟨e,t⟩:=a9.inj h;obtain⟨e1,e2⟩:=C3i (λz=>ha (C8 _ z)) (λz=>hb (C8 _ z)) t;exact⟨by rw[e,e1],e2⟩
def A6d (ws:List Str):Prop:=∀w∈ws,32∉cp w
theorem A6d.tl {w:Str}{ws:List Str}(h:A6d (w::ws)):A6d ws:=λv hv=>h v (C8 _ hv)
theorem C3j:∀{ws vs:List Str},ws≠[]->vs≠[]->A6d ws->A6d vs->jn ws=jn vs->ws=vs
 | [],_,h,_,_,_,_=>absurd rfl h
 | _,[],_,h,_,_,_=>absurd rfl h
 | [w],[v],_,_,_,_,h=>by rw[g7,g7] at h;rw[B19 h]
 | [w],v::v2::r,_,_,f,_,h=>by
  rw[g7,t8] at h;exact absurd (h▸Y8 _ D6:32∈cp w) (f w D6)
 | w::w2::r,[v],_,_,_,g,h=>by
  rw[g7,t8] at h;exact absurd (h▸Y8 _ D6:32∈cp v) (g v D6)
 | w::w2::r,v::v2::q,_,_,f,g,h=>by
  rw[t8,t8] at h;obtain⟨e1,e2⟩:=C3i (f w D6) (g v D6) h;rw[B19 e1,C3j (by simp) (by simp) f.tl g.tl e2]
theorem D3h {x:Str}{ws:List Str}(hne:ws≠[])(f:A6d ws)(h:cp x=jn ws):Txt.split x " " = ws:=by
 have h1:=StrLaws.join_split x " ";have h2:A6d (Txt.split x " "):=StrLaws.split_free x 32;have h3:Txt.split x " " ≠[]:=by
  unfold Txt.split;split
  ·simp
  ·split
   ·simp
   ·rw[StrLaws.partsBetween_eq];obtain⟨p,r,e⟩:=StrLaws.partsFrom_ne x (Str.length " ") 0 (Builtin.Str.occurrences x " " 0 x.length (x.length+1));rw[e];simp
 refine C3j h3 hne h2 f ?_;rw[<-B51,h1,h]
def g8 (c:Nat):Bool:=decide (48<=c)&&decide (c<=57)
def Y4 (l:List Nat):Bool:=decide (1<=l.length)&&decide (l.length<=60)&&l.all g8&&(decide (l=[48])||decide (l.head?≠some 48))
def nmL (l:List Nat):Bool:=if l.head?=some 45 then Y4 l.tail&&decide (l.tail≠[48]) else Y4 l
def A0p (x:Str):Bool:=nmL (cp x)
def A79 (x:Str):Int:=(intText? x).getD 0
theorem D3i {l:List Nat}(h:l.all g8=true):NumText.AllDigits l:=λc hc=>by
 have:=B9m.mp h c hc;simp only[g8,X6,decide_eq_true_eq] at this;exact this
theorem A34 {l:List Nat}(h:Y4 l=true):1<=l.length/\l.length<=60/\NumText.AllDigits l/\(l=[48]\/l.head?≠some 48):=by
 simp only[Y4,X6,A8v,decide_eq_true_eq] at h;exact⟨h.1.1.1,h.1.1.2,D3i h.1.2,h.2⟩
theorem B52 {x:Str}(h:A0p x=true):intText? x=some (A79 x)/\x.length<=61:=by
 unfold A0p nmL at h;by_cases c:(cp x).head?=some 45
 ·rw[if_pos c] at h;obtain⟨a,b,d,_⟩:=A34 (C7f.mp h).1;cases e:cp x with
  | nil=>rw[e] at c;cases c
  | cons k r=>
   rw[e] at c a b d;cases c;have hl:x.length<=61:=by rw[V0,e];simp at b ⊢;omega
   have:=intText_neg e d (λz=>by rw[z] at a;simp at a) (OO);exact⟨by unfold A79;rw[this];rfl,hl⟩
 ·rw[if_neg c] at h;obtain⟨a,b,d,_⟩:=A34 h;have hl:x.length<=60:=b;have:=intText_digits d (λz=>by rw[show cp x=[] from z] at a;simp at a) (OO);exact⟨by unfold A79;rw[this];rfl,OO⟩
def itx (n:Int):Str:=Str.ofString (toString n)
theorem A0c (m:Nat):cp (itx (m:Int))=(X7 10 m).map A2b:=PySem.W.KIN.signs_num m
theorem B53 (m:Nat)(h:0<m):cp (itx (-(m:Int)))=45::cp (itx (m:Int)):=by
 obtain⟨k,rfl⟩:∃k,m=k+1:=⟨m-1,OO⟩;unfold itx;rw[C3h,C3h];show (("-" ++Nat.repr (k+1):String).toList.map A2b)=45::(Nat.repr (k+1)).toList.map A2b;rw[String.toList_append,Q3];rfl
theorem A9t (m:Nat):NumText.AllDigits ((X7 10 m).map A2b):=λc hc=>by
 obtain⟨ch,hch,e⟩:=M9.mp hc;have r:=PyProof.Rows.digit_range (Nat.isDigit_of_mem_toDigits DD DD hch);rw[<-e];exact r
theorem C3k (m:Nat):∀k,1<=k->m<10^k->(X7 10 m).length<=k:=by
 induction m using Nat.strongRecOn with
 | _ m ih=>
  intro k hk h;by_cases c:m<10
  ·rw[B3z c];simpa using hk
  ·have hm:m%10<10:=Nat.mod_lt m (DD);have t:X7 10 (m/10)++X7 10 (m%10)=X7 10 (10*(m/10)+m%10):=C7g DD OO hm;rw[Nat.div_add_mod] at t;have k2:2<=k:=by
    by_cases z:k=1
    ·subst z;simp at h;omega
    ·omega
   have:=ih (m/10) OO (k-1) OO (by
    obtain⟨j,rfl⟩:∃j,k=j+1:=⟨k-1,OO⟩;rw[Nat.pow_succ] at h;simp only[Nat.add_sub_cancel];omega)
   rw[<-t,S8,B3z hm];simp;omega
theorem B54 (m:Nat):1<=(X7 10 m).length:=by
 by_cases c:m<10
 ·rw[B3z c];simp
 ·have hm:m%10<10:=Nat.mod_lt m (DD);have t:X7 10 (m/10)++X7 10 (m%10)=X7 10 (10*(m/10)+m%10):=C7g DD OO hm;rw[Nat.div_add_mod] at t;rw[<-t,S8,B3z hm];simp
theorem C3l (m:Nat):0<m->((X7 10 m).map A2b).head?≠some 48:=by
 induction m using Nat.strongRecOn with
 | _ m ih=>
  intro h;by_cases c:m<10
  ·rw[B3z c];have:∀d:Nat,d<10->0<d->[(Nat.digitChar d).toNat].head?≠some 48:=by decide
   exact this m c h
  ·have hm:m%10<10:=Nat.mod_lt m (DD);have t:X7 10 (m/10)++X7 10 (m%10)=X7 10 (10*(m/10)+m%10):=C7g DD OO hm;rw[Nat.div_add_mod] at t;have:=ih (m/10) OO (OO);rw[<-t,Q3];cases e:(X7 10 (m/10)).map A2b with
   | nil=>have:=B54 (m/10);rw[B9w.mp e] at this;simp at this
   | cons a r=>rw[e] at this;exact this
theorem C3m {l:List Nat}(h:NumText.AllDigits l):l.all g8=true:=B9m.mpr λc hc=>by
 have:=h c hc;simp only[g8,X6,decide_eq_true_eq];exact this
theorem C3n {m:Nat}(h:m<10^60):Y4 (cp (itx (m:Int)))=true:=by
 rw[A0c];unfold Y4;simp only[X6,A8v,decide_eq_true_eq,B6];refine⟨⟨⟨B54 m,C3k m 60 DD h⟩,C3m (A9t m)⟩,?_⟩;by_cases z:m=0
 ·subst z;exact .inl (DD)
 ·exact .inr (C3l m OO)
theorem D3j {m:Nat}:(cp (itx (m:Int))).head?≠some 45:=by
 rw[A0c];intro h;cases e:(X7 10 m).map A2b with
 | nil=>rw[e] at h;cases h
 | cons a r=>rw[e] at h;cases h;have:=A9t m 45 (by rw[e];exact D6);omega
theorem A8a {n:Int}(h:n.natAbs<10^60):A0p (itx n)=true:=by
 rcases Int.le_total 0 n with h0 | h0
 ·obtain⟨m,rfl⟩:=B3v h0;unfold A0p nmL;rw[if_neg D3j];exact C3n (by simpa using h)
 ·obtain⟨m,e⟩:=B3v (show 0<=-n by omega);by_cases z:m=0
  ·have:n=((0:Nat):Int):=by omega
   subst this;decide
  have en:n=-(m:Int):=by omega
  subst en;unfold A0p nmL;rw[B53 m OO,if_pos (show (45::cp (itx (m:Int))).head?=some 45 from rfl)];rw[A8z];refine C7f.mpr ⟨C3n (by simpa using h),decide_eq_true λz2=>?_⟩;have:=C3l m (OO);rw[A0c] at z2;rw[z2] at this;exact this rfl
theorem D3k {n:Int}(h:n.natAbs<10^60):intText? (itx n)=some n:=by
 have hl:∀m:Nat,m<10^60->((X7 10 m).map A2b).length<=60:=λm hm=>by
  rw[B6];exact C3k m 60 DD hm
 have hn:∀m:Nat,(X7 10 m).map A2b≠[]:=λm z=>by
  have:=B54 m;rw[B9w.mp z] at this;simp at this
 rcases Int.le_total 0 n with h0 | h0
 ·obtain⟨m,rfl⟩:=B3v h0;have hm:m<10^60:=by simpa using h
  have l1:(itx (m:Int)).length<=60:=by rw[V0,A0c];exact hl m hm
  have:=intText_digits (x:=itx (m:Int)) (by rw[<-cp,A0c];exact A9t m) (by rw[<-cp,A0c];exact hn m) (OO);rw[this,<-cp,A0c,C7h]
 ·obtain⟨m,e⟩:=B3v (show 0<=-n by omega);by_cases z:m=0
  ·have:n=((0:Nat):Int):=by omega
   subst this;have:=intText_digits (x:=itx ((0:Nat):Int)) (by rw[<-cp,A0c];exact A9t 0) (by rw[<-cp,A0c];exact hn 0) (by rw[V0,A0c];decide);rw[this,<-cp,A0c,C7h]
  have en:n=-(m:Int):=by omega
  subst en;have hm:m<10^60:=by simpa using h
  have l1:(itx (-(m:Int))).length<=61:=by rw[V0,B53 m OO,A0c];have:=hl m hm;rw[K4];omega
  have:=intText_neg (x:=itx (-(m:Int))) (cs:=(X7 10 m).map A2b) (by rw[<-cp,B53 m OO,A0c]) (A9t m) (hn m) (OO);rw[this,C7h]
theorem B55 {n:Int}(h:n.natAbs<10^60):A79 (itx n)=n:=by unfold A79;rw[D3k h];rfl
theorem W3 {n:Int}(h:n.natAbs<10^60):(itx n).length<=61:=(B52 (A8a h)).2
theorem D3l {x:Str}(h:A0p x=true):32∉cp x:=by
 unfold A0p nmL at h;by_cases c:(cp x).head?=some 45
 ·rw[if_pos c] at h;obtain⟨_,_,d,_⟩:=A34 (C7f.mp h).1;cases e:cp x with
  | nil=>simp
  | cons k r=>
   rw[e] at c d;cases c;intro z;rcases G1.mp z with z | z
   ·cases z
   ·have:=d 32 z;omega
 ·rw[if_neg c] at h;intro z;have:=(A34 h).2.2.1 32 z;omega
set_option tactic.hygienic true in
theorem D3m (x:Str){a b:Nat}(hab:a<=b)(hb:b<=x.length):cp (Txt.slice x (some (a:Int)) (some (b:Int)))=((cp x).drop a).take (b-a):=by
 unfold Txt.slice;split
 ·rename_i h;rw[X6] at h;have h2:=h.2;rw[StrLaws.strSliceIndices_plain hab hb,B6,w4,beq_iff_eq] at h2;obtain rfl:a=0:=by omega
  rw[B3w,h2];exact (A4r (l:=cp x)).symm
 ·exact StrLaws.sliced_plain x hab hb
theorem D3n (x:Str)(h:1<=x.length):cp (Txt.slice x (some 1) none)=(cp x).tail:=by
 have e:Txt.slice x (some 1) none=Txt.slice x (some ((1:Nat):Int)) (some ((x.length:Nat):Int)):=by
  unfold Txt.slice;rw[StrLaws.sliceIdx_none_hi];rfl
 rw[e,D3m x h (E8 _),List.drop_one,A8x (by rw[List.length_tail,V0];exact E8 _)]
open PySem.Spec PyProof.Rows
mutual
def A6e:PyData->Bool
 | .none=>true
 | .bool _=>true
 | .int _=>true
 | .str _=>true
 | .tuple xs=>C3o xs
 | .list _=>false
 | .dict _=>false
def C3o:List PyData->Bool
 | []=>true
 | d::ds=>A6e d&&C3o ds
end
open Classical in
section
variable {X:Cx}{C:DC}{e a b:Expr}{es:List Expr}{t ta tb te:DE}{u:DA}{pos:Pos}{st:Stmt}{tg:Expr}
end
end Tactic
namespace Tactic
open PySem Lake
open Classical in
section
variable {C:DC}{col col2:Addr->Nat}{ρ:List Sl}{σ:Lake.St}{P:List Pe}{H H2:Hp}{i:Nat}{d:PyData}
open Classical in
open Classical in
end
section
variable {X:Cx}{C:DC}{e:Expr}{st:Stmt}{t te:DE}{u:DA}{i:Nat}
open Classical in
mutual
def D3o:PyData->PyData
 | .tuple xs=>.tuple (C3p xs)
 | .list _=>.list []
 | .none=>.none
 | .bool b=>.bool b
 | .int i=>.int i
 | .str s=>.str s
 | .dict d=>.dict d
def C3p:List PyData->List PyData
 | []=>[]
 | d::ds=>D3o d::C3p ds
end
open Classical in
open Classical in
end
end Tactic
namespace Lake
open PySem PySem.Spec PyProof.Rows
section
variable {X:Cx}
end
end Lake
namespace Tactic
open PySem Lake
variable {X:Cx}{C:DC}{a:Expr}{te:DE}{pos:Pos}
section
variable {b:Expr}{i:Nat}
end
variable {e:Expr}{t:DE}
section
variable {b:Expr}{tt:DT}{i:Nat}
end
section
variable {u:DA}{i:Nat}
end
variable {H:Hp}
section
variable {col:Addr->Nat}{ρ:List Sl}{σ:St}{P:List Pe}{H':Hp}{p:Addr}
end
variable {st:Stmt}
section
variable {b:Expr}{tk:DE}
theorem B4.lenD {F:Addr->Prop}{H:Hp}:∀{vs:List V}{ds:List PyData},B4 F H vs ds->vs.length=ds.length
 | _,_,.nil=>rfl
 | _,_,.cons _ t=>by rw[K4,K4,B4.lenD t]
end
section
variable {i j:Nat}
end
section
variable {tp tl:DE}{i:Nat}
open Classical in
end
open PySem.Spec
section
variable {st:Expr}
end
mutual
def okS:PyData->Bool
 | .none=>true
 | .bool _=>true
 | .int _=>true
 | .str _=>true
 | .tuple xs=>B56 xs
 | .list xs=>B56 xs
 | .dict ks=>ks.isEmpty
def B56:List PyData->Bool
 | []=>true
 | d::ds=>okS d&&B56 ds
end
section
variable {pins:List (Addr×Obj)}{σ:St}{s:Shared}{F:Addr->Prop}
end
open PyProof.Rows
section
variable {i:Nat}
open Classical in
end
section
variable {b:Expr}{tl tb:DE}
end
mutual
inductive FpV (F:Addr->Prop)(H:Hp):V->PyData->List Addr->Prop
 | non:FpV F H .non .none []
 | bl (b):FpV F H (.bl b) (.bool b) []
 | int (i):FpV F H (.int i) (.int i) []
 | str (x):FpV F H (.str x) (.str x) []
 | lst {a xs ds fp}:F a->H a=some (.lst xs)->X2 F H xs ds fp->FpV F H (.ref a) (.list ds) (a::fp)
 | tup {a xs ds fp}:F a->H a=some (.tup xs)->X2 F H xs ds fp->FpV F H (.ref a) (.tuple ds) fp
inductive X2 (F:Addr->Prop)(H:Hp):List V->List PyData->List Addr->Prop
 | nil:X2 F H [] [] []
 | cons {x xs d ds fp fps}:FpV F H x d fp->X2 F H xs ds fps->X2 F H (x::xs) (d::ds) (fp++fps)
end
theorem D3p {F:Addr->Prop}{H:Hp}{m1:V->PyData->List Addr->Prop}{m2:List V->List PyData->List Addr->Prop}(c1:m1 .non .none [])(c2:∀b,m1 (.bl b) (.bool b) [])(c3:∀i,m1 (.int i) (.int i) [])(c4:∀x,m1 (.str x) (.str x) [])
  (c5:∀{a xs ds fp},F a->H a=some (.lst xs)->X2 F H xs ds fp->m2 xs ds fp->m1 (.ref a) (.list ds) (a::fp)) (c6:∀{a xs ds fp},F a->H a=some (.tup xs)->X2 F H xs ds fp->m2 xs ds fp->m1 (.ref a) (.tuple ds) fp)
  (c7:m2 [] [] []) (c8:∀{x xs d ds fp fps},FpV F H x d fp->X2 F H xs ds fps->m1 x d fp->m2 xs ds fps->m2 (x::xs) (d::ds) (fp++fps)):(∀{v d fp},FpV F H v d fp->m1 v d fp)/\∀{vs ds fp},X2 F H vs ds fp->m2 vs ds fp:=
 ⟨λt=>FpV.rec (motive_1:=λv d fp J=>m1 v d fp) (motive_2:=λv d fp J=>m2 v d fp) c1 c2 c3 c4 c5 c6 c7 c8 t,λt=>X2.rec (motive_1:=λv d fp J=>m1 v d fp) (motive_2:=λv d fp J=>m2 v d fp) c1 c2 c3 c4 c5 c6 c7 c8 t⟩
theorem D3q {F:Addr->Prop}{H:Hp}:(∀{v d fp},FpV F H v d fp->ThV F H v d)/\∀{vs ds fp},X2 F H vs ds fp->B4 F H vs ds:=
 D3p (m1:=λv d J=>ThV F H v d) (m2:=λv d J=>B4 F H v d) .non .bl .int .str (λn e J t=>.lst n e t) (λn e J t=>.tup n e t) .nil λJ J x t=>.cons x t
theorem X2.th {F:Addr->Prop}{H:Hp}{vs:List V}{ds:List PyData}{fp:List Addr}(t:X2 F H vs ds fp):B4 F H vs ds:=D3q.2 t
section
variable {col col2:Addr->Nat}{ρ:List Sl}{σ:Lake.St}{P:List Pe}{H2:Hp}{i:Nat}{d:PyData}{R:C1v}
open Classical in
open Classical in
end
section
variable {es:List Expr}{tt:DT}{u:DA}{i:Nat}
open Classical in
end
section
variable {tg:Expr}{i:Nat}
end
section
variable {i j ia ib:Nat}
end
end Tactic
namespace Lake
open PySem PySem.Spec PyProof.Rows
section
variable {X:Cx}
end
end Lake
namespace Tactic
open PySem Lake
open PySem.Spec PyProof.Rows
section
variable {X:Cx}{C:DC}{e:Expr}{st:Stmt}{u:DA}{i:Nat}
end
section
variable {X:Cx}{C:DC}{st:Stmt}{i j:Nat}
end
end Tactic
namespace Lake
open PySem PySem.Spec PyProof.Rows
section
variable {prog:Program}{w:World}{A:Around}{E:Value->Shared->Prop}{s:Shared}
theorem C3q {h:Heap}{a:Addr}{items:Array Value}(x:h.IsList a items)(o:Obj):(h.push o).IsList a items:=
 let ⟨o',ho,r⟩:=x;⟨o',M5 o ho,r⟩
theorem C3r {it t:Addr}{items:Array Value}(hne:t≠it):∀(n i:Nat)(s:Shared)(Q:List Value->Shared->Prop),s.heap.IsListIter it t i->s.heap.IsList t items->i+n<=items.size->
  (∀h',h'.IsListIter it t (i+n)->Heap.SameBut it s.heap h'->Q ((items.toList.drop i).take n) { s with heap:=h' })->wpAny (model prog w) A (draw (.ref it) n) Q E s
 | 0,i,s,Q,hit,_,_,hQ=>by
  show wpAny _ _ (pure []) Q E s;exact wpAny_pure (by simpa using hQ s.heap hit (Heap.SameBut.refl ..))
 | n+1,i,s,Q,hit,ht,hle,hQ=>by
  have hlt:i<items.size:=by omega
  show wpAny _ _ (pyNext (.ref it) >>= _) Q E s;refine wpAny_bind (wpAny_pyNext_list_item hit ht (x:=items[i]) (by simp [hlt]) λh₁ hit₁ hs₁=>?_);refine wpAny_bind (wpAny_holding (C3r hne n (i+1) _ _ hit₁ (ht.extBut hs₁.extBut hne) OO λh₂ hit₂ hs₂=>wpAny_pure ?_));have hd:items.toList.drop i=items[i]::items.toList.drop (i+1):=by simp [C7b,hlt]
  have:=hQ h₂ (by rw[show i+(n+1)=i+1+n by omega];exact hit₂) (hs₁.trans hs₂);rw[hd,List.take_succ_cons] at this;exact this
theorem D3r {t:Addr}{items:Array Value}{Q:List Value->Shared->Prop}(hh:A.handled=none)(ht:s.heap.IsList t items)
  (hQ:∀h',Heap.ExtBut s.heap.objs.size s.heap h'->Q items.toList { s with heap:=h' }):wpAny (model prog w) A (unpackItems (.ref t) items.size none) Q E s:=by
 have hlt:t≠s.heap.objs.size:=by obtain⟨o,ho,_⟩:=ht;exact O0 (G6 ho)
 unfold unpackItems;refine wpAny_bind ?_
 ·unfold notIterableAtAll;refine wpAny_bind (wpAny_specialOf ht.typeIs PySem.F.slot_list_iter.lookup ?_);refine wpAny_pure ?_;simp only[A8u,if_false];refine wpAny_bind (wpAny_holding (wpAny_pyIter_list ht ?_));refine wpAny_bind (wpAny_holding (C3r hlt items.size 0 _ _ ⟨_,R9 _ rfl,rfl,rfl⟩ (C3q ht _) OO λh₁ hit₁ hs₁=>?_));have hall:List.take items.size (List.drop 0 items.toList)=items.toList:=by
   rw[B3w];exact A8x (by simp)
  rw[hall];rw[if_neg (by simp)];have ht₁:h₁.IsList t items:=(C3q ht _).extBut hs₁.extBut hlt;refine wpAny_bind (wpAny_holding (wpAny_pyNext_list_end hh hit₁ ht₁ (by simp) λh₂ he₂=>?_));simp only[Option.isSome_none,A8u,if_false];refine wpAny_pure (hQ h₂ λb o hb e=>he₂ b o hb (hs₁.extBut b o hb (M5 _ e)))
end
section
variable {X:Cx}{pos:Pos}
def D3s (K:A8)(n:Nat)(t:TGs):TG:=λv σ H Q=>∃a xs,v=.ref a/\SqL K H a xs/\xs.length=n/\t xs σ H Q
theorem D3t {es:List Expr}{k:Nat}{t:TGs}{n:Nat}(hc:X.calm=true)(h:PGs X es t)
  (hn:autoParam ((assignEach es X.env).length=n) RF._auto_1) (hst:autoParam ((assignEach es X.env).findIdx? (·.1)=none) RF._auto_1):PG X (.Tuple es k pos) (D3s X.K n t):=by
 intro pins s σ H v u Q I r hw;obtain⟨a,xs,e1,hq,hl,hw⟩:=hw;subst e1;cases r;obtain⟨its,rv,ht,hz⟩:=I.list hq;rw[arm_assign_Tuple];refine wpAny_bind (wpAny_standAt ?_);unfold unpack;rw[hst,show (assignEach es X.env).length=its.toArray.size from by simp [hn,<-hl,rv.length]];refine wpAny_bind (wpAny_holding (D3r (I.ok.hd hc) ht.isList λh' hx=>?_));have I1:Inv X pins σ H { s with heap:=h' }:=I.kept (t':=s.toks) λb o e=>hx b o (O0 (G6 e)) e;exact h pins _ σ H xs _ Q I1 (by simpa using rv) hw
end
end Lake
namespace Tactic
open PySem Lake
section
variable {X:Cx}{C:DC}
end
theorem M3 {us:List Value}{n:Nat}(h:us.length=n+1):∃a r,us=a::r/\r.length=n:=by
 cases us with
 | nil=>cases h
 | cons a r=>exact⟨a,r,rfl,Nat.succ.inj h⟩
theorem C3s {us:List Value}(h:us.length=0):us=[]:=by
 cases A29 h;exact rfl
theorem B57 {us:List Value}(h:us.length=1):∃a0,us=[a0]:=by
 obtain⟨a0,u0,rfl,h0⟩:=M3 h;cases A29 h0;exact⟨a0,rfl⟩
theorem C3t {us:List Value}(h:us.length=2):∃a0 a1,us=[a0,a1]:=by
 obtain⟨a0,u0,rfl,h0⟩:=M3 h;obtain⟨a1,u1,rfl,h1⟩:=M3 h0;cases A29 h1;exact⟨a0,a1,rfl⟩
theorem C3u {us:List Value}(h:us.length=3):∃a0 a1 a2,us=[a0,a1,a2]:=by
 obtain⟨a0,u0,rfl,h0⟩:=M3 h;obtain⟨a1,u1,rfl,h1⟩:=M3 h0;obtain⟨a2,u2,rfl,h2⟩:=M3 h1;cases A29 h2;exact⟨a0,a1,a2,rfl⟩
theorem C3v {us:List Value}(h:us.length=4):∃a0 a1 a2 a3,us=[a0,a1,a2,a3]:=by
 obtain⟨a0,u0,rfl,h0⟩:=M3 h;obtain⟨a1,u1,rfl,h1⟩:=M3 h0;obtain⟨a2,u2,rfl,h2⟩:=M3 h1;obtain⟨a3,u3,rfl,h3⟩:=M3 h2;cases A29 h3;exact⟨a0,a1,a2,a3,rfl⟩
theorem C3w {us:List Value}(h:us.length=5):∃a0 a1 a2 a3 a4,us=[a0,a1,a2,a3,a4]:=by
 obtain⟨a0,u0,rfl,h0⟩:=M3 h;obtain⟨a1,u1,rfl,h1⟩:=M3 h0;obtain⟨a2,u2,rfl,h2⟩:=M3 h1;obtain⟨a3,u3,rfl,h3⟩:=M3 h2;obtain⟨a4,u4,rfl,h4⟩:=M3 h3;cases A29 h4;exact⟨a0,a1,a2,a3,a4,rfl⟩
theorem C3x {us:List Value}(h:us.length=6):∃a0 a1 a2 a3 a4 a5,us=[a0,a1,a2,a3,a4,a5]:=by
 obtain⟨a0,u0,rfl,h0⟩:=M3 h;obtain⟨a1,u1,rfl,h1⟩:=M3 h0;obtain⟨a2,u2,rfl,h2⟩:=M3 h1;obtain⟨a3,u3,rfl,h3⟩:=M3 h2;obtain⟨a4,u4,rfl,h4⟩:=M3 h3;obtain⟨a5,u5,rfl,h5⟩:=M3 h4;cases A29 h5;exact⟨a0,a1,a2,a3,a4,a5,rfl⟩
def top (i:Nat):Stmt:=PySem.Challenge.pw_trudge_k96_rows_and_functions.main.body.getD i (.Pass ⟨0,0,0,0⟩)
abbrev B58:Stmt:=top 2
abbrev B59:Stmt:=top 3
abbrev B6a:Stmt:=top 4
abbrev B6b:Stmt:=top 5
abbrev B6c:Stmt:=top 6
abbrev B6d:Stmt:=top 11
abbrev B6e:Stmt:=top 12
abbrev B6f:Stmt:=top 13
abbrev B6g:Stmt:=top 14
abbrev B6h:Stmt:=top 15
abbrev B6i:Stmt:=top 37
abbrev B6j:Stmt:=top 38
abbrev B6k:Stmt:=top 39
abbrev B2a:Stmt:=top 40
abbrev B2b:Stmt:=top 41
abbrev B2c:Stmt:=top 42
abbrev B2d:Stmt:=top 44
abbrev B6l:Stmt:=top 45
abbrev B6m:Stmt:=top 46
abbrev B6n:Stmt:=top 52
abbrev B6o:Stmt:=top 53
abbrev B6p:Stmt:=top 54
abbrev B6q:Stmt:=top 58
abbrev B6r:Stmt:=top 59
abbrev B6s:Stmt:=top 60
abbrev B6t:Stmt:=top 62
abbrev B6u:Stmt:=top 63
abbrev B2e:Stmt:=top 64
abbrev B2f:Stmt:=top 65
abbrev B6v:Stmt:=top 66
abbrev B6w:Stmt:=top 67
abbrev B2g:Stmt:=top 68
abbrev B6x:Stmt:=top 69
abbrev B2h:Stmt:=top 73
abbrev B2i:Stmt:=top 74
abbrev B6y:Stmt:=top 76
abbrev B2j:Stmt:=top 78
abbrev B6z:Stmt:=top 79
abbrev B60:Stmt:=top 84
abbrev B61:Stmt:=top 85
abbrev B62:Stmt:=top 87
abbrev B63:Stmt:=top 88
abbrev B64:Stmt:=top 89
abbrev B65:Stmt:=top 92
abbrev B2k:Stmt:=top 93
abbrev B2l:Stmt:=X8 (top 94) 0
abbrev B66:Stmt:=X8 (top 94) 1
abbrev B67:Stmt:=X8 (top 94) 2
abbrev B68:Stmt:=X8 (top 94) 3
abbrev B69:Stmt:=X8 (top 94) 4
abbrev B7a:Stmt:=X8 (top 94) 5
abbrev B7b:Stmt:=X8 (top 94) 6
abbrev B7c:Stmt:=X8 (top 94) 7
abbrev B7d:Stmt:=X8 (top 94) 8
abbrev B7e:Stmt:=X8 (top 94) 9
abbrev C3y:Stmt:=X8 (top 94) 10
abbrev B2m:Stmt:=X8 (top 94) 11
abbrev B7f:Stmt:=X8 (top 94) 12
abbrev B7g:Stmt:=X8 (top 94) 14
abbrev B7h:Stmt:=X8 (top 94) 15
abbrev B2n:Stmt:=top 96
abbrev B2o:Stmt:=top 101
abbrev B7i:Stmt:=top 102
abbrev B7j:Stmt:=top 103
abbrev B7k:Stmt:=top 104
abbrev B7l:Stmt:=top 105
abbrev B7m:Stmt:=top 106
abbrev B2p:Stmt:=top 107
abbrev A9u:Stmt:=top 108
abbrev B7n:Stmt:=top 109
abbrev B7o:Stmt:=top 114
abbrev A9v:Stmt:=top 115
abbrev B7p:Stmt:=top 116
abbrev B7q:Stmt:=top 117
abbrev B7r:Stmt:=top 118
abbrev B7s:Stmt:=top 119
abbrev B7t:Stmt:=top 120
abbrev B7u:Stmt:=top 121
abbrev B7v:Stmt:=top 122
abbrev B7w:Stmt:=top 123
abbrev B7x:Stmt:=top 124
abbrev B7y:Stmt:=top 125
abbrev B2q:Stmt:=top 126
abbrev B7z:Stmt:=top 127
abbrev B70:Stmt:=top 128
abbrev B71:Stmt:=top 129
abbrev B2r:Stmt:=X8 (top 131) 0
abbrev B72:Stmt:=X8 (top 131) 1
abbrev B73:Stmt:=top 133
abbrev B74:Stmt:=top 134
abbrev B75:Stmt:=top 135
abbrev B76:Stmt:=top 136
abbrev B77:Stmt:=top 137
abbrev B78:Stmt:=top 138
abbrev B2s:Stmt:=top 139
abbrev B79:Stmt:=top 140
abbrev A9w:Stmt:=top 141
abbrev B2t:Stmt:=top 143
abbrev A9x:Stmt:=top 144
abbrev B2u:Stmt:=top 145
abbrev B8a:Stmt:=top 146
abbrev B2v:Stmt:=top 147
abbrev B8b:Stmt:=top 148
abbrev A1d:Stmt:=top 149
def HB (nm qn:Str)(st:Stmt)(ps:List Str):Prop:=∀(kV doc pm:Value)(an:Option Addr)(cdv ct:Value)(us:List Value),us.length=ps.length->bindArgs (A4k nm qn (A40 st) (A2l st) (B1 st) .none kV doc pm an cdv ct) ⟨us,[]⟩=pure (ps.zip us)
structure FT (K:A8)(mg:Str->Option Value)(nm:Str)(st:Stmt)(ps:List Str) where
 a:Addr
 d:FuncData
 F:Fun K nm nm st a d
 m:mg nm=some (.ref a)
 b:y8 K d ps []
def FH (K:A8)(nm:Str)(st:Stmt):Prop:=∃f,A1o K mainGlobals nm=some (some (.ref f))/\∃fd,Fun K nm nm st f fd
theorem FT.of {K:A8}{mg:Str->Option Value}{nm:Str}{st:Stmt}{ps:List Str}{h:Heap}(X:K.In h)(G:h.Ns mainGlobals mg)(H:FH K nm st)(hb:HB nm nm st ps):Nonempty (FT K mg nm st ps):=by
 obtain⟨f,a,fd,F⟩:=H;exact⟨⟨f,fd,F,A2a X G a,F.binds hb⟩⟩
noncomputable def FT.c {K:A8}{mg:Str->Option Value}{nm:Str}{st:Stmt}{ps:List Str}{h:Heap}(X:K.In h)(G:h.Ns mainGlobals mg)(H:FH K nm st)(hb:HB nm nm st ps:=by intro _ _ _ _ _ _ us hl;first | (obtain⟨_,rfl⟩:=B57 hl;rfl) | (obtain⟨_,_,rfl⟩:=C3t hl;rfl) | (obtain⟨_,_,_,rfl⟩:=C3u hl;rfl) | (obtain⟨_,_,_,_,rfl⟩:=C3v hl;rfl) | (obtain⟨_,_,_,_,_,rfl⟩:=C3w hl;rfl) | (obtain⟨_,_,_,_,_,_,rfl⟩:=C3x hl;rfl) | (cases C3s hl;rfl)):FT K mg nm st ps:=Classical.choice (FT.of X G H hb)
structure CT (mg:Str->Option Value)(nm:Str)(v:Tok->Value) where
 t:Tok
 m:mg nm=some (v t)
def CH (K:A8)(nm:Str)(v:Tok->Value):Prop:=∃t,A1o K mainGlobals nm=some (some (v t))
theorem CT.of {K:A8}{mg:Str->Option Value}{nm:Str}{v:Tok->Value}{h:Heap}(X:K.In h)(G:h.Ns mainGlobals mg)(H:CH K nm v):Nonempty (CT mg nm v):=by
 obtain⟨t,e⟩:=H;exact⟨⟨t,A2a X G e⟩⟩
noncomputable def CT.c {K:A8}{mg:Str->Option Value}{nm:Str}{v:Tok->Value}{h:Heap}(X:K.In h)(G:h.Ns mainGlobals mg)(H:CH K nm v):CT mg nm v:=Classical.choice (CT.of X G H)
def BN (K:A8):List Str->Prop
 | []=>True
 | x::r=>A1o K mainGlobals x=some none/\BN K r
def AH (K:A8)(nm al:Str):Prop:=∃f,A1o K mainGlobals nm=some (some (.ref f))/\A1o K mainGlobals al=some (some (.ref f))
theorem AH.of {K:A8}{mg:Str->Option Value}{nm al:Str}{h:Heap}(X:K.In h)(G:h.Ns mainGlobals mg)(H:AH K nm al):mg al=mg nm:=by
 obtain⟨f,e1,e2⟩:=H;rw[A2a X G e1,A2a X G e2]
structure MT (K:A8)(C:Addr)(nm qn:Str)(st:Stmt)(ps:List Str) where
 a:Addr
 d:FuncData
 F:Fun K nm qn st a d
 m:B1a K C nm a
 b:y8 K d ps []
def MH (K:A8)(C:Addr)(nm qn:Str)(st:Stmt):Prop:=∃f,A1k K (.ref C) nm=some (some (.ref f))/\PySem.W.isFn K (.ref f)=true/\∃fd,Fun K nm qn st f fd
theorem MT.of {K:A8}{C:Addr}{nm qn:Str}{st:Stmt}{ps:List Str}(H:MH K C nm qn st)(hb:HB nm qn st ps):Nonempty (MT K C nm qn st ps):=by
 obtain⟨f,a,b,fd,F⟩:=H;exact⟨⟨f,fd,F,⟨a,b,F.kp⟩,F.binds hb⟩⟩
noncomputable def MT.c {K:A8}{C:Addr}{nm qn:Str}{st:Stmt}{ps:List Str}(H:MH K C nm qn st)(hb:autoParam (HB nm qn st ps) FT.c._auto_1):MT K C nm qn st ps:=Classical.choice (MT.of H hb)
theorem pcF {X:Cx}{nm:Str}{st:Stmt}{qs:List Str}(T:FT X.K X.mg nm st qs)(F:B8 X.prog X.w X.K X.mg X.base CX0 k T.a T.d qs sp)(hr:P8 j X.A)(ha:PA X (e::es) t) (hdb:autoParam ((nm == ("__debug__" : Str))=false) DD._auto_1) (he:autoParam (starEach (e::es) X.env=(false,eval e X.env)::starEach es X.env) RF._auto_1) (hpl:autoParam ((backTo pos (starEach es X.env)).any (·.1)=false) RF._auto_1)(hj:autoParam (k<=j) DD._auto_1)(hg:autoParam (Gl X nm) RF._auto_1):PE X (.Call (.Name nm p) (e::es) [] pos) (C0o sp [] E0 t):=A9 F (hr.mono hj) hg T.m T.F.kp T.b .nil A4 ha hdb he hpl
theorem pmF {X:Cx}{pl:Sem Bool}{nm qn:Str}{st:Stmt}{qs:List Str}(he:PE X o ta)(c:Cls X.K C)(T:MT X.K C nm qn st qs)(F:B8 X.prog X.w X.K X.mg X.base CX0 k T.a T.d qs sp)(hr:P8 j X.A)(ha:PA X (e::es) t)(hj:autoParam (k<=j) DD._auto_1)
  (hst:autoParam (starEach (e::es) X.env=(false,eval e X.env)::starEach es X.env) RF._auto_1) (hpl:autoParam ((backTo pos (starEach es X.env)).any (·.1)=false) RF._auto_1)
  (ht:eval (.Call (.Attribute o nm apos) (e::es) [] pos) X.env=(do
   let ov <-eval o X.env
   standAt apos.atName
   let (f,first) <-holding [ov] (getMethod ov nm pl)
   callWith pos f first (backTo pos (starEach (e::es) X.env)) (backToKw pos (keywordEach [] X.env))):=by rfl):
  PE X (.Call (.Attribute o nm apos) (e::es) [] pos) (C0p C nm sp [] E0 ta t):=R7 he c T.m F (hr.mono hj) T.b .nil A4 ha hst hpl ht
theorem pmG {X:Cx}{pl:Sem Bool}{nm qn:Str}{st:Stmt}{qs:List Str}(he:PE X o ta)(c:Cls X.K C)(T:MT X.K C nm qn st qs)(F:B8 X.prog X.w X.K X.mg X.base CX0 k T.a T.d qs sp)(hr:P8 j X.A)(hj:autoParam (k<=j) DD._auto_1)
  (ht:eval (.Call (.Attribute o nm apos) [] [] pos) X.env=(do
   let ov <-eval o X.env
   standAt apos.atName
   let (f,first) <-holding [ov] (getMethod ov nm pl)
   callWith pos f first (backTo pos (starEach [] X.env)) (backToKw pos (keywordEach [] X.env))):=by rfl):
  PE X (.Call (.Attribute o nm apos) [] [] pos) (C0p C nm sp [] E0 ta T8):=R8 he c T.m F (hr.mono hj) T.b .nil A4 ht
abbrev FK (P:Program)(w:World){K:_}{mg:_}(base:Heap)(k:Nat){nm:Str}{st:Stmt}{qs:List Str}(T:FT K mg nm st qs)(sp:Sp):=B8 P w K mg base CX0 k T.a T.d qs sp
abbrev FM (P:Program)(w:World){K:_}(mg:_)(base:Heap)(k:Nat){C:Addr}{nm qn:Str}{st:Stmt}{qs:List Str}(T:MT K C nm qn st qs)(sp:Sp):=B8 P w K mg base CX0 k T.a T.d qs sp
theorem cII {X:Cx}{nm:Str}{n:Int}(T:CT X.mg nm λt=>Value.int n t)(hg:autoParam (Gl X nm) RF._auto_1)(hd:autoParam ((nm == ("__debug__" : Str))=false) DD._auto_1):PE X (.Name nm pos) (tC (V.int n)):=C4 (v:=V.int n) hg T.m ⟨_,rfl⟩ hd
def KH (K:A8)(C:Addr):Prop:=Cls K C/\PySem.W.makesIn K C=true/\A6p K (.ref C)=true
def NN (K:A8)(C:Addr):List Str->Prop
 | []=>True
 | x::r=>A1k K (.ref C) x=some none/\NN K C r
set_option genInjectivity false in
set_option genSizeOf false in
structure Txt (K:A8)(mg:Str->Option Value) where
 jd:mg "abs" = none
 je:mg "all" = none
 jl:mg "bool" = none
 eM:mg "enumerate" = none
 fY:mg "int" = none
 ck:mg "isinstance" = none
 bq:mg "len" = none
 cE:mg "list" = none
 eE:mg "max" = none
 dv:mg "min" = none
 cP:mg "range" = none
 ff:mg "reversed" = none
 fh:mg "sorted" = none
 cZ:mg "str" = none
 iT:mg "tuple" = none
 aa:Addr
 fE:mg "Keeper" = some (.ref aa)
 ac:Cls K aa
 dU:A0l K aa "many"
 dE:A0l K aa "full"
 dN:A0l K aa "wanted"
 bN:A0l K aa "laid"
 cF:A0l K aa "lowest"
 de:MT K aa "__init__" "Keeper.__init__" B2l ["self","many","store","goal"]
 dr:MT K aa "lay" "Keeper.lay" B66 ["self","label","start","end","change"]
 cG:MT K aa "lift" "Keeper.lift" B67 ["self","label"]
 cH:MT K aa "turn" "Keeper.turn" B68 ["self","label","change"]
 bR:MT K aa "refill" "Keeper.refill" B69 ["self","store"]
 dt:MT K aa "aim" "Keeper.aim" B7a ["self","goal"]
 cr:MT K aa "found" "Keeper.found" B7b ["self","label"]
 aH:MT K aa "moved" "Keeper.moved" B7c ["self"]
 cI:MT K aa "ways" "Keeper.ways" B7d ["self"]
 aI:MT K aa "store" "Keeper.store" B7e ["self"]
 jv:MT K aa "goal" "Keeper.goal" C3y ["self"]
 am:MT K aa "land" "Keeper.land" B2m ["self"]
 bG:MT K aa "least" "Keeper.least" B7f ["self"]
 bH:MT K aa "highest" "Keeper.highest" B7g ["self","base"]
 aJ:MT K aa "least_store" "Keeper.least_store" B7h ["self","begin","goal"]
 fF:Mk K aa de.a
 af:Addr
 iU:mg "Desk" = some (.ref af)
 br:Cls K af
 dO:A0l K af "keeper"
 dG:MT K af "__init__" "Desk.__init__" B2r ["self"]
 bb:MT K af "say" "Desk.say" B72 ["self","row"]
 iV:Mk K af dG.a
 g_LEAST:CT mg "LEAST" (.int 0)
 g_GAIN:CT mg "GAIN" (.int 1)
 g_TOP:CT mg "TOP" (.int 2)
 g_MANY:CT mg "MANY" (.int 0)
 g_WAYS:CT mg "WAYS" (.int 1)
 g_START:CT mg "START" (.int 0)
 g_END:CT mg "END" (.int 1)
 g_CHANGE:CT mg "CHANGE" (.int 2)
 g_MOST_PLACES:CT mg "MOST_PLACES" (.int 12)
 g_MOST_WAYS:CT mg "MOST_WAYS" (.int 40)
 g_TABLE:CT mg "TABLE" (.int 0)
 g_RISEN:CT mg "RISEN" (.int 1)
 g_FROM:CT mg "FROM" (.int 0)
 g_BY:CT mg "BY" (.int 1)
 g_NUMBERS:CT mg "NUMBERS" (.int 0)
 g_TIMES:CT mg "TIMES" (.int 1)
 g_PLACE:CT mg "PLACE" (.int 0)
 g_LEVEL:CT mg "LEVEL" (.int 1)
 g_MOST_FIGURES:CT mg "MOST_FIGURES" (.int 60)
 g_MOST_SOON:CT mg "MOST_SOON" (.int 200)
 g_ANY:CT mg "ANY" (.str "any")
 g_FIGURES:CT mg "FIGURES" (.str "0123456789")
 g_NONE:CT mg "NONE" (.str "-")
 ak:FT K mg "is_whole" B58 ["thing"]
 bf:FT K mg "is_store" B59 ["thing"]
 bg:FT K mg "is_level" B6a ["store","thing"]
 bI:FT K mg "stepped" B6b ["store","level","change"]
 aE:FT K mg "levels_along" B6c ["store","level","changes"]
 aQ:FT K mg "effect_of_none" B6d ["store"]
 aZ:FT K mg "effect_of_one" B6e ["store","change"]
 bZ:FT K mg "effect_of" B6f ["store","changes"]
 df:FT K mg "passed" B6g ["effect","level"]
 dh:FT K mg "joined" B6h ["one","other"]
 av:FT K mg "is_place" B6i ["many","thing"]
 aR:FT K mg "is_change" B6j ["thing"]
 dj:FT K mg "is_way" B6k ["many","thing"]
 bu:FT K mg "turned_land" B2a ["land"]
 aB:FT K mg "changes_of" B2b ["land","numbers"]
 aw:FT K mg "most_taken" B2c ["land"]
 au:FT K mg "is_table" B2d ["many","store","thing"]
 cJ:FT K mg "is_more" B6l ["one","other"]
 bO:FT K mg "behind_way" B6m ["store","table","way"]
 aT:FT K mg "first_row" B6n ["table"]
 aM:FT K mg "row_behind" B6o ["land","store","table","stayed"]
 bJ:FT K mg "walk_to" B6p ["land","rows","place"]
 bv:FT K mg "behind_ways" B6q ["land","place","numbers"]
 bx:FT K mg "behind_part" B6r ["land","place","part"]
 dl:FT K mg "end_of" B6s ["land","place","trip"]
 bh:FT K mg "rows_from" B6t ["land","store","table"]
 bz:FT K mg "still_rises" B6u ["land","rows"]
 bA:FT K mg "rising_walk" B2e ["land","rows"]
 aG:FT K mg "parted_at_round" B2f ["land","walk"]
 bD:FT K mg "parts_by" B6v ["numbers"]
 ba:FT K mg "filling_parts" B6w ["land","store","level","walk"]
 cK:FT K mg "settled" B2g ["land","store","base"]
 aq:FT K mg "highest" B6x ["land","store","base"]
 bB:FT K mg "greatest_of" B2h ["base"]
 aU:FT K mg "boundless" B2i ["land","base"]
 cb:FT K mg "is_within" B6y ["level","bound"]
 bS:FT K mg "lacking" B2j ["store","table"]
 cC:FT K mg "least" B6z ["land","store","goal"]
 bK:FT K mg "base_at" B60 ["many","spot"]
 ax:FT K mg "has_enough" B61 ["table","goal"]
 aA:FT K mg "comes_through" B62 ["land","store","begin","goal"]
 bc:FT K mg "store_enough" B63 ["land","begin","goal"]
 bC:FT K mg "least_store" B64 ["land","begin","goal"]
 bi:FT K mg "is_label" B65 ["thing"]
 aF:FT K mg "places_below" B2k ["table","other"]
 bL:FT K mg "soonest" B2n ["land","store","begin","goal","most"]
 aP:FT K mg "are_figures" B2o ["word"]
 cf:FT K mg "is_number" B7i ["word"]
 aW:FT K mg "number_by" B7j ["word"]
 cw:FT K mg "level_by" B7k ["word"]
 cL:FT K mg "written" B7l ["level"]
 be:FT K mg "row_of" B7m ["words"]
 ay:FT K mg "table_row" B2p ["table"]
 ah:FT K mg "moved_row" A9u ["moved"]
 cx:FT K mg "way_word" B7n ["way"]
 cy:FT K mg "words_of" B7o ["row"]
 cg:FT K mg "values_of" A9v ["words"]
 ci:FT K mg "keeper_by" B7p ["many","store"]
 bM:FT K mg "base_of" B7q ["keeper","values"]
 aK:FT K mg "spot_of" B7r ["keeper","place","level","most"]
 dJ:FT K mg "lay" B7s ["keeper","values"]
 cU:FT K mg "lift" B7t ["keeper","values"]
 cV:FT K mg "turn" B7u ["keeper","values"]
 cj:FT K mg "refill" B7v ["keeper","values"]
 dM:FT K mg "aim" B7w ["keeper","values"]
 aN:FT K mg "tell_least" B7x ["keeper","values"]
 az:FT K mg "tell_highest" B7y ["keeper","values"]
 aX:FT K mg "tell_ways" B2q ["keeper","values"]
 aO:FT K mg "tell_store" B7z ["keeper","values"]
 aY:FT K mg "tell_soon" B70 ["keeper","values"]
 bj:FT K mg "tell_any" B71 ["keeper","values"]
 dW:FT K mg "_law_hand" B73 ["_law_script"]
 bT:FT K mg "_law_next" B74 ["_law_hand_here"]
 dX:FT K mg "_law_take" B75 ["_law_hand_here"]
 ae:FT K mg "_law_draw" B76 ["_law_hand_here","_law_many"]
 dH:FT K mg "_law_scale" B77 ["_law_hand_here"]
 cz:FT K mg "_law_change" B78 ["_law_hand_here","_law_scale_here"]
 cD:FT K mg "_law_table" B2s ["_law_hand_here","_law_many","_law_store"]
 cW:FT K mg "_law_word" B79 ["_law_level"]
 dY:FT K mg "_law_deed" A9w ["_law_hand_here","_law_many","_law_scale_here","_law_kept"]
 bQ:FT K mg "_law_row" B2t ["_law_levels"]
 dZ:FT K mg "_law_told" A9x ["_law_told_here"]
 ee:FT K mg "_law_done" B2u ["_law_keeper","_law_row_here","_law_table_here"]
 cQ:FT K mg "_law_spots" B8a ["_law_hand_here","_law_many","_law_top"]
 cR:FT K mg "_law_plain" B2v ["_law_hand_here","_law_desk","_law_keeper","_law_many"]
 cM:FT K mg "_law_between" B8b ["_law_hand_here","_law_desk","_law_keeper","_law_many"]
 iu:FT K mg "law" A1d ["_law_script"]
 bp:mg "highest_highest" = mg "highest"
 dI:mg "least_least" = mg "least"
 du:mg "least_store_stores" = mg "least_store"
 bU:Addr
 gf:mg "NUMBERED" = some (.ref bU)
 cu:Addr
 gC:mg "ANSWERS" = some (.ref cu)
 bP:Addr
 fG:mg "TABLED" = some (.ref bP)
 kt_TABLED:KTH K bP [V.str "aim",V.str "highest",V.str "any"]
structure A9y (w:World){K:A8}{mg:Str->Option Value}(T:Txt K mg):Prop where
 kd_NUMBERED:KDH w K T.bU [("land",V.int 2),("lay",V.int 4),("lift",V.int 1),("turn",V.int 2),("refill",V.int 1),("least",V.int 0),("ways",V.int 0),("store",V.int 4),("soon",V.int 5)]
 kd_ANSWERS:KDH w K T.cu [("lay",V.ref T.dJ.a),("lift",V.ref T.cU.a),("turn",V.ref T.cV.a),("refill",V.ref T.cj.a),("aim",V.ref T.dM.a),("least",V.ref T.aN.a),("highest",V.ref T.az.a),("ways",V.ref T.aX.a),("store",V.ref T.aO.a),("soon",V.ref T.aY.a),("any",V.ref T.bj.a)]
theorem SS{N ps:List Str}{s:_}(h:C3 N ps s:=by exact ⟨rfl,rfl,rfl,(by decide +kernel),rfl,(by decide +kernel),(by decide +kernel)⟩):C3 N ps s:=h
theorem D3u:C3 ["thing"] ["thing"] (B1 B58):=SS
theorem D3v:C3 ["thing"] ["thing"] (B1 B59):=SS
theorem D3w:C3 ["store","thing"] ["store","thing"] (B1 B6a):=SS
theorem C3z:C3 ["store","level","change","behind"] ["store","level","change"] (B1 B6b):=SS
theorem B2w:C3 ["store","level","changes","levels","change","behind"] ["store","level","changes"] (B1 B6c):=SS
theorem D3x:C3 ["store"] ["store"] (B1 B6d):=SS
theorem D3y:C3 ["store","change"] ["store","change"] (B1 B6e):=SS
theorem B2x:C3 ["store","changes","whole","change"] ["store","changes"] (B1 B6f):=SS
theorem D3z:C3 ["effect","level"] ["effect","level"] (B1 B6g):=SS
theorem C30:C3 ["one","other","least"] ["one","other"] (B1 B6h):=SS
theorem D30:C3 ["many","thing"] ["many","thing"] (B1 B6i):=SS
theorem D31:C3 ["thing"] ["thing"] (B1 B6j):=SS
theorem D32:C3 ["many","thing"] ["many","thing"] (B1 B6k):=SS
theorem D33:C3 ["land"] ["land"] (B1 B2a):=SS
theorem D34:C3 ["land","numbers"] ["land","numbers"] (B1 B2b):=SS
theorem D35:C3 ["land"] ["land"] (B1 B2c):=SS
theorem D36:C3 ["many","store","thing"] ["many","store","thing"] (B1 B2d):=SS
theorem D37:C3 ["one","other"] ["one","other"] (B1 B6l):=SS
theorem C31:C3 ["store","table","way","level"] ["store","table","way"] (B1 B6m):=SS
theorem D38:C3 ["table"] ["table"] (B1 B6n):=SS
theorem A8b:C3 ["land","store","table","stayed","higher","risen","number","way","level"] ["land","store","table","stayed"] (B1 B6o):=SS
theorem A8c:C3 ["land","rows","place","here","numbers","row","number"] ["land","rows","place"] (B1 B6p):=SS
theorem B2y:C3 ["land","place","numbers","here","number"] ["land","place","numbers"] (B1 B6q):=SS
theorem C32:C3 ["land","place","part","behind"] ["land","place","part"] (B1 B6r):=SS
theorem A9z:C3 ["land","place","trip","here","at","part"] ["land","place","trip"] (B1 B6s):=SS
theorem B2z:C3 ["land","store","table","rows","row"] ["land","store","table"] (B1 B6t):=SS
theorem D39:C3 ["land","rows"] ["land","rows"] (B1 B6u):=SS
theorem C33:C3 ["land","rows","last"] ["land","rows"] (B1 B2e):=SS
theorem A90:C3 ["land","walk","places","end","begin"] ["land","walk"] (B1 B2f):=SS
theorem D4a:C3 ["numbers"] ["numbers"] (B1 B6v):=SS
theorem A35:C3 ["land","store","level","walk","parted","ahead","turn","effect","missing","times","levels"] ["land","store","level","walk"] (B1 B6w):=SS
theorem A2w:C3 ["land","store","base","table","roads","rows","walk","parts","full","road"] ["land","store","base"] (B1 B2g):=SS
theorem D4b:C3 ["land","store","base"] ["land","store","base"] (B1 B6x):=SS
theorem D4c:C3 ["base"] ["base"] (B1 B2h):=SS
theorem B8c:C3 ["land","base","bound","told"] ["land","base"] (B1 B2i):=SS
theorem D4d:C3 ["level","bound"] ["level","bound"] (B1 B6y):=SS
theorem D4e:C3 ["store","table"] ["store","table"] (B1 B2j):=SS
theorem D4f:C3 ["land","store","goal"] ["land","store","goal"] (B1 B6z):=SS
theorem C34:C3 ["many","spot","base"] ["many","spot"] (B1 B60):=SS
theorem C35:C3 ["table","goal","level"] ["table","goal"] (B1 B61):=SS
theorem D4g:C3 ["land","store","begin","goal"] ["land","store","begin","goal"] (B1 B62):=SS
theorem D4h:C3 ["land","begin","goal"] ["land","begin","goal"] (B1 B63):=SS
theorem A8d:C3 ["land","begin","goal","high","low","middle"] ["land","begin","goal"] (B1 B64):=SS
theorem D4i:C3 ["thing"] ["thing"] (B1 B65):=SS
theorem D4j:C3 ["table","other"] ["table","other"] (B1 B2k):=SS
theorem D4k:C3 ["self","many","store","goal"] ["self","many","store","goal"] (B1 B2l):=SS
theorem D4l:C3 ["self","label","start","end","change"] ["self","label","start","end","change"] (B1 B66):=SS
theorem D4m:C3 ["self","label"] ["self","label"] (B1 B67):=SS
theorem C36:C3 ["self","label","change","way"] ["self","label","change"] (B1 B68):=SS
theorem D4n:C3 ["self","store"] ["self","store"] (B1 B69):=SS
theorem D4o:C3 ["self","goal"] ["self","goal"] (B1 B7a):=SS
theorem D4p:C3 ["self","label"] ["self","label"] (B1 B7b):=SS
theorem C37:C3 ["self","ahead"] ["self"] (B1 B7c):=SS
theorem B20:C3 ["self","told","label","way"] ["self"] (B1 B7d):=SS
theorem D4q:C3 ["self"] ["self"] (B1 B7e):=SS
theorem D4r:C3 ["self"] ["self"] (B1 B2m):=SS
theorem D4s:C3 ["self"] ["self"] (B1 B7f):=SS
theorem D4t:C3 ["self","base"] ["self","base"] (B1 B7g):=SS
theorem D4u:C3 ["self","begin","goal"] ["self","begin","goal"] (B1 B7h):=SS
theorem B21:C3 ["land","store","begin","goal","most","nowhere","rows","tables"] ["land","store","begin","goal","most"] (B1 B2n):=SS
theorem D4v:C3 ["word"] ["word"] (B1 B2o):=SS
theorem D4w:C3 ["word"] ["word"] (B1 B7i):=SS
theorem D4x:C3 ["word"] ["word"] (B1 B7j):=SS
theorem D4y:C3 ["word"] ["word"] (B1 B7k):=SS
theorem D4z:C3 ["level"] ["level"] (B1 B7l):=SS
theorem D40:C3 ["words"] ["words"] (B1 B7m):=SS
theorem D41:C3 ["table"] ["table"] (B1 B2p):=SS
theorem B8d:C3 ["moved","fell","rose"] ["moved"] (B1 A9u):=SS
theorem A91:C3 ["way","label","start","end","change"] ["way"] (B1 B7n):=SS
theorem B8e:C3 ["row","words","behind"] ["row"] (B1 B7o):=SS
theorem D42:C3 ["words"] ["words"] (B1 A9v):=SS
theorem D43:C3 ["many","store"] ["many","store"] (B1 B7p):=SS
theorem D44:C3 ["keeper","values"] ["keeper","values"] (B1 B7q):=SS
theorem D45:C3 ["keeper","place","level","most"] ["keeper","place","level","most"] (B1 B7r):=SS
theorem D46:C3 ["keeper","values"] ["keeper","values"] (B1 B7s):=SS
theorem D47:C3 ["keeper","values"] ["keeper","values"] (B1 B7t):=SS
theorem D48:C3 ["keeper","values"] ["keeper","values"] (B1 B7u):=SS
theorem D49:C3 ["keeper","values"] ["keeper","values"] (B1 B7v):=SS
theorem D5a:C3 ["keeper","values"] ["keeper","values"] (B1 B7w):=SS
theorem D5b:C3 ["keeper","values"] ["keeper","values"] (B1 B7x):=SS
theorem D5c:C3 ["keeper","values"] ["keeper","values"] (B1 B7y):=SS
theorem D5d:C3 ["keeper","values"] ["keeper","values"] (B1 B2q):=SS
theorem B22:C3 ["keeper","values","begin","goal","told"] ["keeper","values"] (B1 B7z):=SS
theorem A92:C3 ["keeper","values","most","begin","goal","told"] ["keeper","values"] (B1 B70):=SS
theorem C38:C3 ["keeper","values","base"] ["keeper","values"] (B1 B71):=SS
theorem D5e:C3 ["self"] ["self"] (B1 B2r):=SS
theorem B8f:C3 ["self","row","words","values"] ["self","row"] (B1 B72):=SS
theorem D5f:C3 ["_law_script"] ["_law_script"] (B1 B73):=SS
theorem D5g:C3 ["_law_hand_here"] ["_law_hand_here"] (B1 B74):=SS
theorem B8g:C3 ["_law_hand_here","_law_cell"] ["_law_hand_here"] (B1 B75):=SS
theorem A8e:C3 ["_law_hand_here","_law_many","_law_got","_law_value","_law_size"] ["_law_hand_here","_law_many"] (B1 B76):=SS
theorem D5h:C3 ["_law_hand_here"] ["_law_hand_here"] (B1 B77):=SS
theorem D5i:C3 ["_law_hand_here","_law_scale_here"] ["_law_hand_here","_law_scale_here"] (B1 B78):=SS
theorem C39:C3 ["_law_hand_here","_law_many","_law_store","_law_rare"] ["_law_hand_here","_law_many","_law_store"] (B1 B2s):=SS
theorem D5j:C3 ["_law_level"] ["_law_level"] (B1 B79):=SS
theorem i7:C3 ["_law_hand_here","_law_many","_law_scale_here","_law_kept","_law_ways","_law_store","_law_goal","_law_there","_law_way","_law_label","_law_one","_law_start","_law_end","_law_change_here","_law_least_one"] ["_law_hand_here","_law_many","_law_scale_here","_law_kept"] (B1 A9w):=SS
theorem D5k:C3 ["_law_levels"] ["_law_levels"] (B1 B2t):=SS
theorem B8h:C3 ["_law_told_here","_law_fell","_law_rose"] ["_law_told_here"] (B1 A9x):=SS
theorem B8i:C3 ["_law_keeper","_law_row_here","_law_table_here","_law_words","_law_numbers"] ["_law_keeper","_law_row_here","_law_table_here"] (B1 B2u):=SS
theorem B8j:C3 ["_law_hand_here","_law_many","_law_top","_law_begin","_law_goal"] ["_law_hand_here","_law_many","_law_top"] (B1 B8a):=SS
theorem B23:C3 ["_law_hand_here","_law_desk","_law_keeper","_law_many","_law_way","_law_due","_law_table_here"] ["_law_hand_here","_law_desk","_law_keeper","_law_many"] (B1 B2v):=SS
theorem A0d:C3 ["_law_hand_here","_law_desk","_law_keeper","_law_many","_law_top","_law_begin","_law_goal","_law_words","_law_due","_law_most","_law_word_here"] ["_law_hand_here","_law_desk","_law_keeper","_law_many"] (B1 B8b):=SS
theorem A1e:C3 ["_law_script","_law_hand_here","_law_scale_here","_law_many","_law_store","_law_desk","_law_keeper","_law_kept","_law_k","_law_row_here","_law_j"] ["_law_script"] (B1 A1d):=SS
variable {P:Program}{w:World}{K:A8}{mg:Str->Option Value}{base:Heap}
variable (T:Txt K mg)
theorem D5l:FK P w base 1 T.dW (D0d K):=by
 refine T.dW.F.ok D5f (λJ H J J h=>?_) (λJ J J J H J Q J hr h=>?_)
 ·obtain⟨a,ns,rfl,_⟩:=h;rfl
 ·obtain⟨a,ns,rfl,hS,k⟩:=h;refine⟨_,(C1 (E3 (U6 (A1 (T2 A3h rfl T.cE A1t (A1 (A4y A68 (pv 0) A66 (A67 A7)) A3 B0)) (A1 A7 (A1 A7 (A1 A7 (A1 A7 (A1 A7 A3 E6) E6) E6) E6) E6) C0)))),?_⟩;refine⟨_,rfl,_,rfl,a,_,rfl,hS,λp1 h1=>⟨p1,_,rfl,.inl (SqL.of B3),λl hl=>⟨(SZ (n:=6)),λp hp=>?_⟩⟩⟩;have n1:p≠p1:=(w6 (H:=upd (upd H p1 _) l _) (by rw[B7 (w6 B3 hl)];exact B3) hp).symm;have n2:p≠l:=(w6 (H:=upd (upd H p1 _) l _) B3 hp).symm;have hp0:H p=none:=by rw[B7 n2,B7 n1] at hp;exact hp
  have hl0:H l=none:=by
   have nl:l≠p1:=(w6 B3 hl).symm;rw[B7 nl] at hl;exact hl
  refine k p l _ hp0 hl0 ⟨(ns.drop (HT.sIx (ns.map V.int).length 0 none)).take (HT.sIx (ns.map V.int).length (ns.map V.int).length (some 63)-HT.sIx (ns.map V.int).length 0 none),0,0,0,20011,40009,?_,A1n _,B3⟩ (((Same.refl H).lay h1).lay hl |>.lay hp);rw[B7 n2.symm,B3];unfold A04;rw[A19,List.map_drop]
theorem C4a:FK P w base 1 T.bT D0e:=by
 refine T.bT.F.ok D5g (λJ H J J h=>?_) (λJ J J J H J Q J hr h=>?_)
 ·obtain⟨a,l,rfl,_⟩:=h;rfl
 ·obtain⟨a,l,rfl,⟨ns,p,b,c,u,v,hl,hp,ha⟩,k⟩:=h;have ne:=B1l hl ha;refine⟨_,(B5 (V4 (F0 A2f (F0 A03 (C7 F1 (pv 0) A7) A7) A7) (m8 (pv 0) A7 Z0))
   (B5 (V4 (F0 A2f (F0 A03 (C7 F1 (pv 0) A7) A7) A7) (m8 (pv 0) A7 Z0))
   (C1 (E3 (F0 N3 (C7 F1 (pv 0) A7) (C7 F1 (pv 0) A7)))))),?_⟩
  refine⟨_,rfl,a,_,_,_,rfl,rfl,SqL.of ha,rfl,_,_,rfl,rfl,.inr ⟨DD,DD⟩,_,_,rfl,rfl,(by first | decide | (dsimp only;decide)),_,rfl,a,_,_,_,rfl,rfl,ha,rfl,?_⟩;refine⟨_,rfl,a,_,_,_,rfl,rfl,SqL.of B3,rfl,_,_,rfl,rfl,.inr ⟨DD,DD⟩,_,_,rfl,rfl,(by first | decide | (dsimp only;decide)),_,rfl,a,_,_,_,rfl,rfl,B3,rfl,?_⟩;refine⟨_,rfl,a,_,_,_,rfl,rfl,SqL.of B3,rfl,_,rfl,a,_,_,_,rfl,rfl,SqL.of B3,rfl,_,_,rfl,rfl,?_⟩;exact k _ _ ⟨ns,p,b,c,_,_,by rw[B7 ne,B7 ne];exact hl,hp,B3⟩ λb o e nb=>by rw[B7 nb,B7 nb];exact e
theorem D5m:FK P w base 2 T.dX D0f:=by
 refine T.dX.F.ok B8g (λJ H J J h=>?_) (λJ J J J H J Q J hr h=>?_)
 ·obtain⟨a,l,rfl,_⟩:=h;rfl
 ·obtain⟨a,l,rfl,⟨ns,p,b,c,u,v,hl,hp,ha⟩,k⟩:=h;have ne:=B1l hl ha;refine⟨_,(B5 (pS (i:=1) B8g.nd A7)
   (B5 (K5 (J6 (K6 x6 (C7 F1 (pv 0) A7) (J2 Z1 rfl T.bq V9 (A1 (C7 F1 (pv 0) A7) A3 B0)) (D1 _))
   (C1 (pS (i:=1) B8g.nd (J2 C0h rfl T.jd C1h (A1 (C7 F1 (C7 F1 (pv 0) A7) (C7 F1 (pv 0) A7)) A3 B0))))
   K2))
   (B5 (B97 (pv 0) A7 C1g A7 C78 Z0)
   (B5 (K5 (J6 (K6 B4c (pv 1) (F0 U5 A7 A7) (D1 _))
   (C1 (V4 (pv 1) (m8 (pv 0) A7 Z0)))
   (C1 (V4 A7 (m8 (pv 0) A7 Z0)))))
   (B5 (V4 (F0 N3 (F0 A2f (F0 N3 (C7 F1 (pv 0) A7) (F0 A2f (pv 1) A7)) A7) A7) (m8 (pv 0) A7 Z0))
   (B5 (V4 (F0 N3 (F0 A2f (F0 N3 (F0 A03 (C7 F1 (pv 0) A7) A7) (F0 A2f (pv 1) A7)) A7) A7) (m8 (pv 0) A7 Z0))
   (B5 (A0k (pcF T.bT (C4a T) hr (A1 (pv 0) A3 A0)))
   (C1 (A0k (pcF T.bT (C4a T) hr (A1 (pv 0) A3 A0))))))))))),?_⟩
  refine⟨fun σ H1=>H=H1/\∃z:Int,σ=[some (.ref a),some (.int z)],?_,?_⟩
  ·refine⟨_,rfl,a,_,_,_,rfl,rfl,SqL.of ha,rfl,_,rfl,a,_,_,_,rfl,rfl,SqL.of ha,rfl,l,_,rfl,.inl (SqL.of hl),_,_,rfl,rfl,_,rfl,?_⟩;refine A7a (λhlt=>?_) (λJ=>⟨rfl,_,rfl⟩);have hlt':p<(ns.length:Int):=by simpa using hlt
   obtain⟨z,hz⟩:=D0c hp hlt';exact⟨_,rfl,a,_,_,_,rfl,rfl,SqL.of ha,rfl,_,rfl,a,_,_,_,rfl,rfl,SqL.of ha,rfl,l,_,_,_,rfl,rfl,SqL.of hl,hz,_,rfl,rfl,_,rfl⟩
  ·rintro σ H1 ⟨rfl,z,rfl⟩;refine⟨_,rfl,a,_,_,_,rfl,rfl,(by first | decide | (dsimp only;decide)),SqL.of ha,rfl,_,_,rfl,rfl,a,_,_,_,rfl,rfl,ha,rfl,?_⟩;refine⟨fun σ H1=>σ=[some (.ref a),some (.int z)]/\Hd H1 a l/\Kp a H H1,?_,?_⟩
   ·refine⟨_,rfl,_,_,rfl,rfl,⟨DD,DD,DD⟩,_,_,rfl,rfl,_,rfl,?_⟩;refine A7a (λJ=>?_) (λJ=>?_)
    ·refine⟨_,rfl,_,rfl,a,_,_,_,rfl,rfl,B3,rfl,rfl,⟨ns,p+1,_,_,_,_,by rw[B7 ne,B7 ne];exact hl,OO,B3⟩,λb o e nb=>by rw[B7 nb,B7 nb];exact e⟩
    ·refine⟨_,rfl,a,_,_,_,rfl,rfl,B3,rfl,rfl,⟨ns,p+1,_,_,_,_,by rw[B7 ne,B7 ne];exact hl,OO,B3⟩,λb o e nb=>by rw[B7 nb,B7 nb];exact e⟩
   ·rintro σ H1 ⟨rfl,⟨ns,p,b,c,u,v,hl,hp,ha⟩,k1⟩;have ne:=B1l hl ha;refine⟨_,rfl,a,_,_,_,rfl,rfl,SqL.of ha,rfl,_,rfl,_,_,rfl,rfl,(by first | decide | (dsimp only;decide)),_,_,rfl,rfl,_,_,rfl,rfl,(by first | decide | (dsimp only;decide)),_,_,rfl,rfl,_,rfl,a,_,_,_,rfl,rfl,ha,rfl,?_⟩;refine⟨_,rfl,a,_,_,_,rfl,rfl,SqL.of B3,rfl,_,_,rfl,rfl,.inr ⟨DD,DD⟩,_,rfl,_,_,rfl,rfl,(by first | decide | (dsimp only;decide)),_,_,rfl,rfl,_,_,rfl,rfl,(by first | decide | (dsimp only;decide)),_,_,rfl,rfl,_,rfl,a,_,_,_,rfl,rfl,B3,rfl,?_⟩;refine⟨_,rfl,a,l,rfl,⟨ns,p,_,_,_,_,by rw[B7 ne,B7 ne];exact hl,hp,B3⟩,λr H2 h2 k2=>?_⟩;refine⟨_,rfl,a,l,rfl,h2,λr H3 h3 k3=>?_⟩;exact k H3 h3 (((k1.trans λb o e nb=>by rw[B7 nb,B7 nb];exact e).trans k2).trans k3)
theorem D5n:FK P w base 3 T.ae D0g:=by
 refine T.ae.F.ok A8e (λJ H Q J h=>?_) (λJ J J J H J Q J hr h=>?_)
 ·obtain⟨a,l,m,rfl,_⟩:=h;rfl
 ·obtain⟨a,l,m,rfl,hd,hm0,hm1,k⟩:=h;refine⟨_,(B5 (K5 (J6 (PW.pt (A61 (K6 Q4 (C7 F1 (pv 0) A7) A7 (D1 _)) (A60 (K6 Q4 (C7 F1 (pv 0) A7) A7 (D1 _)))))
   (C1 (A0k (pcF T.dX (D5m T) hr (A1 (pv 0) A3 A0))))
   K2))
   (B5 (K5 (J6 (K6 A4u (C7 F1 (pv 0) A7) A7 (D1 _))
   (B5 (pS (i:=2) A8e.nd (F0 A2f (C7 F1 (pv 0) A7) (pv 1)))
   (B5 (V4 (F0 B4n (C7 F1 (pv 0) A7) (pv 1)) (m8 (pv 0) A7 Z0))
   (C1 (E3 (pv 2)))))
   K2))
   (B5 (B97 (pv 0) A7 C1g A7 C79 Z0)
   (B5 (pS (i:=3) A8e.nd (pcF T.bT (C4a T) hr (A1 (pv 0) A3 A0)))
   (B5 (pS (i:=4) A8e.nd A7)
   (B5 (A4t m6 (K6 x6 (pv 4) (pv 1) (D1 _))
   (B5 (pS (i:=3) A8e.nd (F0 N3 (F0 A03 (pv 3) A7) (pcF T.bT (C4a T) hr (A1 (pv 0) A3 A0))))
   (C1 (pS (i:=4) A8e.nd (F0 A03 (pv 4) A7)))))
   (C1 (E3 (F0 A2f (pv 3) (pv 1)))))))))),?_⟩
  refine⟨fun σ H1=>σ=[some (.ref a),some (.int m),none,none,none]/\Hd H1 a l/\Kp a H H1,?_,?_⟩
  ·obtain⟨ns,p,b,c,u,v,hl,hp,ha⟩:=id hd;refine⟨_,rfl,a,_,_,_,rfl,rfl,SqL.of ha,rfl,rfl,_,rfl,?_⟩;refine A7a (λJ=>?_) (λJ=>E4 ⟨rfl,hd,.refl a H⟩);refine⟨_,rfl,a,_,_,_,rfl,rfl,SqL.of ha,rfl,rfl,_,rfl,?_⟩;refine A7a (λJ=>?_) (λJ=>⟨rfl,hd,.refl a H⟩);exact⟨_,rfl,a,l,rfl,hd,λH1 h1 k1=>⟨rfl,h1,k1⟩⟩
  ·rintro σ H1 ⟨rfl,⟨ns,p,b,c,u,v,hl,hp,ha⟩,k1⟩;have ne:=B1l hl ha;refine⟨fun σ H2=>H1=H2/\σ=[some (.ref a),some (.int m),none,none,none],?_,?_⟩
   ·refine⟨_,rfl,a,_,_,_,rfl,rfl,SqL.of ha,rfl,_,_,rfl,rfl,_,rfl,?_⟩;refine A7a (λJ=>?_) (λJ=>⟨rfl,rfl⟩);refine⟨_,rfl,a,_,_,_,rfl,rfl,SqL.of ha,rfl,_,rfl,_,_,rfl,rfl,hm0,?_⟩;refine⟨_,rfl,a,_,_,_,rfl,rfl,SqL.of ha,rfl,_,rfl,_,_,rfl,rfl,⟨hm0,hm1⟩,_,rfl,a,_,_,_,rfl,rfl,ha,rfl,?_⟩;refine⟨_,rfl,?_⟩;exact k _ _ (B9x _ OO) (C7i _ hm0) ⟨ns,p,_,_,_,_,by rw[B7 ne];exact hl,hp,B3⟩ (k1.trans λb o e nb=>by rw[B7 nb];exact e)
   ·rintro σ H2 ⟨rfl,rfl⟩;refine⟨_,rfl,a,_,_,_,rfl,rfl,(by first | decide | (dsimp only;decide)),SqL.of ha,rfl,_,_,rfl,rfl,a,_,_,_,rfl,rfl,ha,rfl,?_⟩;refine⟨_,rfl,a,l,rfl,⟨ns,p,_,_,_,_,by rw[B7 ne];exact hl,hp,B3⟩,λr H3 h3 k3=>?_⟩;have k3':Kp a H H3:=(k1.trans λb o e nb=>by rw[B7 nb];exact e).trans k3;refine C8g (fun σ H4=>∃(val sz:Int),σ=[some (.ref a),some (.int m),none,some (.int val),some (.int sz)]/\Hd H4 a l/\Kp a H H4/\0<sz)
     (fun σ J=>match σ with | [_,_,_,_,some (.int sz)]=>(m-sz).toNat | _=>0) ⟨r,4294967296,rfl,h3,k3',DD⟩ ?_ (fun σ H Q Q' f ⟨v,e1,u,e2,i,j,e3,e4,c,e5,q⟩=>⟨v,e1,u,e2,i,j,e3,e4,c,e5,f _ _ q⟩)
    rintro σ H4 ⟨val,sz,rfl,h4,k4,hsz⟩;refine⟨_,rfl,_,rfl,_,_,rfl,rfl,_,rfl,?_⟩;refine A7a (λhlt=>?_) (λJ=>?_)
    ·have hlt':sz<m:=by simpa using hlt
     refine⟨_,rfl,_,_,rfl,rfl,.inr ⟨DD,DD⟩,_,rfl,a,l,rfl,h4,λr H5 h5 k5=>⟨_,_,rfl,rfl,?_⟩⟩;refine⟨_,rfl,_,_,rfl,rfl,.inr ⟨DD,DD⟩,?_⟩;refine⟨⟨_,sz*4294967296,rfl,h5,k4.trans k5,OO⟩,?_⟩;show (m-sz*4294967296).toNat<(m-sz).toNat
     omega
    ·refine⟨_,rfl,_,rfl,_,_,rfl,rfl,hm0,?_⟩;exact k _ _ (B9x _ OO) (C7i _ hm0) h4 k4
local macro_rules|`(tactic|left)=>mqT ""
local macro_rules|`(tactic|array_get_dec)=>mqT "B5d dIl dIv B48 B5a B5f "
local macro_rules|`(tactic|sizeOf_list_dec)=>mqT "Blk "
theorem X3 {k:Nat}{A:Around}(hr:P8 k A):A.units+64<cLine:=hr.units
def C4b:DSp:=λds Q=>∃m:Int,ds=[.none,.int m]/\0<m/\m<100000000000000000000000000000000000000000000000000000000000000/\∀r:Int,0<=r->r<m->Q (.int r)
theorem D5o {F:Addr->Prop}{hand:Option (Addr×Addr)}{H:Hp}{vs:List V}{ds:List PyData}{ms:List Md}(a:d8 F hand H (.hd::ms) vs ds):∃q vs' d ds',hand=some q/\vs=.ref q.1::vs'/\ds=d::ds'/\d8 F hand H ms vs' ds':=by
 cases a with
 | cons x t=>obtain⟨q,e,rfl⟩:=x;exact⟨q,_,_,_,e,rfl,rfl,t⟩
theorem A36:FK P w base 3 T.ae (spD [.hd,.sh] C4b):=(D5n T).imp λvs H Q E h=>by
 obtain⟨F,hand,ds,Qd,h1,h2,h3,a,⟨m,rfl,m0,m1,hr⟩,h5⟩:=h;obtain⟨q,vs',d,ds',e,rfl,e2,a⟩:=D5o a;cases e2;subst e;cases a with
 | cons x t=>cases t;cases (show ThV F H _ (.int m) from x);exact⟨q.1,q.2,m,rfl,h3 q rfl,m0,m1,λr H' r0 r1 hd kp=>h5 _ _ _ (hr r r0 r1) (.int r) (λb o eb n=>kp b o eb (n q rfl)) λq' e'=>by cases e';exact hd⟩
def oD:Option Int->PyData
 | none=>.none
 | some i=>.int i
def onD:Option Nat->PyData
 | none=>.none
 | some n=>.int (n:Nat)
def X4 (ns:List Int):List PyData:=ns.map PyData.int
def C5 (t:Tb):List PyData:=t.map oD
def rnL (t:Rn):List PyData:=t.map onD
def Q9 (r:Rw):PyData:=.tuple [.list (C5 r.1),.list (rnL r.2)]
def N9 (w:Wy):PyData:=.tuple [.int (w.1:Nat),.int (w.2.1:Nat),.int w.2.2]
def J0 (m:Nat)(ws:List Wy):PyData:=.tuple [.int (m:Nat),.list (ws.map N9)]
def A0e:Ef->PyData
 | none=>.none
 | some (l,g,t)=>.tuple [.int l,.int g,.int t]
def F3 (ns:List Nat):List PyData:=ns.map λn=>.int (n:Nat)
def Y5 (p:List Nat×Int):PyData:=.tuple [.list (F3 p.1),.int p.2]
local macro_rules|`(tactic|right)=>mqT "oD onD A0e Q9 J0 N9 Y5 O9 "
local macro_rules|`(tactic|array_mem_dec)=>mqT "B5d dIl dIv B48 B5a B5f oD onD A0e Q9 J0 N9 Y5 O9 "
local macro_rules|`(tactic|decreasing_trivial_pre_omega)=>mqT "Blk oD onD A0e Q9 J0 N9 Y5 O9 "
theorem A8f {t:Tb}{p:Nat}(h:p<t.length):atI (C5 t) ((p:Nat):Int)=some (oD (gt t p)):=A2j (by unfold C5;rw[P6,A9l h];rfl)
theorem C4c {t:Rn}{p:Nat}(h:p<t.length):atI (rnL t) ((p:Nat):Int)=some (onD (gt t p)):=A2j (by unfold rnL;rw[P6,A9l h];rfl)
theorem B24 {ws:List Wy}{n:Nat}{w:Wy}(h:ws[n]?=some w):atI (ws.map N9) ((n:Nat):Int)=some (N9 w):=A2j (by rw[P6,h];rfl)
theorem A93 {n j:Nat}(h:j<n):ixN n ((j:Nat):Int)=some j:=by
 unfold ixN;rw[if_pos OO,if_pos (OO)];simp
theorem B25 {α:Type}{xs:List α}{x:α}(h:xs.getLast?=some x):atI xs (-1)=some x:=by
 obtain⟨ys,rfl⟩:=List.getLast?_eq_some_iff.mp h;exact B1d ys x
def D5p:DSp:=λds Q=>∃st lv ch:Int,ds=[.int st,.int lv,.int ch]/\Q (oD (J8 st lv ch))
def D5q:DSp:=λds Q=>∃(st lv:Int)(cs:List Int),ds=[.int st,.int lv,.list (X4 cs)]/\cs.length<=900/\Q (.list (X4 (P9 st lv cs)))
def D5r:DSp:=λds Q=>∃st:Int,ds=[.int st]/\Q (A0e (some (0,0,st)))
def D5s:DSp:=λds Q=>∃st c:Int,ds=[.int st,.int c]/\Q (A0e (A0o st c))
def D5t:DSp:=λds Q=>∃(e:Ef)(x:Int),ds=[A0e e,.int x]/\Q (oD (N2 e x))
def D5u:DSp:=λds Q=>∃a b:Ef,ds=[A0e a,A0e b]/\Q (A0e (g4 a b))
def D5v:DSp:=λds Q=>∃(st:Int)(cs:List Int),ds=[.int st,.list (X4 cs)]/\Q (A0e (fxF st cs))
def A2x (d:PyData):Bool:=A0b "int" d&&!A0b "bool" d
def C4d:DSp:=λds Q=>∃d,ds=[d]/\Q (.bool (A2x d))
def D5w:DSp:=λds Q=>∃(m:Int)(n:Int),ds=[.int m,.int n]/\Q (.bool (decide (0<=n/\n<m)))
def D5x:DSp:=λds Q=>∃a b:Option Int,ds=[oD a,oD b]/\Q (.bool (Z5 a b))
def D5y:DSp:=λds Q=>∃(st:Int)(t:Tb)(w:Wy),ds=[.int st,.list (C5 t),N9 w]/\w.1<t.length/\Q (oD (O6 st t w))
theorem C4e:FK P w base 1 T.bI (spD [.sh,.sh,.sh] D5p):=by
 refine J3 T.bI.F C3z rfl (λC cdv A outer s H E hr=>⟨_,(@G8 _ _ _ _ _ _ (J7 (pS (i:=3) C3z.nd (N7 N3 b8 (A5 (pv 1)) (A5 (pv 2))))) (G8 (X1 (Q6 x6 A7k (A5 (pv 3)) F7 (D1 _))
   (E5 (F8 O4))
   Y1)
   (E5 (F8 (o9 B41 (J2 (A1q rfl) rfl T.dv A1u (E2 (A5 (pv 3)) (E2 (A5 (pv 0)) G7 A0) A0))))))),λds Q hl h=>?_⟩)
 obtain⟨st,lv,ch,rfl,q⟩:=h;left;unfold J8 at q;by_cases c:lv+ch<0
 ·rw[decide_eq_true c,if_pos rfl];rw[if_pos c] at q;exact q
 ·rw[decide_eq_false c,if_neg P4];rw[if_neg c] at q;exact q
theorem A94:FK P w base 1 T.ak (spD [.sh] C4d):=by
 refine J3 T.ak.F D3u rfl (λC cdv A outer s H E hr=>⟨_,(@E5 _ _ _ _ (@F8 _ _ _ _ _ (@A08 _ _ _ _ _ _ _ _ (B1s D0v (J2 B1j rfl T.ck A9b (A1 (pv 0) (A1 (A80 (v:=V.ty "int") rfl T.fY A9c rfl) A3 A0) A0))) (z5 (D0j (B1s D0w (J2 B1j rfl T.ck A9b (A1 (pv 0) (A1 (A80 (v:=V.ty "bool") rfl T.jl C9o rfl) A3 A0) A0)))))))),λds Q hl h=>?_⟩);obtain⟨d,rfl,q⟩:=h;left;unfold A2x at q;cases d <;> exact q
theorem B8k:FK P w base 2 T.av (spD [.sh,.sh] D5w):=by
 refine J3 T.av.F D30 rfl (λC cdv A outer s H E hr=>⟨_,(E5 (F8 (A08 (F5 (pcF T.ak (A94 T) hr (B9 (A5 (pv 1)) F4 A0))) (z5 (A9f V6 x6 F7 (A5 (pv 1)) (A5 (pv 0))))))),λds Q hl h=>?_⟩);obtain⟨m,n,rfl,q⟩:=h;left;refine⟨_,rfl,?_⟩;left;by_cases c:0<=n
 ·by_cases c2:n<m
  ·simpa [c,c2,A2x,A0b,tyD,C4d] using q
  ·simpa [c,c2,A2x,A0b,tyD] using q
 ·simpa [c,A2x,A0b,tyD] using q
theorem D5z:FK P w base 1 T.cJ (spD [.sh,.sh] D5x):=by
 refine J3 T.cJ.F D37 rfl (λC cdv A outer s H E hr=>⟨_,(E5 (F8 (A08 (A07 A2g A5h (A5 (pv 0)) O4 (D1 _)) (z5 (B4x (A07 m9 A2o (A5 (pv 1)) O4 (D1 _)) (z5 (A07 A4u A7l (A5 (pv 0)) (A5 (pv 1)) (D1 _)))))))),λds Q hl h=>?_⟩);obtain⟨a,b,rfl,q⟩:=h;cases a with
 | none=>left;exact q
 | some x=>
  cases b with
  | none=>left;exact q
  | some y=>left;exact q
theorem D50:FK P w base 2 T.bO (spD [.sh,.sh,.sh] D5y):=by
 refine J3 T.bO.F C31 rfl (λC cdv A outer s H E hr=>⟨_,(@G8 _ _ _ _ _ _ (J7 (pS (i:=3) C31.nd (C9 (pv 1) (C9 (pv 2) (D8 (cII T.g_START)))))) (@G8 _ _ _ _ _ _ (X1 (Q6 m9 A2o (A5 (pv 3)) O4 (D1 _))
   (E5 (F8 O4))
   Y1) (E5 (F8 (F5 (pcF T.bI (C4e T) hr (B9 (A5 (pv 0)) (B9 (A5 (pv 3)) (B9 (C9 (pv 2) (D8 (cII T.g_CHANGE))) F4 B0) A0) A0))))))),λds Q hl h=>?_⟩)
 obtain⟨st,t,w,rfl,hw,q⟩:=h;right;rw[A8f hw];unfold O6 at q;cases e:gt t w.1 with
 | none=>rw[e] at q;right;exact q
 | some l=>rw[e] at q;right;exact⟨_,_,_,rfl,q⟩
theorem D51:FK P w base 1 T.df (spD [.sh,.sh] D5t):=by
 refine J3 T.df.F D3z rfl (λC cdv A outer s H E hr=>⟨_,(@G8 _ _ _ _ _ _ (X1 (PW.pt (A46 (Q6 m9 A2o (A5 (pv 0)) O4 (D1 _)) (A7i (Q6 x6 A7k (A5 (pv 1)) (C9 (pv 0) (D8 (cII T.g_LEAST))) (D1 _)))))
   (E5 (F8 O4))
   Y1) (E5 (F8 (o9 B41 (J2 (A1q rfl) rfl T.dv A1u (E2 (N7 N3 b8 (A5 (pv 1)) (C9 (pv 0) (D8 (cII T.g_GAIN)))) (E2 (C9 (pv 0) (D8 (cII T.g_TOP))) G7 B0) E9)))))),λds Q hl h=>?_⟩)
 obtain⟨e,x,rfl,q⟩:=h;rcases e with _ | ⟨l,g,t⟩
 ·right;exact q
 ·unfold N2 at q;dsimp only at q;right;by_cases c:x<l
  ·rw[if_pos c] at q;simp only[c,decide_true,if_true];exact q
  ·rw[if_neg c] at q;simp only[c,decide_false,A8u,if_false];exact q
theorem D52:FK P w base 2 T.dh (spD [.sh,.sh] D5u):=by
 refine J3 T.dh.F C30 rfl (λC cdv A outer s H E hr=>⟨_,(@G8 _ _ _ _ _ _ (@X1 _ _ _ _ _ _ _ _ _ (PW.pt (A46 (Q6 m9 A2o (A5 (pv 0)) O4 (D1 _)) (A46 (Q6 m9 A2o (A5 (pv 1)) O4 (D1 _)) (A7i (Q6 x6 A7k (C9 (pv 0) (D8 (cII T.g_TOP))) (C9 (pv 1) (D8 (cII T.g_LEAST))) (D1 _)))))) (E5 (F8 O4)) Y1) (@G8 _ _ _ _ _ _ (@J7 _ _ _ _ _ (@C2 _ _ 2 _ _ _ _ C30.nd rfl (B2 rfl) (@o9 _ _ _ _ _ _ B1o (@J2 _ _ _ _ _ _ _ _ _ (B08 rfl) rfl T.eE A41 (E2 (C9 (pv 0) (D8 (cII T.g_LEAST))) (E2 (N7 A65 B1m (C9 (pv 1) (D8 (cII T.g_LEAST))) (C9 (pv 0) (D8 (cII T.g_GAIN)))) G7 E9) B0) DD DD B0 ((A6 E9 A2)))) (by rfl) (by first | exact .inl rfl | exact .inr rfl | assumption))) (@E5 _ _ _ _ (@F8 _ _ _ _ _ (@Z3 _ _ _ _ _ _ (@E2 _ _ _ _ _ _ (A5 (pv 2)) (@E2 _ _ _ _ _ _ (N7 N3 b8 (C9 (pv 0) (D8 (cII T.g_GAIN))) (C9 (pv 1) (D8 (cII T.g_GAIN)))) (E2 (F5 (pcF T.df (D51 T) hr (B9 (A5 (pv 1)) (B9 (C9 (pv 0) (D8 (cII T.g_TOP))) F4 B0) A0))) G7 C0) E9) A0)))))),λds Q hl h=>?_⟩);obtain⟨a,b,rfl,q⟩:=h;rcases a with _ | ⟨l1,g1,t1⟩
 ·right;exact q
 ·rcases b with _ | ⟨l2,g2,t2⟩
  ·right;exact q
  ·right;by_cases c:t1<l2
   ·rw[A9m (a:=(l1,g1,t1)) (b:=(l2,g2,t2)) c] at q;simp only[c,decide_true,if_true];exact q
   ·rw[A76 (a:=(l1,g1,t1)) (b:=(l2,g2,t2)) c] at q;simp only[c,decide_false,A8u,if_false];refine⟨some (l2,g2,t2),t1,rfl,?_⟩;have e:oD (N2 (some (l2,g2,t2)) t1)=.int (if t2<t1+g2 then t2 else t1+g2):=by
     unfold N2;dsimp only;rw[if_neg c];rfl
    rw[e];left;simp only[A0e] at q;exact⟨DD,q⟩
theorem D53:FK P w base 1 T.aQ (spD [.sh] D5r):=by
 refine J3 T.aQ.F D3x rfl (λC cdv A outer s H E hr=>⟨_,(E5 (F8 (Z3 (E2 F7 (E2 F7 (E2 (A5 (pv 0)) G7 A0) E6) E6)))),λds Q hl h=>?_⟩);obtain⟨st,rfl,q⟩:=h;right;exact⟨DD,q⟩
theorem D54:FK P w base 1 T.aZ (spD [.sh,.sh] D5s):=by
 refine J3 T.aZ.F D3y rfl (λC cdv A outer s H E hr=>⟨_,(@G8 _ _ _ _ _ _ (X1 (Q6 x6 A7k (N7 N3 b8 (A5 (pv 0)) (A5 (pv 1))) F7 (D1 _))
   (E5 (F8 O4))
   Y1) (@E5 _ _ _ _ (@F8 _ _ _ _ _ (@Z3 _ _ _ _ _ _ (@E2 _ _ _ _ _ _ (o9 B1o (J2 (B08 rfl) rfl T.eE A41 (E2 F7 (E2 (A0a (A5 (pv 1))) G7 C1j) E6))) (E2 (A5 (pv 1)) (E2 (o9 B41 (J2 (A1q rfl) rfl T.dv A1u (E2 (A5 (pv 0)) (E2 (N7 N3 b8 (A5 (pv 0)) (A5 (pv 1))) G7 E9) A0))) G7 C0) A0) C0))))),λds Q hl h=>?_⟩)
 obtain⟨st,c,rfl,q⟩:=h;unfold A0o at q;right;by_cases d:st+c<0
 ·rw[if_pos d] at q;simp only[d,decide_true,if_true];exact q
 ·rw[if_neg d] at q;simp only[d,decide_false,A8u,if_false];exact⟨DD,q⟩
theorem D55:FK P w base 3 T.bZ (spD [.sh,.sh] D5v):=by
 have jy:=@D52 P w K mg base T;have jz:=T.dh.b;refine J3 T.bZ.F B2x rfl (λC cdv A outer s H E hr=>⟨_,(@G8 _ _ _ _ _ _ (J7 (pS (i:=2) B2x.nd (F5 (pcF T.aQ (D53 T) hr (B9 (A5 (pv 0)) F4 A0))))) (@G8 _ _ _ _ _ _ (@A7p _ _ _ _ _ _ (@A2e _ _ _ _ _ _ _ _ m6 rfl (A3r (pv 1)) (B1x (O8 (i:=3) B2x.nd)) (@E5 _ _ _ _ (@J7 _ _ _ _ _ (@C2 _ _ 2 _ _ _ _ B2x.nd rfl (B2 rfl) (@F5 _ _ _ _ _ _ _ (@A9 _ _ _ _ _ _ _ _ _ _ _ _ _ _ _ _ jy (hr.mono DD) rfl T.dh.m T.dh.F.kp jz .nil A4 (B9 (A5 (pv 2)) (B9 (F5 (pcF T.aZ (D54 T) hr (B9 (A5 (pv 0)) (B9 (A5 (pv 3)) F4 A0) A0))) F4 C0) A0) DD A0 ((A6 C0 A2)))) (by rfl) (by first | exact .inl rfl | exact .inr rfl | assumption)))) (by intro _;rfl))) (E5 (F8 (A5 (pv 2)))))),λds Q hl h=>?_⟩);obtain⟨st,cs,rfl,q⟩:=h;left;refine⟨st,rfl,?_⟩
 array_get_dec
 refine⟨λr ρ=>∃(cs':List Int)(e:Ef)(z0 z:Sl),r=X4 cs'/\ρ=[Sl.sh (.int st),z0,Sl.sh (A0e e),z]/\Q (A0e (foF st e cs')),⟨cs,_,_,_,rfl,rfl,q⟩,?_,?_⟩
 ·rintro x r ρ ⟨cs',e,z0,z,h1,rfl,q⟩;cases cs' with
  | nil=>cases h1
  | cons c cs'=>
   cases (show x::r=PyData.int c::X4 cs' from h1)
   sizeOf_list_dec
   refine⟨_,_,rfl,?_⟩;left;refine⟨_,_,rfl,?_⟩;exact⟨cs',_,_,_,rfl,rfl,q⟩
 ·rintro ρ ⟨cs',e,z0,z,h1,rfl,q⟩;cases cs' with
  | nil=>left;exact q
  | cons c cs'=>cases h1
theorem D56:FK P w base 2 T.aE (spD [.sh,.sh,.sh] D5q):=by
 refine J3 T.aE.F B2w rfl (λC cdv A outer s H E hr=>⟨_,(@G8 _ _ _ _ _ _ (A3v (pS (i:=3) B2w.nd (c9 (E2 (A5 (pv 1)) G7 A0)))) (@G8 _ _ _ _ _ _ (@A7p _ _ _ _ _ _ (@A2e _ _ _ _ _ _ _ _ m6 rfl (A3r (pv 2)) (B1x (O8 (i:=4) B2w.nd)) (@G8 _ _ _ _ _ _ (J7 (pS (i:=5) B2w.nd (F5 (pcF T.bI (C4e T) hr (B9 (A5 (pv 0)) (B9 (C9 (pv 3) (A0a F7)) (B9 (A5 (pv 4)) F4 A0) B0) A0))))) (G8 (X1 (Q6 m9 A2o (A5 (pv 5)) O4 (D1 _))
   (E5 (F8 (A5 (pv 3))))
   Y1)
   (E5 (A9h (A0k (Z2 A6x B0x B0y A69 (pv 3) (A1 (A5 (pv 5)) A3 A0))))))) (by intro _;rfl))) (E5 (F8 (A5 (pv 3)))))),λds Q hl h=>?_⟩)
 obtain⟨st,lv,cs,rfl,hn,q⟩:=h
 array_get_dec
 refine⟨DD,λr ρ=>∃(cs' ys:List Int)(l:Int)(z0 z1 z2:Sl),r=X4 cs'/\ρ=[Sl.sh (.int st),Sl.sh (.int lv),z0,Sl.ow (X4 (ys++[l])),z1,z2]/\ys.length+cs'.length=cs.length/\ys++P9 st l cs'=P9 st lv cs,⟨cs,[],lv,_,_,_,rfl,rfl,by simp,rfl⟩,?_,?_⟩
 ·rintro x r ρ ⟨cs',ys,l,z0,z1,z2,h1,rfl,h2,h3⟩;cases cs' with
  | nil=>cases h1
  | cons c cs'=>
   cases (show x::r=PyData.int c::X4 cs' from h1);have hlast:atI (X4 (ys++[l])) (-1)=some (.int l):=B25 (by unfold X4;simp)
   sizeOf_list_dec
   rw[hlast];left;refine⟨_,_,_,rfl,?_⟩;cases e:J8 st l c with
   | none=>rw[D14 e] at h3;right;rw[h3];exact q
   | some v=>rw[D15 e] at h3;right;refine⟨by unfold X4;rw[B6,S8];simp at h2 ⊢;omega,cs',ys++[l],v,z0,_,_,rfl,by rw[show X4 (ys++[l]++[v])=X4 (ys++[l])++[.int v] by unfold X4;simp],by simp at h2 ⊢;omega,by rw[<-h3];simp⟩
 ·rintro ρ ⟨cs',ys,l,z0,z1,z2,h1,rfl,h2,h3⟩;cases cs' with
  | nil=>left;have e:ys++[l]=P9 st lv cs:=h3;rw[e];exact q
  | cons c cs'=>cases h1
theorem C4f {H H':Hp}(k:Kq none H H'):Same H H':=λb o e=>k b o e λq hq=>nomatch hq
abbrev TT0:Addr->Prop:=λJ=>True
theorem A14 {a R:TS}{D:A0j}{σ:Lake.St}{H:Hp}(h:∀W:TS,W=R->A81 a W D σ H):A81 a R D σ H:=h R rfl
theorem Q0 (W:TS){a R:TS}{D:A0j}{σ:Lake.St}{H:Hp}(e:W=A81 a R)(h:∀W':TS,W'=R->A81 a W' D σ H):W D σ H:=by rw[e];exact h R rfl
abbrev Q1 (H:Hp):Addr->Prop:=λb=>H b=none\/∃xs,H b=some (.tup xs)
theorem V1 {ms:List Md}{sp:DSp}{vs:List V}{ds:List PyData}{H:Hp}{Q:VK}{E:XK}(Qd:PyData->Prop)(ar:d8 TT0 none H ms vs ds)(h:sp ds Qd)(k:∀d v H',Qd d->ThV TT0 H' v d->Same H H'->Q v H'):spD ms sp vs H Q E:=
 ⟨TT0,none,ds,Qd,⟨λJ J=>trivial,λJ J J=>trivial⟩,λq hq=>(nomatch hq),λq hq=>(nomatch hq),ar,h,λd v H' a b c J=>k d v H' a b (C4f c)⟩
theorem D57 {sp:DSp}{H:Hp}{Q:VK}{E:XK}{hd hl:Addr}(Qd:PyData->Prop)(d:Hd H hd hl)(h:sp [.none] Qd)(k:∀d v H',Qd d->ThV (λb=>b≠hd) H' v d->Kq (some (hd,hl)) H H'->Hd H' hd hl->Q v H'):spD [.hd] sp [.ref hd] H Q E:=by
 have d0:=d;obtain⟨_,_,_,_,_,_,_,_,e⟩:=d;exact⟨λb=>b≠hd,some (hd,hl),[.none],Qd,⟨(λb z y=>by rw[y,e] at z;cases z),(λb xs z y=>by rw[y,e] at z;cases z)⟩,λq hq=>by cases hq;exact λz=>z rfl,λq hq=>by cases hq;exact d0,.cons ⟨_,rfl,rfl⟩ .nil,h,λd v H' a b c z=>k d v H' a b c (z _ rfl)⟩
theorem M4 {F G:Addr->Prop}{H H':Hp}:∀{t:Tb}{us:List V},B4 F H us (C5 t)->B4 G H' us (C5 t)
 | [],_,h=>by cases h;exact .nil
 | o::t,_,h=>by
  cases h with
  | cons x r=>
   cases o with
   | none=>cases x;exact .cons .non (M4 r)
   | some i=>cases x;exact .cons (.int _) (M4 r)
theorem C4g {F G:Addr->Prop}{H H':Hp}:∀{ns:List Nat}{us:List V},B4 F H us (F3 ns)->X2 G H' us (F3 ns) []
 | [],_,h=>by cases h;exact .nil
 | n::ns,_,h=>by
  cases h with
  | cons x r=>cases x;exact X2.cons (fp:=[]) (fps:=[]) (.int _) (C4g r)
theorem D58 {F G:Addr->Prop}{H H':Hp}{ns:List Nat}{us:List V}(t:B4 F H us (F3 ns)):B4 G H' us (F3 ns):=(C4g (G:=G) (H':=H') t).th
theorem _root_.Lake.Same.early {H H':Hp}(s:Same H H'){b:Addr}(h:H' b=none):H b=none:=by
 cases z:H b with
 | none=>rfl
 | some o=>rw[s _ _ z] at h;cases h
theorem C4h {H H':Hp}(s:Same H H'){b:Addr}(h:Q1 H' b):Q1 H b:=by
 rcases h with h | ⟨xs,h⟩
 ·exact .inl (s.early h)
 ·cases z:H b with
  | none=>exact .inl z
  | some o=>have:=s _ _ z;rw[h] at this;cases this;exact .inr ⟨xs,z⟩
theorem A95 {H H':Hp}(s:Same H H'){b:Addr}{xs:List V}(h:Q1 H b)(e:H' b=some (.lst xs)):H b=none:=by
 rcases h with h | ⟨ys,h⟩
 ·exact h
 ·rw[s _ _ h] at e;cases e
theorem B8l {ms:List Md}{sp:DSp}{vs:List V}{ds:List PyData}{H:Hp}{Q:VK}{E:XK}{hd hl:Addr}(Qd:PyData->Prop)(d:Hd H hd hl)(ar:d8 (λb=>b≠hd) (some (hd,hl)) H ms vs ds)(h:sp (.none::ds) Qd)(k:∀d v H',Qd d->ThV (λb=>b≠hd) H' v d->Kq (some (hd,hl)) H H'->Hd H' hd hl->Q v H'):spD (.hd::ms) sp (.ref hd::vs) H Q E:=by
 have d0:=d;obtain⟨_,_,_,_,_,_,_,_,e⟩:=d;exact⟨λb=>b≠hd,some (hd,hl),.none::ds,Qd,⟨(λb z y=>by rw[y,e] at z;cases z),(λb xs z y=>by rw[y,e] at z;cases z)⟩,λq hq=>by cases hq;exact λz=>z rfl,λq hq=>by cases hq;exact d0,.cons ⟨_,rfl,rfl⟩ ar,h,λd v H' a b c z=>k d v H' a b c (z _ rfl)⟩
def spN (sp:DSp):Sp:=λvs H Q J=>∃ds Qd,B4 TT0 H vs ds/\sp ds Qd/\∀d v H',Qd d->ThV (Q1 H) H' v d->Same H H'->Q v H'
theorem _root_.Lake.Same.upd {H:Hp}{p:Addr}{o:HO}(h:H p=none):Same H (upd H p o):=λb o' e=>by rw[B7 (w6 e h)];exact e
theorem _root_.Lake.Same.tr {H H1 H2:Hp}(a:Same H H1)(b:Same H1 H2):Same H H2:=λc o e=>b _ _ (a _ _ e)
theorem ThV.keep {F:Addr->Prop}{H H':Hp}{v:V}{d:PyData}(t:ThV F H v d)(s:Same H H'):ThV F H' v d:=t.mv λb o z e=>⟨z,s _ _ e⟩
theorem B4.keep {F:Addr->Prop}{H H':Hp}{v:List V}{d:List PyData}(t:B4 F H v d)(s:Same H H'):B4 F H' v d:=t.mv λb o z e=>⟨z,s _ _ e⟩
theorem ThV.any {F:Addr->Prop}{H:Hp}{v:V}{d:PyData}(t:ThV F H v d):ThV TT0 H v d:=t.mv λb o z e=>⟨trivial,e⟩
theorem B26 {F:Addr->Prop}{H:Hp}:∀{vs:List V}{ds:List PyData}{i:Nat}{x:V},B4 F H vs ds->vs[i]?=some x->∃d,ds[i]?=some d/\ThV F H x d
 | _,_,_,_,.nil,e=>nomatch e
 | _,_,0,_,.cons x _,e=>by cases e;exact⟨_,rfl,x⟩
 | _,_,i+1,_,.cons _ t,e=>B26 (i:=i) t e
theorem D59 {x:Str}{nn j:Nat}{σ:Lake.St}{tt:CA->TT}{te:CA->TE}{H1:Hp}{Q:List V->Hp->Prop}(Pv:Nat->List V->Hp->Prop)(hz:x.length<sizeLine)(h0:Pv 0 [] H1)
  (hl:∀i ys H,Pv i ys H->ys.length<=i)
  (hs:∀i c ys H,(cp x)[i]?=some c->Pv i ys H->∀a:CA,tt a ((S4 nn j σ).set j (some (.str ⟨#[c]⟩))) H λb H2=>if b=true then te a ((S4 nn j σ).set j (some (.str ⟨#[c]⟩))) H2 λy H3=>Pv (i+1) (ys++[y]) H3 else Pv (i+1) ys H2)
  (hd:∀ys H,Pv x.length ys H->Q ys H):A3j σ nn j tt te (Its x) H1 Q:=by
 refine⟨λi m ys H=>m=x.length-i/\i<=x.length/\Pv i ys H,⟨x.length,by simp,P5 _,h0⟩,?_⟩;rintro i m ys H ⟨rfl,hi,p⟩;have hy:=hl i ys H p;refine⟨OO,?_⟩;by_cases hlt:i<x.length
 ·refine .inr ⟨hlt,Pv (i+1),λys' H' p'=>⟨x.length-(i+1),OO,rfl,hlt,p'⟩,λy H' z=>?_⟩;obtain⟨rfl,c,hc,rfl⟩:=z;exact hs i c ys _ (by rw[cp,B9q];exact hc) p
 ·have e:i=x.length:=by omega
  subst e;exact .inl ⟨E8 _,hd ys H p⟩
def spB (f:Str->Bool)(P0:Str->Prop):Sp:=λvs H Q J=>∃x,vs=[.str x]/\P0 x/\∀H',Same H H'->Q (.bl (f x)) H'
theorem sz1 {x:Str}(h:x.length<=1000000):x.length<sizeLine:=A0i h (by rw[sizeLine_eq];decide)
theorem fgL(k:Nat):decide (k∈[48,49,50,51,52,53,54,55,56,57])=(decide (48<=k)&&decide (k<=57)):=by
 rw[<-Bool.decide_and];exact decide_eq_decide.mpr ((List.mem_range'_1 (s:=48) (n:=10)).trans (and_congr_right λJ=>Nat.lt_succ_iff))
theorem D6a:FK P w base 1 T.aP (spB (λx=>Y4 (cp x)) λx=>x.length<=1000000):=by
 refine T.aP.F.ok D4v (λJ H Q J h=>?_) (λJ J J s H J Q J hr h=>?_)
 ·obtain⟨x,rfl,_⟩:=h;rfl
 ·obtain⟨x,rfl,hl,told⟩:=h;have hz:=sz1 hl;refine⟨_,(B5 (K5 (J6 (PW.pt (A3d (T0 (B06 V6 V6 A7 (J2 C9b rfl T.bq V9 (A1 (pv 0) A3 A0)) (cII T.g_MOST_FIGURES))) (A3c (T0 (U4 (J2 (C1f rfl) rfl T.je C1i (A1 (S1 (M7.new (N:=["word"]) (osc:=B1 B2o) KK) rfl (D25 (pv 0)) (λJ=>W8) (λJ=>(y7 C8j (pv 1) (C4 (v:=V.str "0123456789") rfl T.g_FIGURES.m ⟨_,rfl⟩) (by with_unfolding_all rfl)))) A3 b7)))))))
   (C1 (E3 A6z))
   K2))
   (C1 (E3 (B92 (y7 Q4 (pv 0) F6 (D1 _)) (B01 (y7 A85 (C7 C02 (pv 0) A7) F6 (D1 _))))))),?_⟩
  try dsimp only[G5,Cx.nox]
  refine⟨fun σ' H'=>σ'=[some (.str x)]/\Same H H'/\1<=x.length/\x.length<=60/\(cp x).all g8=true,?_,?_⟩
  ·refine⟨_,rfl,x,rfl,A24 hz,_,_,rfl,rfl,_,rfl,?_⟩;have fin:Y4 (cp x)=false->Q (.bl false) H:=λe=>by
    have:=told H λJ J z=>z;dsimp only at this;rw[e] at this;exact this
   by_cases c1:(1:Int)<=(x.length:Int)
   ·rw[decide_eq_true c1];refine G4 ⟨_,_,rfl,rfl,_,rfl,?_⟩;by_cases c2:(x.length:Int)<=60
    ·rw[decide_eq_true c2];refine E4 ⟨_,rfl,x,rfl,?_⟩;refine D59 (λi ys Hn=>Hn=H/\ys=((cp x).take i).map λc=>V.bl (g8 c)) hz ⟨rfl,rfl⟩ ?_ ?_ ?_
     ·rintro i ys Hn ⟨_,rfl⟩;rw[B6,Z9];exact B9y _ _
     ·rintro i k ys Hn hk ⟨rfl,rfl⟩ ca;unfold o8;refine G4 ⟨_,rfl,_,_,rfl,rfl,rfl,?_⟩;rw[A27,hk,Q3];congr 1;show [V.bl (!(Builtin.Str.occurrences (Str.ofString "0123456789") ⟨#[k]⟩ 0 10 1).isEmpty)]=_;rw[show (10:Nat)=(Str.ofString "0123456789").length by decide,StrLaws.found_one];show [V.bl (decide (k∈[48,49,50,51,52,53,54,55,56,57]))]=[V.bl (g8 k)];exact congrArg (λb=>[V.bl b]) (fgL k)
     rintro ys Hn ⟨rfl,rfl⟩ p hp;have sp:=Same.upd (o:=.lst (((cp x).take x.length).map λc=>V.bl (g8 c))) hp;refine⟨p,(cp x).map g8,rfl,SqL.of (B3.trans ?_),_,rfl,?_⟩
     ·rw[N6,V0,A4r];rfl
     rw[List.all_map];cases e:(cp x).all g8 with
     | true=>rw[show ((cp x).all (id ∘ g8))=true from e];exact E4 ⟨rfl,sp,OO,OO,rfl⟩
     | false=>
      rw[show ((cp x).all (id ∘ g8))=false from e];refine G4 ?_;have:=told _ sp;dsimp only at this;rw[show Y4 (cp x)=false from Bool.eq_false_iff.mpr λz=>by
       have:=(A34 z).2.2.1;rw[C3m this] at e;cases e] at this
      exact this
    ·rw[decide_eq_false c2];exact G4 (fin (Bool.eq_false_iff.mpr λe=>by have:=(A34 e).2.1;rw[V0] at c2;omega))
   ·rw[decide_eq_false c1];exact E4 ⟨_,rfl,G4 (fin (Bool.eq_false_iff.mpr λe=>by have:=(A34 e).1;rw[V0] at c1;omega))⟩
  ·rintro σ' H' ⟨rfl,s,l1,l2,al⟩;have told':=told H' s;refine⟨_,rfl,rfl,_,rfl,?_⟩;by_cases c:V.str x=V.str (Str.ofString "0")
   ·rw[decide_eq_true c];refine G4 ?_;cases c;exact told'
   ·rw[decide_eq_false c];refine E4 ?_;have hc:∃k,(cp x)[0]?=some k:=⟨_,P7 (by rw[<-V0];omega)⟩;obtain⟨k,hk⟩:=hc;refine⟨_,rfl,x,0,k,rfl,rfl,A24 hz,?_,rfl,?_⟩
    ·exact A2j (j:=0) hk
    ·show Q (V.bl !decide (V.str ⟨#[k]⟩=V.str (Str.ofString "0"))) H';have e:(!decide (V.str ⟨#[k]⟩=V.str (Str.ofString "0")))=Y4 (cp x):=by
      rw[A25,B9n,decide_eq_false_iff_not];have hh:(cp x).head?=some k:=by rw[List.head?_eq_getElem?];exact hk
      constructor
      ·intro n;unfold Y4;simp only[X6,A8v,decide_eq_true_eq];refine⟨⟨⟨l1,l2⟩,al⟩,.inr λz=>n ?_⟩;rw[hh] at z;cases z;rfl
      ·intro f z;cases z;rcases (A34 f).2.2.2 with z | z
       ·exact c (congrArg V.str (B19 z))
       ·exact z hh
     rw[e];exact told'
theorem D6b:FK P w base 2 T.cf (spB A0p λx=>x.length<=1000000):=by
 refine T.cf.F.ok D4w (λJ H J J h=>?_) (λJ J J s H J Q J hr h=>?_)
 ·obtain⟨x,rfl,_⟩:=h;rfl
 ·obtain⟨x,rfl,hl,told⟩:=h;have hz:=sz1 hl;refine⟨_,(B5 (K5 (J6 (U4 (Z2 A6y PySem.F.slot_str_startswith PySem.F.type_str_startswith D22 (pv 0) (A1 F6 A3 E6)))
   (C1 (E3 (B37 (pcF T.aP (D6a T) hr (A1 (A4y D27 (pv 0) (A67 A7) A66) A3 B0)) (B01 (y7 A85 (pv 0) F6 (D1 _))))))
   K2))
   (C1 (E3 (pcF T.aP (D6a T) hr (A1 (pv 0) A3 A0))))),?_⟩
  try dsimp only[G5,Cx.nox]
  have G:∀(y:Str)(Hx:Hp)(Qv:VK),y.length<=1000000->(∀H',Same Hx H'->Qv (.bl (Y4 (cp y))) H')->spB (λx=>Y4 (cp x)) (λx=>x.length<=1000000) ([.str y]++[]) Hx Qv E0:=λy Hx Qv hy q=>⟨y,rfl,hy,q⟩;have hst:Txt.startswith x (Str.ofString "-")=decide ((cp x).head?=some 45):=by
   rw[A25,decide_eq_true_eq];unfold Txt.startswith;rw[X6,decide_eq_true_eq];have:=StrLaws.subAt_one x 45 0;rw[List.head?_eq_getElem?];exact this
  refine⟨fun σ' H'=>σ'=[some (.str x)]/\H'=H/\(cp x).head?≠some 45,?_,?_⟩
  ·refine⟨_,rfl,rfl,_,_,rfl,rfl,_,rfl,?_⟩;rw[hst];by_cases c:(cp x).head?=some 45
   ·rw[decide_eq_true c];have h1:1<=x.length:=by
     rw[V0];cases e:cp x with
     | nil=>rw[e] at c;cases c
     | cons _ _=>simp
    have hs:=D3n x h1;have hls:(Txt.slice x (some 1) none).length<=1000000:=by
     rw[V0,hs,List.length_tail,<-V0];omega
    have eB:A0p x=(Y4 (cp x).tail&&decide ((cp x).tail≠[48])):=by unfold A0p nmL;rw[if_pos c]
    refine G4 ⟨_,rfl,_,rfl,x,rfl,A24 hz,?_⟩;refine⟨_,rfl,hls,λH' s=>?_⟩;have told':=told H' s;rw[eB] at told';refine⟨_,rfl,?_⟩;rw[show (λx=>Y4 (cp x)) (Txt.slice x (some 1) none)=Y4 (cp x).tail by dsimp only;rw[hs]];cases e:Y4 (cp x).tail with
    | false=>rw[e] at told';exact E4 told'
    | true=>
     rw[e] at told';refine G4 ⟨_,rfl,rfl,?_⟩;rw[show (!decide (V.str x=V.str (Str.ofString "-0")))=(true&&decide ((cp x).tail≠[48])) by
      rw[Bool.true_and,A25,B9n,decide_eq_false_iff_not,decide_eq_true_eq];constructor
      ·intro n z;refine n (congrArg V.str (B19 ?_));cases q:cp x with
       | nil=>rw[q] at c;cases c
       | cons a r=>rw[q] at c z;cases c;rw[show r=[48] from z];rfl
      ·intro n z;rw[V.str.inj z] at n;exact n (DD)]
     exact told'
   ·rw[decide_eq_false c];exact E4 ⟨rfl,rfl,c⟩
  ·rintro σ' _ ⟨rfl,rfl,c⟩;refine⟨_,rfl,G x _ _ hl λH' s=>?_⟩;have:=told H' s;unfold A0p nmL at this;rw[if_neg c] at this;exact this
def D6c:Sp:=λvs H Q J=>∃x,vs=[.str x]/\x.length<=1000000/\A0p x=true/\∀H',Same H H'->Q (.int (A79 x)) H'
theorem C4i:FK P w base 3 T.aW D6c:=by
 refine T.aW.F.ok D4x (λJ H J J h=>?_) (λJ J J s H J Q J hr h=>?_)
 ·obtain⟨x,rfl,_⟩:=h;rfl
 ·obtain⟨x,rfl,hl,hn,told⟩:=h;have hz:=sz1 hl;refine⟨_,(B5 (K5 (J6 (T0 (U4 (pcF T.cf (D6b T) hr (A1 (pv 0) A3 A0))))
   (C1 W9)
   K2))
   (C1 (E3 (T2 C3e rfl T.fY A9c (A1 (pv 0) A3 A0))))),?_⟩
  try dsimp only[G5,Cx.nox]
  refine⟨fun σ' H'=>σ'=[some (.str x)]/\Same H H',?_,?_⟩
  ·refine⟨_,rfl,x,rfl,hl,λH' s=>⟨_,rfl,?_⟩⟩;rw[hn];exact E4 ⟨rfl,s⟩
  ·rintro σ' H' ⟨rfl,s⟩;obtain⟨e,l⟩:=B52 hn;exact⟨_,rfl,x,_,rfl,e,OO,told H' s⟩
def lvW:Option Int->Str
 | none=> "-"
 | some n=>itx n
def D6d:Sp:=λvs H Q J=>∃x o,vs=[.str x]/\x=lvW o/\(∀n,o=some n->n.natAbs<10^60)/\∀H',Same H H'->Q (match o with | none=>.non | some n=>.int n) H'
theorem D6e:FK P w base 4 T.cw D6d:=by
 refine T.cw.F.ok D4y (λJ H J J h=>?_) (λJ J J s H J Q J hr h=>?_)
 ·obtain⟨x,o,rfl,_⟩:=h;rfl
 ·obtain⟨x,o,rfl,rfl,hn,told⟩:=h;refine⟨_,(C1 (E3 (A62 (K6 Q4 (pv 0) (C4 (v:=V.str "-") rfl T.g_NONE.m ⟨_,rfl⟩) (D1 _)) m7 (pcF T.aW (C4i T) hr (A1 (pv 0) A3 A0))))),?_⟩
  try dsimp only[G5,Cx.nox]
  refine⟨_,rfl,rfl,_,rfl,?_⟩;cases o with
  | none=>rw[show decide (V.str (lvW none)=V.str (Str.ofString "-"))=true from decide_eq_true rfl];exact G4 (told H λJ J z=>z)
  | some n=>
   have h60:=hn n rfl;rw[show decide (V.str (lvW (some n))=V.str (Str.ofString "-"))=false from decide_eq_false λz=>by
    have e:itx n=Str.ofString "-" :=V.str.inj z;have:=A8a h60;rw[e] at this;exact absurd this (DD)]
   refine E4 ⟨_,rfl,itx n,rfl,by have:=W3 h60;omega,A8a h60,λH' s=>?_⟩;rw[B55 h60];exact told H' s
def wrT:V->Str
 | .non=> "-"
 | .int n=>itx n
 | .str y=>y
 | _=>Str.empty
def A8g:V->Prop
 | .non=>True
 | .int n=>n.natAbs<10^60
 | .str y=>y.length<=60
 | _=>False
theorem C4j:∀{v:V},A8g v->(wrT v).length<=400
 | .non,_=>by show Str.length "-" <=400;decide
 | .int n,h=>by have:=W3 h;show (itx n).length<=400;omega
 | .str y,h=>J1 h (DD)
def C4k:Sp:=λvs H Q J=>∃v,vs=[v]/\A8g v/\∀H',Same H H'->Q (.str (wrT v)) H'
theorem D6f:FK P w base 1 T.cL C4k:=by
 refine T.cL.F.ok D4z (λJ H J J h=>?_) (λJ J J J H J Q J hr h=>?_)
 ·obtain⟨v,rfl,_⟩:=h;rfl
 ·obtain⟨v,rfl,hw,told⟩:=h;refine⟨_,(C1 (E3 (A62 (K6 m9 (pv 0) m7 (D1 _)) (C4 (v:=V.str "-") rfl T.g_NONE.m ⟨_,rfl⟩) (T2 C3g rfl T.cZ A06 (A1 (pv 0) A3 A0))))),?_⟩
  try dsimp only[G5,Cx.nox]
  have told0:=told H λJ J z=>z;refine⟨_,rfl,rfl,?_⟩;cases v with
  | non=>exact⟨_,rfl,G4 told0⟩
  | int n=>exact⟨_,rfl,E4 ⟨_,rfl,.inl ⟨n,rfl,A1b hw,told0⟩⟩⟩
  | str y=>exact⟨_,rfl,E4 ⟨_,rfl,.inr ⟨_,rfl,told0⟩⟩⟩
  | bl b=>exact hw.elim
  | byt b=>exact hw.elim
  | flt b=>exact hw.elim
  | ref a=>exact hw.elim
  | ty n=>exact hw.elim
abbrev Z6 (ws:List Str):Str:=Str.join " " ws
theorem tj (ws:List Str):Txt.join " " ws=Z6 ws:=StrLaws.glued_eq_join _ _
theorem A6f {K:A8}{a0:Addr}{xs:List V}{nn j:Nat}{σ:Lake.St}{te:CA->TE}{H1:Hp}{Q:List V->Hp->Prop}(f:V->Str)(hz:xs.length<sizeLine)(hk:∀H,Same H1 H->SqL K H a0 xs)
  (hs:∀x∈xs,∀H,Same H1 H->∀(a:CA)(R:V->Hp->Prop),(∀H',Same H H'->R (.str (f x)) H')->te a ((S4 nn j σ).set j (some x)) H R)
  (hd:∀H,Same H1 H->Q (xs.map λx=>.str (f x)) H):A3j σ nn j (λJ=>o8) te (Itl K a0) H1 Q:=by
 refine A7d (λi ys Hn=>Same H1 Hn/\ys=(xs.take i).map λx=>.str (f x)) hz ⟨λJ J z=>z,rfl⟩ ?_ ?_ ?_
 ·rintro i ys Hn _ ⟨s,rfl⟩;exact⟨by rw[B6,Z9];exact B9y _ _,hk _ s⟩
 ·rintro i x ys Hn hx ⟨s,rfl⟩ ca;unfold o8;refine G4 (hs x (R6 hx) Hn s ca _ λH' s'=>⟨s.tr s',?_⟩);rw[A27,hx,Q3];rfl
 ·rintro ys Hn ⟨s,rfl⟩;rw[A4r];exact hd Hn s
def D6g:Sp:=λvs H Q J=>∃l ws,vs=[.ref l]/\H l=some (.lst (ws.map V.str))/\(∀w∈ws,w.length<=400)/\ws.length<=1000/\∀H',Same H H'->Q (.str (Z6 ws)) H'
def C4l:Sp:=λvs H Q J=>∃l us,vs=[.ref l]/\H l=some (.lst us)/\(∀u∈us,A8g u)/\us.length<=900/\∀H',Same H H'->Q (.str (Z6 (us.map wrT))) H'
def mvW (a b:List Nat):Str:=Z6 ((("fell" : Str)::a.map (λn:Nat=>itx (n:Int)))++(("rose" : Str)::b.map λn:Nat=>itx (n:Int)))
def B8m:Sp:=λvs H Q J=>∃v a b,vs=[v]/\ThV TT0 H v (.tuple [.list (F3 a),.list (F3 b)])/\(∀n∈a,n<12)/\(∀n∈b,n<12)/\a.length<=12/\b.length<=12/\∀H',Same H H'->Q (.str (mvW a b)) H'
def A2y (x a b c:Int):Str:=Str.empty++itx x++ ":" ++itx a++ ">" ++itx b++ ":" ++itx c
def D6h:Sp:=λvs H Q J=>∃t x a b c,vs=[.ref t]/\H t=some (.tup [.int x,.int a,.int b,.int c])/\x.natAbs<10^60/\a.natAbs<10^60/\b.natAbs<10^60/\c.natAbs<10^60/\∀H',Same H H'->Q (.str (A2y x a b c)) H'
theorem C4m {n:Nat}:∀{ws:List Str},(∀w∈ws,w.length<=n)->(ws.map (λy=>y.length)).sum<=ws.length*n
 | [],_=>by simp
 | w::r,h=>by
  have h1:=h w D6;have h2:=C4m (ws:=r) λv hv=>h v (C8 _ hv);rw[K9,B9t,K4,Nat.succ_mul];omega
theorem A96 {ws:List Str}(h:∀w∈ws,w.length<=400)(h1:ws.length<=1000):(ws.map (λy=>y.length)).sum+ws.length*Str.length " " <=16777216:=by
 have h2:=C4m h;have h3:ws.length*400<=1000*400:=Nat.mul_le_mul_right _ h1;have h4:Str.length " " = 1:=by decide
 rw[h4];omega
theorem A8h (a b:Str):(a++b).length=a.length+b.length:=by rw[V0,V0,V0,A1c,S8]
variable {H:Hp}
section
variable {σ:Lake.St}{acc s:Str}{tr:TJ}{Q:Str->Hp->Prop}{k n':Nat}{n:Int}
theorem S7 {ta:TE}(hn:n.natAbs<10^60)(ha:acc.length<=k)(hk:k<=10000)(q:(acc++itx n).length<=k+61->tr σ H (acc++itx n) Q)(ht:∀R:V->Hp->Prop,R (.int n) H->ta σ H R):tJc (B5z ta) tr σ H acc Q:=by
 have l:=W3 hn;have l2:(acc++itx n).length<=k+61:=by rw[A8h];omega
 exact ht _ ⟨_,.num n (A1b hn),_,rfl,J1 l2 (by rw[sizeLine_eq];omega),q l2⟩
theorem U2 (hs:s.length<=n')(ha:acc.length<=k)(hk:k+n'<=20000)(q:(acc++s).length<=k+n'->tr σ H (acc++s) Q):tJc (tC (.str s)) tr σ H acc Q:=by
 have l2:(acc++s).length<=k+n':=by rw[A8h];omega
 exact⟨_,rfl,J1 l2 (by rw[sizeLine_eq];omega),q l2⟩
end
theorem B8n:FK P w base 1 T.be D6g:=by
 refine T.be.F.ok D40 (λJ H J J h=>?_) (λJ J J J H J Q J hr h=>?_)
 ·obtain⟨l,ws,rfl,_⟩:=h;rfl
 ·obtain⟨l,ws,rfl,el,hw,hl,told⟩:=h;refine⟨_,(C1 (E3 (Z2 A6y B30 B31 A9r F6 (A1 (pv 0) A3 A0)))),?_⟩
  try dsimp only[G5,Cx.nox]
  refine⟨rfl,_,rfl,_,l,ws,rfl,rfl,SqL.of el,A96 hw hl,?_⟩;rw[tj];exact told H λJ J z=>z
theorem B8o:FK P w base 2 T.ay C4l:=by
 refine T.ay.F.ok D41 (λJ H J J h=>?_) (λJ J J s H J Q J hr h=>?_)
 ·obtain⟨l,us,rfl,_⟩:=h;rfl
 ·obtain⟨l,us,rfl,el,hw,hl,told⟩:=h;refine⟨_,(C1 (E3 (pcF T.be (B8n T) hr (A1 (S1 (M7.new (N:=["table"]) (osc:=B1 B2p) KK) rfl (W7 (pv 0)) (λJ=>W8) (λJ=>(pcF T.cL (D6f T) hr (A1 (pv 1) A3 A0)))) A3 b7)))),?_⟩
  try dsimp only[G5,Cx.nox]
  refine⟨_,rfl,l,rfl,⟨us,SqL.of el⟩,?_⟩;refine A6f wrT (A0i hl (by rw[sizeLine_eq];decide)) (λHx s=>SqL.of (s _ _ el)) (λx hx Hx s ca R hR=>⟨_,rfl,x,rfl,hw x hx,hR⟩) λHx s p hp=>?_;have sp:=Same.upd (o:=.lst (us.map λx=>V.str (wrT x))) hp;refine⟨p,us.map wrT,rfl,B3.trans (by rw[N6];rfl),λv hv=>?_,by rw[B6];omega,λH' s'=>told H' ((s.tr sp).tr s')⟩;obtain⟨u,hu,rfl⟩:=M9.mp hv;exact C4j (hw u hu)
theorem A97 {F:Addr->Prop}{H:Hp}:∀{ns:List Nat}{us:List V},B4 F H us (F3 ns)->us=ns.map λn:Nat=>V.int (n:Int)
 | [],_,h=>by cases h;rfl
 | n::ns,_,h=>by
  cases h with
  | cons x r=>cases x;rw[A97 r];rfl
theorem A98:FK P w base 2 T.ah B8m:=by
 refine T.ah.F.ok B8d (λJ H J J h=>?_) (λJ J J s H J Q J hr h=>?_)
 ·obtain⟨v,a,b,rfl,_⟩:=h;rfl
 ·obtain⟨v,a,b,rfl,tv,ha,hb,la,lb,told⟩:=h;refine⟨_,(B5 (A9a (i:=1) B8d.nd rfl (B2 rfl) (M7.new (N:=["moved","fell","rose"]) (osc:=B1 A9u) KK) rfl (W7 (C7 U7 (pv 0) A7)) (λJ=>W8) (λJ=>(T2 A2h rfl T.cZ A06 (A1 (pv 3) A3 A0))))
   (B5 (A9a (i:=2) B8d.nd rfl (B2 rfl) (M7.new (N:=["moved","fell","rose"]) (osc:=B1 A9u) KK) rfl (W7 (C7 U7 (pv 0) A7)) (λJ=>W8) (λJ=>(T2 A2h rfl T.cZ A06 (A1 (pv 3) A3 A0))))
   (C1 (E3 (pcF T.be (B8n T) hr (A1 (F0 A1s (F0 A1s (F0 A1s (U6 (A1 F6 A3 E6)) (pv 1)) (U6 (A1 F6 A3 E6))) (pv 2)) A3 E9)))))),?_⟩
  try dsimp only[G5,Cx.nox]
  obtain⟨p,us,rfl,_,ep,tu⟩:=Y0 tv;obtain⟨v1,v2,rfl,t1,t2⟩:=X9 tu;obtain⟨la1,ua,rfl,_,ea,tua⟩:=M2 t1;obtain⟨lb1,ub,rfl,_,eb,tub⟩:=M2 t2;have hua:ua=a.map λn:Nat=>V.int (n:Int):=A97 tua;have hub:ub=b.map λn:Nat=>V.int (n:Int):=A97 tub;subst hua hub;have fI:∀(xs:List Nat),(∀n∈xs,n<12)->∀x∈xs.map (λn:Nat=>V.int (n:Int)),∃n:Nat,n<12/\x=V.int (n:Int):=λxs h x hx=>by
   obtain⟨n,hn,rfl⟩:=M9.mp hx;exact⟨n,h n hn,rfl⟩
  refine⟨_,rfl,p,_,_,_,rfl,rfl,SqT.of ep,rfl,la1,rfl,⟨_,SqL.of ea⟩,?_⟩;refine A6f wrT (by rw[B6,sizeLine_eq];omega) (λHx s=>SqL.of (s _ _ ea)) (λx hx Hx s ca R hR=>?_) λH1 s1 l1 h1=>?_
  ·obtain⟨n,hn,rfl⟩:=fI a ha x hx;exact⟨_,rfl,_,rfl,A1b (show ((n:Nat):Int).natAbs<10^60 from Q7 hn DD),hR _ λJ J z=>z⟩
  have s2:=s1.tr (Same.upd (o:=.lst ((a.map λn:Nat=>V.int (n:Int)).map λx=>V.str (wrT x))) h1);have el1:upd H1 l1 (.lst ((a.map λn:Nat=>V.int (n:Int)).map λx=>V.str (wrT x))) l1=some (.lst (a.map λn:Nat=>V.str (itx (n:Int)))):=B3.trans (by rw[N6];rfl);generalize upd H1 l1 (.lst ((a.map λn:Nat=>V.int (n:Int)).map λx=>V.str (wrT x)))=H2 at s2 el1 ⊢;dsimp only[J5];refine⟨_,rfl,p,_,_,_,rfl,rfl,SqT.of (s2 _ _ ep),rfl,lb1,rfl,⟨_,SqL.of (s2 _ _ eb)⟩,?_⟩;refine A6f wrT (by rw[B6,sizeLine_eq];omega) (λHx s=>SqL.of (s _ _ (s2 _ _ eb))) (λx hx Hx s ca R hR=>?_) λH3 s3 l3 h3=>?_
  ·obtain⟨n,hn,rfl⟩:=fI b hb x hx;exact⟨_,rfl,_,rfl,A1b (show ((n:Nat):Int).natAbs<10^60 from Q7 hn DD),hR _ λJ J z=>z⟩
  have s4:=s3.tr (Same.upd (o:=.lst ((b.map λn:Nat=>V.int (n:Int)).map λx=>V.str (wrT x))) h3);have el3:upd H3 l3 (.lst ((b.map λn:Nat=>V.int (n:Int)).map λx=>V.str (wrT x))) l3=some (.lst (b.map λn:Nat=>V.str (itx (n:Int)))):=B3.trans (by rw[N6];rfl);generalize upd H3 l3 (.lst ((b.map λn:Nat=>V.int (n:Int)).map λx=>V.str (wrT x)))=H4 at s4 el3 ⊢;dsimp only[J5];have el1':=s4 _ _ el1;have sz:∀{n:Nat},n<=1000->n<=sizeLine:=λh=>J1 h (by rw[sizeLine_eq];decide);refine⟨sz DD,λp1 n1=>?_⟩;have k1:=Same.upd (o:=.lst [V.str (Str.ofString "fell")]) n1;refine⟨_,rfl,p1,l1,_,_,rfl,rfl,B3,k1 _ _ el1',sz (by simp;omega),λp2 n2=>?_⟩;obtain⟨H5,hH5⟩:∃H5,H5=upd (upd H4 p1 (.lst [V.str (Str.ofString "fell")])) p2 (.lst ([V.str (Str.ofString "fell")]++a.map λn:Nat=>V.str (itx (n:Int)))):=⟨_,rfl⟩;have e5:H5 p2=some (.lst ([V.str (Str.ofString "fell")]++a.map λn:Nat=>V.str (itx (n:Int)))):=by rw[hH5];exact B3
  have s5:Same H4 H5:=by rw[hH5];exact k1.tr (Same.upd n2)
  rw[<-hH5];clear hH5 k1 n1 n2;refine⟨sz DD,λp3 n3=>?_⟩;have k3:=Same.upd (o:=.lst [V.str (Str.ofString "rose")]) n3;refine⟨p2,p3,_,_,rfl,rfl,k3 _ _ e5,B3,sz (by simp;omega),λp4 n4=>?_⟩;have k4:=k3.tr (Same.upd (o:=.lst (([V.str (Str.ofString "fell")]++a.map λn:Nat=>V.str (itx (n:Int)))++[V.str (Str.ofString "rose")])) n4);refine⟨_,rfl,p4,l3,_,_,rfl,rfl,B3,k4 _ _ (s5 _ _ el3),sz (by simp;omega),λp5 n5=>?_⟩;refine⟨p5,(("fell" : Str)::a.map (λn:Nat=>itx (n:Int)))++(("rose" : Str)::b.map λn:Nat=>itx (n:Int)),rfl,B3.trans (by rw[Q3,K9,K9,N6,N6,m5];rfl),λw hw=>?_,by simp;omega,λH' s'=>told H' ((((s2.tr s4).tr s5).tr (k4.tr (Same.upd n5))).tr s')⟩;rcases A1j.mp hw with hw | hw
  ·rcases G1.mp hw with rfl | hw
   ·decide
   ·obtain⟨n,hn,rfl⟩:=M9.mp hw;have:=W3 (show ((n:Nat):Int).natAbs<10^60 from Q7 (ha n hn) DD);omega
  ·rcases G1.mp hw with rfl | hw
   ·decide
   ·obtain⟨n,hn,rfl⟩:=M9.mp hw;have:=W3 (show ((n:Nat):Int).natAbs<10^60 from Q7 (hb n hn) DD);omega
theorem D6i:FK P w base 1 T.cx D6h:=by
 refine T.cx.F.ok A91 (λJ H J J h=>?_) (λJ J J J H J Q J hr h=>?_)
 ·obtain⟨t,x,a,b,c,rfl,_⟩:=h;rfl
 ·obtain⟨t,x,a,b,c,rfl,et,hx,ha,hb,hc,told⟩:=h;refine⟨_,(B5 (pS (i:=1) A91.nd (C7 U7 (pv 0) A7))
   (B5 (pS (i:=2) A91.nd (C7 U7 (pv 0) A7))
   (B5 (pS (i:=3) A91.nd (C7 U7 (pv 0) A7))
   (B5 (pS (i:=4) A91.nd (C7 U7 (pv 0) A7))
   (C1 (E3 (A2v (K1 (S2 (pv 1)) (K1 F6 (K1 (S2 (pv 2)) (K1 F6 (K1 (S2 (pv 3)) (K1 F6 (K1 (S2 (pv 4)) A2u)))))))))))))),?_⟩
  try dsimp only[G5,Cx.nox]
  refine⟨_,rfl,t,_,_,_,rfl,rfl,SqT.of et,rfl,?_⟩;dsimp only[G3,J5];refine⟨_,rfl,t,_,_,_,rfl,rfl,SqT.of et,rfl,?_⟩;dsimp only[G3,J5];refine⟨_,rfl,t,_,_,_,rfl,rfl,SqT.of et,rfl,?_⟩;dsimp only[G3,J5];refine⟨_,rfl,t,_,_,_,rfl,rfl,SqT.of et,rfl,?_⟩;dsimp only[G3,J5];have l0:Str.length Str.empty<=0:=E8 _;refine S7 (k:=0) hx l0 DD (λl1=>?_) λR r=>⟨_,rfl,r⟩;refine U2 (n':=1) DD l1 DD λl2=>?_;refine S7 ha l2 DD (λl3=>?_) λR r=>⟨_,rfl,r⟩;refine U2 (n':=1) DD l3 DD λl4=>?_;refine S7 hb l4 DD (λl5=>?_) λR r=>⟨_,rfl,r⟩;refine U2 (n':=1) DD l5 DD λl6=>?_;refine S7 hc l6 DD (λl7=>?_) λR r=>⟨_,rfl,r⟩;exact⟨J1 l7 (by rw[sizeLine_eq];decide),told H λJ J z=>z⟩
def A2z (w:Wy):Wy:=(w.2.1,w.1,w.2.2)
theorem A0f {t:Tb}:(C5 t).length=t.length:=by unfold C5;rw[B6]
theorem D6j {t:Rn}:(rnL t).length=t.length:=by unfold rnL;rw[B6]
theorem A37 {t:List Nat}:(F3 t).length=t.length:=by unfold F3;rw[B6]
theorem B8p {t:Tb}{i:Nat}{x:Option Int}:(C5 t).set i (oD x)=C5 (t.set i x):=by unfold C5;rw[List.map_set]
theorem D6k {t:Rn}{i n:Nat}:(rnL t).set i (.int (n:Nat))=rnL (t.set i (some n)):=by unfold rnL;rw[List.map_set];rfl
theorem C4n {n:Nat}:A5w [PyData.none] n=rnL (F2 n none):=by
 unfold A5w rnL
 induction n with
 | zero=>rfl
 | succ n ih=>rw[A00,A00,A4n,K9,ih];rfl
theorem C4o {n:Nat}:A5w [PyData.none] n=C5 (F2 n none):=by
 unfold A5w C5
 induction n with
 | zero=>rfl
 | succ n ih=>rw[A00,A00,A4n,K9,ih];rfl
theorem D6l {ws:List Wy}:A1x (ws.map N9)=ws.zipIdx.map λp=>.tuple [.int (p.2:Nat),N9 p.1]:=by
 unfold A1x;rw[List.zipIdx_map,N6];rfl
def D6m:DSp:=λds Q=>∃(m:Nat)(ws:List Wy),ds=[J0 m ws]/\ws.length<=900/\Q (J0 m (ws.map A2z))
def D6n:DSp:=λds Q=>∃(m:Nat)(ws:List Wy)(ns:List Nat),ds=[J0 m ws,.list (F3 ns)]/\(∀n∈ns,n<ws.length)/\ns.length<=900/\Q (.list (X4 (chs ws ns)))
def D6o:DSp:=λds Q=>∃t:Tb,ds=[.list (C5 t)]/\t.length<=900/\Q (Q9 (t,F2 t.length none))
def D6p:DSp:=λds Q=>∃(m:Nat)(ws:List Wy)(st:Int)(t s:Tb),ds=[J0 m ws,.int st,.list (C5 t),.list (C5 s)]/\K0 m ws/\t.length=m/\s.length=m/\Q (Q9 (N4 m ws st t s))
def A6g (m:Nat)(ws:List Wy)(rs:List Rw):Prop:=∀r∈rs,r.2.length=m/\∀q n,gt r.2 q=some n->n<ws.length
def D6q:DSp:=λds Q=>∃(m:Nat)(ws:List Wy)(rs:List Rw)(p:Nat),ds=[J0 m ws,.list (rs.map Q9),.int (p:Nat)]/\p<m/\K0 m ws/\A6g m ws rs/\rs.length<=900/\Q (.tuple [.int ((wlk ws rs.reverse p).1:Nat),.list (F3 (wlk ws rs.reverse p).2)])
theorem D6r:FK P w base 1 T.bu (spD [.sh] D6m):=by
 refine J3 T.bu.F D33 rfl (λC cdv A outer s H E hr=>⟨_,(@E5 _ _ _ _ (@F8 _ _ _ _ _ (@Z3 _ _ _ _ _ _ (@E2 _ _ _ _ _ _ (C9 (pv 0) (D8 (cII T.g_MANY))) (@E2 _ _ _ _ _ _ (@N1 _ _ _ _ (@A2r _ _ _ _ _ _ _ _ rfl (@S1 _ _ _ _ _ _ _ _ _ _ _ _ _ _ _ (M7.new (N:=["land"]) (osc:=B1 B2a) KK) rfl (B47 (C9 (pv 0) (D8 (cII T.g_WAYS)))) (λJ=>A2q) (λJ=>(Z3 (E2 (C9 (pv 1) (D8 (cII T.g_END))) (E2 (C9 (pv 1) (D8 (cII T.g_START))) (E2 (C9 (pv 1) (D8 (cII T.g_CHANGE))) G7 B0) B0) B0))) (by rfl) (by rfl) (by intro _;rfl)))) G7 b7) B0)))),λds Q hl h=>?_⟩);obtain⟨m,ws,rfl,hn,q⟩:=h
 array_mem_dec
 refine⟨⟨rfl,by rw[B6];omega⟩,A2s (f:=λw=>N9 (A2z w)) (λw hw Q' q'=>?_) ?_⟩
 ·right;exact⟨DD,q'⟩
 ·refine⟨DD,?_⟩;unfold J0 at q;rw[N6] at q;exact q
theorem D6s:FK P w base 1 T.aB (spD [.sh,.sh] D6n):=by
 refine J3 T.aB.F D34 rfl (λC cdv A outer s H E hr=>⟨_,(E5 (F8 (N1 (A2r rfl (S1 (M7.new (N:=["land","numbers"]) (osc:=B1 B2b) KK) rfl (A3r (pv 1)) (λJ=>A2q) (λJ=>(S5 (S5 (C9 (pv 0) (D8 (cII T.g_WAYS))) (A5 (pv 2))) (D8 (cII T.g_CHANGE))))))))),λds Q hl h=>?_⟩);obtain⟨m,ws,ns,rfl,hb,hn,q⟩:=h
 array_mem_dec
 refine⟨⟨rfl,by rw[A37];omega⟩,?_⟩;unfold F3;refine A2s (f:=λn=>.int (g6 ws n)) (λn hm Q' q'=>?_) ?_
 ·obtain⟨w,hw⟩:∃w,ws[n]?=some w:=⟨_,P7 (hb n hm)⟩;right;rw[B24 hw];right;have e:g6 ws n=w.2.2:=by unfold g6;rw[hw]
  rw[e] at q';exact q'
 ·unfold X4 chs at q;rw[N6] at q;exact q
theorem C4p:FK P w base 1 T.aT (spD [.bo] D6o):=by
 refine J3 T.aT.F D38 rfl (λC cdv A outer s H E hr=>⟨_,(E5 (F8 (Z3 (E2 (N1 (B42 (T2 A3h rfl T.cE A1t (A1 (pv 0) A3 A0)))) (E2 (N1 (B1r (N1 (c9 (E2 O4 G7 E6))) (A5o (J2 Z1 rfl T.bq V9 (A1 (pv 0) A3 A0))))) G7 E9) C0)))),λds Q hl h=>?_⟩);obtain⟨t,rfl,hn,q⟩:=h;right;refine⟨DD,⟨OO,by rw[A0f];omega,DD⟩,DD,?_⟩;unfold Q9 at q;rw[A0f,show ((t.length:Nat):Int).toNat=t.length by simp,C4n];exact q
theorem C4q:FK P w base 3 T.aM (spD [.sh,.sh,.sh,.sh] D6p):=by
 refine J3 T.aM.F A8b rfl (λC cdv A outer s H E hr=>⟨_,(@G8 _ _ _ _ _ _ (A3v (pS (i:=4) A8b.nd (B42 (T2 A3h rfl T.cE A1t (A1 (pv 3) A3 A0))))) (@G8 _ _ _ _ _ _ (A3v (pS (i:=5) A8b.nd (B1r (N1 (c9 (E2 O4 G7 E6))) (C9 (pv 0) (D8 (cII T.g_MANY)))))) (@G8 _ _ _ _ _ _ (@A7p _ _ _ _ _ _ (@A2e _ _ _ _ _ _ _ _ m6 rfl (C2b (C1m rfl T.eM (A1 (C9 (pv 0) (D8 (cII T.g_WAYS))) A3 B0))) (C2c (A4s (n:=2) rfl (T1 (O8 (i:=6) A8b.nd) (T1 (O8 (i:=7) A8b.nd) A3e)))) (@G8 _ _ _ _ _ _ (J7 (pS (i:=8) A8b.nd (F5 (pcF T.bO (D50 T) hr (B9 (A5 (pv 1)) (B9 (A5 (pv 2)) (B9 (A5 (pv 7)) F4 A0) A0) A0))))) (@E5 _ _ _ _ (@X1 _ _ _ _ _ _ _ _ _ (A2m (F5 (pcF T.cJ (D5z T) hr (B9 (A5 (pv 8)) (B9 (C9 (pv 4) (C9 (pv 7) (D8 (cII T.g_END)))) F4 B0) A0)))) (G8 (A9i (V4 (A5 (pv 8)) (m8 (pv 4) (C9 (pv 7) (D8 (cII T.g_END))) Z0)))
   (E5 (A9i (V4 (A5 (pv 6)) (m8 (pv 5) (C9 (pv 7) (D8 (cII T.g_END))) Z0))))) Y1))) (by intro _;rfl))) (E5 (F8 (Z3 (E2 (A5 (pv 4)) (E2 (A5 (pv 5)) G7 A0) A0))))))),λds Q hl h=>?_⟩)
 obtain⟨m,ws,st,t,s0,rfl,ok,ht,hs,q⟩:=h;have m2:=ok.m2
 array_mem_dec
 refine⟨DD,⟨OO,OO,DD⟩,?_⟩;rw[show ((m:Nat):Int).toNat=m by simp,C4n,D6l];refine⟨λr ρ=>∃(R:List (Wy×Nat))(acc:Tb×Rn)(z1 z2 z3:Sl),r=R.map (λp=>.tuple [.int (p.2:Nat),N9 p.1])/\ρ=[Sl.sh (J0 m ws),Sl.sh (.int st),Sl.sh (.list (C5 t)),Sl.sh (.list (C5 s0)),Sl.ow (C5 acc.1),Sl.ow (rnL acc.2),z1,z2,z3]/\acc.1.length=m/\acc.2.length=m/\(∀p∈R,p.1∈ws)/\R.foldl (A3z st t) acc=N4 m ws st t s0,
  ⟨ws.zipIdx,(s0,F2 m none),_,_,_,rfl,rfl,hs,by simp,λp hp=>?_,rfl⟩,?_,?_⟩
 ·obtain⟨w,n⟩:=p;rw[C7c] at hp;exact R6 hp
 ·rintro x r ρ ⟨R,acc,z1,z2,z3,h1,rfl,l1,l2,hR,hF⟩;cases R with
  | nil=>cases h1
  | cons p R=>
   cases (show x::r=PyData.tuple [.int (p.2:Nat),N9 p.1]::R.map (λp=>.tuple [.int (p.2:Nat),N9 p.1]) from h1);have hw:=hR p D6;have e1:=ok.en _ hw;have hF':R.foldl (A3z st t) (A3z st t acc p)=N4 m ws st t s0:=hF
   sizeOf_list_dec
   refine⟨_,_,_,rfl,by rw[ht];exact ok.st _ hw,?_⟩;unfold N9;left;rw[A8f (by rw[l1];exact e1)];left;refine⟨_,_,rfl,?_⟩;unfold A3z at hF';cases c:Z5 (O6 st t p.1) (gt acc.1 p.1.2.1) with
   | true=>rw[if_pos c] at hF';left;rw[A93 (by rw[A0f,l1];exact e1)];left;rw[A93 (by rw[D6j,l2];exact e1),B8p];left;rw[D6k];exact⟨R,_,_,_,_,rfl,rfl,by rw[S3];exact l1,by rw[S3];exact l2,λp hp=>hR p (C8 _ hp),hF'⟩
   | false=>rw[if_neg (by rw[c];exact P4)] at hF';left;exact⟨R,acc,_,_,_,rfl,rfl,l1,l2,λp hp=>hR p (C8 _ hp),hF'⟩
 ·rintro ρ ⟨R,acc,z1,z2,z3,h1,rfl,l1,l2,hR,hF⟩;cases R with
  | cons p R=>cases h1
  | nil=>left;refine⟨DD,?_⟩;have hF':acc=N4 m ws st t s0:=hF;rw[<-hF'] at q;exact q
theorem C4r:FK P w base 1 T.bJ (spD [.sh,.sh,.sh] D6q):=by
 refine J3 T.bJ.F A8c rfl (λC cdv A outer s H E hr=>⟨_,(@G8 _ _ _ _ _ _ (J7 (pS (i:=3) A8c.nd (A5 (pv 2)))) (@G8 _ _ _ _ _ _ (A3v (pS (i:=4) A8c.nd (c9 G7))) (@G8 _ _ _ _ _ _ (@A7p _ _ _ _ _ _ (@A2e _ _ _ _ _ _ _ _ m6 rfl (D1k (C90 rfl T.ff (A1 (A5 (pv 1)) A3 A0))) (B1x (O8 (i:=5) A8c.nd)) (@G8 _ _ _ _ _ _ (J7 (pS (i:=6) A8c.nd (S5 (C9 (pv 5) (D8 (cII T.g_RISEN))) (A5 (pv 3))))) (@E5 _ _ _ _ (@X1 _ _ _ _ _ _ _ _ _ (Q6 A2g A5h (A5 (pv 6)) O4 (D1 _)) (@G8 _ _ _ _ _ _ (A9h (A0k (Z2 A6x B0x B0y A69 (pv 4) (A1 (A5 (pv 6)) A3 A0)))) (E5 (J7 (pS (i:=3) A8c.nd (S5 (S5 (C9 (pv 0) (D8 (cII T.g_WAYS))) (A5 (pv 6))) (D8 (cII T.g_START))))))) Y1))) (by intro _;rfl))) (E5 (F8 (Z3 (E2 (A5 (pv 3)) (E2 (N1 (D1i (C9y rfl T.cE rfl T.ff rfl (A1 (A5 (pv 4)) A3 A0)))) G7 C0) A0))))))),λds Q hl h=>?_⟩);obtain⟨m,ws,rs,p,rfl,hp,ok,hr2,hn,q⟩:=h
 array_mem_dec
 refine⟨DD,?_⟩;refine⟨λr ρ=>∃(R:List Rw)(here:Nat)(acc:List Nat)(z1 z2:Sl),r=R.map Q9/\ρ=[Sl.sh (J0 m ws),Sl.sh (.list (rs.map Q9)),Sl.sh (.int (p:Nat)),Sl.sh (.int (here:Nat)),Sl.ow (F3 acc),z1,z2]/\here<m/\A6g m ws R/\acc.length+R.length<=rs.length/\wlk ws rs.reverse p=((wlk ws R here).1,(wlk ws R here).2++acc.reverse),
  ⟨rs.reverse,p,[],_,_,by rw[List.map_reverse],rfl,hp,λr hr=>hr2 r (List.mem_reverse.mp hr),by simp,by simp⟩,?_,?_⟩
 ·rintro x r ρ ⟨R,here,acc,z1,z2,h1,rfl,hh,hR,hl2,hW⟩;cases R with
  | nil=>cases h1
  | cons r0 R=>
   cases (show x::r=Q9 r0::R.map Q9 from h1);obtain⟨l0,b0⟩:=hR r0 D6
   decreasing_trivial_pre_omega
   rw[C4c (by rw[l0];exact hh)];cases c:gt r0.2 here with
   | none=>
    right;refine⟨R,here,acc,_,_,rfl,rfl,hh,λr hr=>hR r (C8 _ hr),by simp at hl2;omega,?_⟩;rw[hW];have:wlk ws (r0::R) here=wlk ws R here:=by
     show (match gt r0.2 here with
      | none=>wlk ws R here
      | some n=>((wlk ws R (N5 ws n)).1,(wlk ws R (N5 ws n)).2++[n]))=_
     rw[c]
    rw[this]
   | some n=>
    have hn':=b0 here n c;obtain⟨w,hw⟩:∃w,ws[n]?=some w:=⟨_,P7 hn'⟩;right;refine⟨by rw[A37];simp at hl2;omega,?_⟩;rw[B24 hw];right;refine⟨R,w.1,acc++[n],_,_,rfl,by rw[show F3 (acc++[n])=F3 acc++[.int (n:Nat)] by unfold F3;simp],ok.st w (R6 hw),λr hr=>hR r (C8 _ hr),by simp at hl2 ⊢;omega,?_⟩
    ·rw[hW];have:wlk ws (r0::R) here=((wlk ws R w.1).1,(wlk ws R w.1).2++[n]):=by
      show (match gt r0.2 here with
       | none=>wlk ws R here
       | some n=>((wlk ws R (N5 ws n)).1,(wlk ws R (N5 ws n)).2++[n]))=_
      rw[c];have e:N5 ws n=w.1:=by unfold N5;rw[hw]
      show ((wlk ws R (N5 ws n)).1,(wlk ws R (N5 ws n)).2++[n])=_;rw[e]
     rw[this];simp
 ·rintro ρ ⟨R,here,acc,z1,z2,h1,rfl,hh,hR,hl2,hW⟩;cases R with
  | cons p R=>cases h1
  | nil=>
   left;refine⟨DD,?_⟩;rw[hW] at q;have e:(F3 acc).reverse=F3 acc.reverse:=by unfold F3;rw[List.map_reverse]
   rw[e];exact q
inductive Pth (ws:List Wy):Nat->List Nat->Nat->Prop
 | nil {p}:Pth ws p [] p
 | cons {n w ns q}:ws[n]?=some w->Pth ws w.2.1 ns q->Pth ws w.1 (n::ns) q
abbrev Pt:=List Nat×Int
inductive Trp (ws:List Wy):Nat->List Pt->Nat->Prop
 | nil {p}:Trp ws p [] p
 | cons {p q r pt ps}:Pth ws p pt.1 q->pt.1≠[]->1<=pt.2->pt.2<=1000000000000000000000000->(pt.2=1\/q=p)->Trp ws q ps r->Trp ws p (pt::ps) r
theorem Pth.app {ws:List Wy}{a b c:Nat}{xs ys:List Nat}(h1:Pth ws a xs b)(h2:Pth ws b ys c):Pth ws a (xs++ys) c:=by
 induction h1 with
 | nil=>exact h2
 | cons e _ ih=>exact .cons e (ih h2)
theorem Trp.app {ws:List Wy}{a b c:Nat}{xs ys:List Pt}(h1:Trp ws a xs b)(h2:Trp ws b ys c):Trp ws a (xs++ys) c:=by
 induction h1 with
 | nil=>exact h2
 | cons e1 e2 e3 e4 e5 _ ih=>exact .cons e1 e2 e3 e4 e5 (ih h2)
def prt (ns:List Nat):List Pt:=if ns.isEmpty then [] else [(ns,1)]
theorem C4s {ws:List Wy}{a b:Nat}{ns:List Nat}(h:Pth ws a ns b):Trp ws a (prt ns) b:=by
 cases h with
 | nil=>exact .nil
 | cons e t=>exact .cons (pt:=(_,1)) (.cons e t) (by simp) (show (1:Int)<=1 by decide) (show (1:Int)<=1000000000000000000000000 by decide) (.inl rfl) .nil
theorem Wk.pth {ws:List Wy}{st:Int}{b:Tb}{N:List Nat}{P:Nat->Nat}{L:Nat->Int}(W:Wk ws st b N P L){i:Nat}:∀{j:Nat},i<=j->j<=N.length->Pth ws (P i) (Tactic.seg N i j) (P j)
 | 0,h1,_=>by
  have:i=0:=by omega
  subst this;rw[A77];exact .nil
 | j+1,h1,h2=>by
  by_cases e:i=j+1
  ·subst e;rw[A77];exact .nil
  ·rw[B5l OO (OO)];obtain⟨w,hw,e1,e2,_⟩:=W.way j N[j] (P7 OO);refine (W.pth (i:=i) (j:=j) OO OO).app ?_;rw[<-e1,<-e2];exact .cons hw .nil
theorem A99 (i j:Int):min (PyData.depth (.int i)) (PyData.depth (.int j))<=64:=by show min 0 0<=64;decide
theorem B0a (i j:Int):PyData.eqv (.int i) (.int j)=(i == j):=by rw[PyData.eqv]
def D6t:DSp:=λds Q=>∃(m:Nat)(ws:List Wy)(p q:Nat)(ns:List Nat),ds=[J0 m ws,.int (p:Nat),.list (F3 ns)]/\Pth ws p ns q/\Q (.int (q:Nat))
def D6u:DSp:=λds Q=>∃(m:Nat)(ws:List Wy)(p q:Nat)(pt:Pt),ds=[J0 m ws,.int (p:Nat),Y5 pt]/\Pth ws p pt.1 q/\pt.1≠[]/\1<=pt.2/\pt.2<=1000000000000000000000000/\(pt.2=1\/q=p)/\Q (.int (q:Nat))
def D6v:DSp:=λds Q=>∃(m:Nat)(ws:List Wy)(p q:Nat)(ps:List Pt),ds=[J0 m ws,.int (p:Nat),.list (ps.map Y5)]/\Trp ws p ps q/\Q (.int (q:Nat))
def D6w:DSp:=λds Q=>∃ns:List Nat,ds=[.list (F3 ns)]/\Q (.list ((prt ns).map Y5))
theorem D6x:FK P w base 1 T.bD (spD [.sh] D6w):=by
 refine J3 T.bD.F D4a rfl (λC cdv A outer s H E hr=>⟨_,(E5 (F8 (C1y (Q6 A4u A7l (A5o (J2 Z1 rfl T.bq V9 (A1 (pv 0) A3 A0))) F7 (D1 _)) (N1 (c9 (E2 (Z3 (E2 (A5 (pv 0)) (E2 F7 G7 E6) A0)) G7 A42))) (N1 (c9 G7))))),λds Q hl h=>?_⟩);obtain⟨ns,rfl,q⟩:=h;right;cases ns with
 | nil=>exact⟨DD,q⟩
 | cons n ns=>
  have e:decide ((0:Int)<((F3 (n::ns)).length:Nat))=true:=by
   rw[A37];exact decide_eq_true (by rw[K4];omega)
  rw[e];right;exact⟨DD,DD,q⟩
theorem D6y:FK P w base 3 T.bv (spD [.sh,.sh,.sh] D6t):=by
 have cS:=@B8k P w K mg base T;have cT:=T.av.b;refine J3 T.bv.F B2y rfl (λC cdv A outer s H E hr=>⟨_,(@G8 _ _ _ _ _ _ (J7 (pS (i:=3) B2y.nd (A5 (pv 1)))) (@G8 _ _ _ _ _ _ (@A7p _ _ _ _ _ _ (@A2e _ _ _ _ _ _ _ _ m6 rfl (A3r (pv 2)) (B1x (O8 (i:=4) B2y.nd)) (@G8 _ _ _ _ _ _ (@X1 _ _ _ _ _ _ _ _ _ (PW.pt (@A46 _ _ _ _ _ _ _ _ (@A44 _ _ _ _ _ (@A2m _ _ _ _ (@F5 _ _ _ _ _ _ _ (@A9 _ _ _ _ _ _ _ _ _ _ _ _ _ _ _ _ cS (hr.mono DD) rfl T.av.m T.av.F.kp cT .nil A4 (B9 (o9 C16 (J2 Z1 rfl T.bq V9 (E2 (C9 (pv 0) (D8 (cII T.g_WAYS))) G7 B0))) (B9 (A5 (pv 4)) F4 A0) C0) DD C0 ((A6 A0 A2)))) (by intro _;rfl))) (A7i (Q6 (B1h (X3 hr)) A7m (S5 (S5 (C9 (pv 0) (D8 (cII T.g_WAYS))) (A5 (pv 4))) (D8 (cII T.g_START))) (A5 (pv 3)) (D1 _))))) (E5 (F8 O4)) Y1) (E5 (J7 (pS (i:=3) B2y.nd (S5 (S5 (C9 (pv 0) (D8 (cII T.g_WAYS))) (A5 (pv 4))) (D8 (cII T.g_END))))))) (by intro _;rfl))) (E5 (F8 (A5 (pv 3)))))),λds Q hl h=>?_⟩);obtain⟨m,ws,p,q0,ns,rfl,hp,q⟩:=h
 array_mem_dec
 refine⟨λr ρ=>∃(ns':List Nat)(p':Nat)(z:Sl),r=F3 ns'/\ρ=[Sl.sh (J0 m ws),Sl.sh (.int (p:Nat)),Sl.sh (.list (F3 ns)),Sl.sh (.int (p':Nat)),z]/\Pth ws p' ns' q0,⟨ns,p,_,rfl,rfl,hp⟩,?_,?_⟩
 ·rintro x r ρ ⟨ns',p',z,h1,rfl,hp'⟩;cases hp' with
  | nil=>cases h1
  | @cons n w ns' _ hw hp'=>
   cases (show x::r=PyData.int (n:Nat)::F3 ns' from h1);have hn:=(A0h.mp hw).1
   decreasing_trivial_pre_omega
   refine⟨_,_,rfl,?_⟩;rw[B6,decide_eq_true (show (0:Int)<=((n:Nat):Int)/\((n:Nat):Int)<((ws.length:Nat):Int) from ⟨OO,OO⟩)]
   decreasing_trivial_pre_omega
   rw[B24 hw];right;refine⟨rfl,rfl,A99 _ _,?_⟩;rw[B0a,beq_self_eq_true];right;exact⟨ns',w.2.1,_,rfl,rfl,hp'⟩
 ·rintro ρ ⟨ns',p',z,h1,rfl,hp'⟩;cases hp' with
  | nil=>left;exact q
  | cons hw hp'=>cases h1
theorem D6z:FK P w base 4 T.bx (spD [.sh,.sh,.sh] D6u):=by
 refine J3 T.bx.F C32 rfl (λC cdv A outer s H E hr=>⟨_,(@G8 _ _ _ _ _ _ (@X1 _ _ _ _ _ _ _ _ _ (PW.pt (@A46 _ _ _ _ _ _ _ _ (Q6 (B4o (X3 hr)) A7m (o9 C16 (J2 Z1 rfl T.bq V9 (E2 (C9 (pv 2) (D8 (cII T.g_NUMBERS))) G7 B0))) F7 (D1 _)) (A7i (A44 (D0l V6 V6 F7 (C9 (pv 2) (D8 (cII T.g_TIMES))) (N7 U5 A5g F7 F7)))))) (E5 (F8 O4)) Y1) (@G8 _ _ _ _ _ _ (@J7 _ _ _ _ _ (@C2 _ _ 3 _ _ _ _ C32.nd rfl (B2 rfl) (F5 (pcF T.bv (D6y T) hr (B9 (A5 (pv 0)) (B9 (A5 (pv 1)) (B9 (C9 (pv 2) (D8 (cII T.g_NUMBERS))) F4 B0) A0) A0))) (by rfl) (by first | exact .inl rfl | exact .inr rfl | assumption))) (G8 (X1 (PW.pt (B4v (Q6 A4u A7l (C9 (pv 2) (D8 (cII T.g_TIMES))) F7 (D1 _)) (B4u (Q6 (B1h (X3 hr)) A7m (A5 (pv 3)) (A5 (pv 1)) (D1 _)))))
   (E5 (F8 O4))
   Y1)
   (E5 (F8 (A5 (pv 3))))))),λds Q hl h=>?_⟩)
 obtain⟨m,ws,p,q0,⟨ns,t⟩,rfl,hp,hne,t1,t2,ht,q⟩:=h;simp only at hp hne t1 t2 ht;right;refine⟨rfl,rfl,A99 _ _,?_⟩;have hl0:PyData.eqv (.int ((F3 ns).length:Nat)) (.int 0)=false:=by
  rw[B0a,A37];cases ns with
  | nil=>exact absurd rfl hne
  | cons n r=>exact beq_eq_false_iff_ne.mpr (by simp;omega)
 rw[hl0];right;rw[decide_eq_true (show (1:Int)<=t from t1)];right;refine⟨⟨DD,DD,DD⟩,?_⟩;rw[decide_eq_true (show t<=(10:Int)^(24:Int).toNat from t2)];right;refine⟨_,_,_,_,_,rfl,hp,?_⟩;right;rcases ht with ht | ht
 ·rw[decide_eq_false (show ¬ (1:Int)<t by omega)];right;exact q
 ·subst ht;by_cases c:(1:Int)<t
  ·rw[decide_eq_true c];right;refine⟨rfl,rfl,A99 _ _,?_⟩;rw[B0a,beq_self_eq_true];right;exact q
  ·rw[decide_eq_false c];right;exact q
theorem D60:FK P w base 5 T.dl (spD [.sh,.sh,.sh] D6v):=by
 refine J3 T.dl.F A9z rfl (λC cdv A outer s H E hr=>⟨_,(@G8 _ _ _ _ _ _ (J7 (pS (i:=3) A9z.nd (A5 (pv 1)))) (@G8 _ _ _ _ _ _ (@A7p _ _ _ _ _ _ (@A2e _ _ _ _ _ _ _ _ m6 rfl (C2b (C1m rfl T.eM (A1 (A5 (pv 2)) A3 A0))) (C2c (A4s (n:=2) rfl (T1 (O8 (i:=4) A9z.nd) (T1 (O8 (i:=5) A9z.nd) A3e)))) (@G8 _ _ _ _ _ _ (J7 (pS (i:=3) A9z.nd (F5 (pcF T.bx (D6z T) hr (B9 (A5 (pv 0)) (B9 (A5 (pv 3)) (B9 (A5 (pv 5)) F4 A0) A0) A0))))) (E5 (X1 (Q6 m9 A2o (A5 (pv 3)) O4 (D1 _))
   (E5 D1b)
   Y1))) (by intro _;rfl))) (E5 (F8 (A5 (pv 3)))))),λds Q hl h=>?_⟩)
 obtain⟨m,ws,p,q0,ps,rfl,hp,q⟩:=h
 array_mem_dec
 have e0:A1x (ps.map Y5)=ps.zipIdx.map λp=>.tuple [.int (p.2:Nat),Y5 p.1]:=by
  unfold A1x;rw[List.zipIdx_map,N6];rfl
 rw[e0];refine⟨λr ρ=>∃(ps':List (Pt×Nat))(p':Nat)(z1 z2:Sl),r=ps'.map (λp=>.tuple [.int (p.2:Nat),Y5 p.1])/\ρ=[Sl.sh (J0 m ws),Sl.sh (.int (p:Nat)),Sl.sh (.list (ps.map Y5)),Sl.sh (.int (p':Nat)),z1,z2]/\Trp ws p' (ps'.map (·.1)) q0,⟨ps.zipIdx,p,_,_,rfl,rfl,by rw[show ps.zipIdx.map (·.1)=ps by simp];exact hp⟩,?_,?_⟩
 ·rintro x r ρ ⟨ps',p',z1,z2,h1,rfl,hp'⟩;cases ps' with
  | nil=>cases h1
  | cons a ps'=>
   cases (show x::r=PyData.tuple [.int (a.2:Nat),Y5 a.1]::ps'.map (λp=>.tuple [.int (p.2:Nat),Y5 p.1]) from h1);have hp2:Trp ws p' (a.1::ps'.map (·.1)) q0:=hp';cases hp2 with
   | cons e1 e2 e3 e4 e5 e6=>
    sizeOf_list_dec
    refine⟨_,_,_,_,_,rfl,e1,e2,e3,e4,e5,?_⟩;left;exact⟨ps',_,_,_,rfl,rfl,e6⟩
 ·rintro ρ ⟨ps',p',z1,z2,h1,rfl,hp'⟩;cases ps' with
  | cons a ps'=>cases h1
  | nil=>cases hp';left;exact q
theorem D61 (a b:Option Int):PyData.eqv (oD a) (oD b)=decide (a=b):=by
 cases a with
 | none=>cases b with
  | none=>rfl
  | some y=>rfl
 | some x=>cases b with
  | none=>rfl
  | some y=>
   show PyData.eqv (.int x) (.int y)=_;rw[B0a];by_cases h:x=y
   ·subst h;simp
   ·simp [h]
theorem C4t:∀a b:Tb,PyData.eqvAll (C5 a) (C5 b)=decide (a=b)
 | [],[]=>rfl
 | [],_::_=>rfl
 | _::_,[]=>rfl
 | x::a,y::b=>by
  show PyData.eqvAll (oD x::C5 a) (oD y::C5 b)=_;rw[PyData.eqvAll,D61,C4t a b];by_cases h:x=y
  ·subst h;simp
  ·simp [h]
theorem D62 (a b:Tb):PyData.eqv (.list (C5 a)) (.list (C5 b))=decide (a=b):=by rw[PyData.eqv];exact C4t a b
theorem C4u:∀t:Tb,PyData.canLayAll0 (C5 t)=true
 | []=>rfl
 | x::t=>by
  show (PyData.canLay0 (oD x)&&PyData.canLayAll0 (C5 t))=true;rw[C4u t];cases x <;> rfl
theorem C4v (t:Tb):PyData.canLay0 (.list (C5 t))=true:=by rw[PyData.canLay0];exact C4u t
theorem C4w:∀t:Tb,PyData.depthAll (C5 t)=0
 | []=>rfl
 | x::t=>by
  show max (PyData.depth (oD x)) (PyData.depthAll (C5 t))=0;rw[C4w t];cases x <;> rfl
theorem C4x (t:Tb):PyData.depth (.list (C5 t))=1:=by
 show PyData.depthAll (C5 t)+1=1;rw[C4w]
def D63:DSp:=λds Q=>∃(m:Nat)(ws:List Wy)(st:Int)(t:Tb),ds=[J0 m ws,.int st,.list (C5 t)]/\K0 m ws/\t.length=m/\Q (.list ((U0 m ws st m (t,F2 m none)).map Q9))
def D64:DSp:=λds Q=>∃(m:Nat)(ws:List Wy)(rs:List Rw),ds=[J0 m ws,.list (rs.map Q9)]/\Q (.bool (decide (m<rs.length)))
def D65:DSp:=λds Q=>∃(m:Nat)(ws:List Wy)(rs:List Rw)(r:Rw),ds=[J0 m ws,.list (rs.map Q9)]/\K0 m ws/\A6g m ws rs/\rs.length<=900/\rs.getLast?=some r/\(∃p n,gt r.2 p=some n)/\
 ∀p n,p<m->gt r.2 p=some n->Q (.tuple [.int ((wlk ws rs.reverse p).1:Nat),.list (F3 (wlk ws rs.reverse p).2)])
def B0b (p:Nat)(N:List Nat):PyData:=.tuple [.int (p:Nat),.list (F3 N)]
def D66:DSp:=λds Q=>∃(m:Nat)(ws:List Wy)(st:Int)(b:Tb)(N:List Nat)(P:Nat->Nat)(L:Nat->Int),ds=[J0 m ws,B0b (P 0) N]/\K0 m ws/\F9 m st b/\Wk ws st b N P L/\N.length=m/\
 ∀i j,i<j->j<=m->P i=P j->Q (.tuple [.list (F3 (seg N 0 i)),.list (F3 (seg N i j))])
theorem B8q {α β:Type}{f:α->β}{xs:List α}{x:α}(h:xs.getLast?=some x):(xs.map f).getLast?=some (f x):=by
 obtain⟨ys,rfl⟩:=List.getLast?_eq_some_iff.mp h;simp
theorem Wk.places {ws:List Wy}{st:Int}{b:Tb}{N:List Nat}{P:Nat->Nat}{L:Nat->Int}(W:Wk ws st b N P L):[P 0]++N.map (A2t ws)=(T5 (N.length+1)).map P:=by
 apply List.ext_getElem?;intro k;cases k with
 | zero=>simp
 | succ k=>
  rw[k0 (by simp),P6,P6];by_cases h:k<N.length
  ·rw[C7a (OO)];show (N[k]?).map (A2t ws)=some (P (k+1));obtain⟨w,hw,_,e,_⟩:=W.way k N[k] (P7 h);rw[P7 h];show some (A2t ws N[k])=_;unfold A2t;rw[hw,<-e]
  ·rw[A4p (l:=T5 _) (by rw[w4];omega)];show (N[k]?).map (A2t ws)=none;rw[A4p (OO)];rfl
theorem D67:FK P w base 4 T.bh (spD [.sh,.sh,.bo] D63):=by
 have er:=@C4q P w K mg base T;have eu:=T.aM.b;refine J3 T.bh.F B2z rfl (λC cdv A outer s H E hr=>⟨_,(@G8 _ _ _ _ _ _ (A3v (pS (i:=3) B2z.nd (c9 G7))) (@G8 _ _ _ _ _ _ (J7 (pS (i:=4) B2z.nd (F5 (pcF T.aT (C4p T) hr (A09 (pv 2) F4 A0))))) (@G8 _ _ _ _ _ _ (@A9j _ _ _ _ _ (@A4t _ _ _ _ _ _ m6 (Q6 x6 A7k (A5o (J2 Z1 rfl T.bq V9 (A1 (pv 3) A3 A0))) (C9 (pv 0) (D8 (cII T.g_MANY))) (D1 _)) (@G8 _ _ _ _ _ _ (A9h (A0k (Z2 A6x B0x B0y A69 (pv 3) (A1 (A5 (pv 4)) A3 A0)))) (@G8 _ _ _ _ _ _ (@J7 _ _ _ _ _ (@C2 _ _ 4 _ _ _ _ B2z.nd rfl (B2 rfl) (@F5 _ _ _ _ _ _ _ (@A9 _ _ _ _ _ _ _ _ _ _ _ _ _ _ _ _ er (hr.mono DD) rfl T.aM.m T.aM.F.kp eu .nil A4 (B9 (A5 (pv 0)) (B9 (A5 (pv 1)) (B9 (C9 (pv 4) (D8 (cII T.g_TABLE))) (B9 (C9 (pv 4) (D8 (cII T.g_TABLE))) F4 B0) B0) A0) A0) DD A0 ((A6 A0 (A6 B0 (A6 B0 A2)))))) (by rfl) (by first | exact .inl rfl | exact .inr rfl | assumption))) (E5 (X1 (Q6 (B4o (X3 hr)) A7m (C9 (pv 4) (D8 (cII T.g_TABLE))) (S5 (C9 (pv 3) (A0a F7)) (D8 (cII T.g_TABLE))) (D1 _))
   (E5 (F8 (A5 (pv 3))))
   Y1)))))) (G8 (A9h (A0k (Z2 A6x B0x B0y A69 (pv 3) (A1 (A5 (pv 4)) A3 A0))))
   (E5 (F8 (A5 (pv 3)))))))),λds Q hl h=>?_⟩)
 obtain⟨m,ws,st,t,rfl,ok,ht,q⟩:=h;have m2:=ok.m2;left;refine⟨DD,rfl,t,rfl,OO,?_⟩;unfold A7q;refine⟨fun μ ρ=>∃(rs:List Rw)(r:Rw),ρ=[Sl.sh (J0 m ws),Sl.sh (.int st),Sl.bo (C5 t),Sl.ow (rs.map Q9),Sl.sh (Q9 r)]/\rs.length+μ=m/\r.1.length=m/\rs++U0 m ws st μ r=U0 m ws st m (t,F2 m none),⟨m,[],(t,F2 t.length none),rfl,by simp,ht,by rw[ht];rfl⟩,?_⟩;rintro μ ρ ⟨rs,r,rfl,h1,h2,h3⟩;right;rw[B6];cases μ with
 | zero=>rw[decide_eq_false (OO)];right;refine⟨OO,?_⟩;have e:rs++[r]=U0 m ws st m (t,F2 m none):=h3;rw[<-e,Q3] at q;exact q
 | succ μ=>
  rw[decide_eq_true (OO)]
  decreasing_trivial_pre_omega
  refine⟨by rw[B6];omega,?_⟩;refine⟨m,ws,st,r.1,r.1,rfl,ok,h2,h2,?_⟩;right;rw[show -(1:Int)=-1 from rfl,B1d];right;refine⟨C4v _,C4v _,by rw[C4x,C4x];decide,?_⟩;rw[D62];by_cases c:(N4 m ws st r.1 r.1).1=r.1
  ·rw[decide_eq_true c];right;have e:rs++[r]=U0 m ws st m (t,F2 m none):=by rw[<-h3,U0,if_pos c]
   rw[<-e,Q3] at q;exact q
  ·rw[decide_eq_false c];right;refine⟨μ,OO,rs++[r],N4 m ws st r.1 r.1,by rw[Q3];rfl,by simp;omega,(f9 (st:=st) (t:=r.1) ok h2).l1,?_⟩;rw[<-h3,U0,if_neg c];simp
theorem D68:FK P w base 1 T.bz (spD [.sh,.sh] D64):=by
 refine J3 T.bz.F D39 rfl (λC cdv A outer s H E hr=>⟨_,(E5 (F8 (A07 A4u A7l (A5o (J2 Z1 rfl T.bq V9 (A1 (pv 1) A3 A0))) (C9 (pv 0) (D8 (cII T.g_MANY))) (D1 _)))),λds Q hl h=>?_⟩);obtain⟨m,ws,rs,rfl,q⟩:=h;right;rw[B6];rw[show decide (((m:Nat):Int)<((rs.length:Nat):Int))=decide (m<rs.length) by by_cases c:m<rs.length <;> simp [c]];exact q
theorem D69:FK P w base 2 T.bA (spD [.sh,.sh] D65):=by
 have fN:=@C4r P w K mg base T;have fO:=T.bJ.b;refine J3 T.bA.F C33 rfl (λC cdv A outer s H E hr=>⟨_,(@G8 _ _ _ _ _ _ (J7 (C2 (i:=2) C33.nd rfl (Or.inr rfl) (S5 (C9 (pv 1) (A0a F7)) (D8 (cII T.g_RISEN))))) (@E5 _ _ _ _ (@F8 _ _ _ _ _ (@F5 _ _ _ _ _ _ _ (@A9 _ _ _ _ _ _ _ _ _ _ _ _ _ _ _ _ fN (hr.mono DD) rfl T.bJ.m T.bJ.F.kp fO .nil A4 (@B9 _ _ _ _ _ _ (A5 (pv 0)) (@B9 _ _ _ _ _ _ (A5 (pv 1)) (@B9 _ _ _ _ _ _ (@S5 _ _ _ _ _ _ _ (@N1 _ _ _ _ (@A2r _ _ _ _ _ _ _ _ rfl (S1 (M7.new (N:=["land","rows","last"]) (osc:=B1 B2e) KK) rfl (B49 (A3g rfl T.cP (E2 (C9 (pv 0) (D8 (cII T.g_MANY))) G7 B0))) (λJ=>(B1f (Q6 A2g A5h (C9 (pv 2) (A5 (pv 3))) O4 (D1 _)))) (λJ=>(A5 (pv 3)))))) F7 (λJ J=>rfl)) F4 B0) A0) A0) DD A0 ((A6 A0 (A6 B0 A2)))))))),λds Q hl h=>?_⟩);obtain⟨m,ws,rs,r,rfl,ok,hR,hn,hl2,⟨p0,n0,hp0⟩,q⟩:=h;have m2:=ok.m2;have hr0:=hR r (List.mem_of_getLast? hl2)
 array_mem_dec
 rw[show -(1:Int)=-1 from rfl,B25 (B8q hl2)]
 array_mem_dec
 refine⟨⟨OO,OO⟩,⟨rfl,by unfold f7;rw[B6,w4];omega⟩,?_⟩;unfold f7;rw[show ((m:Nat):Int).toNat=m by simp];refine B1y (p:=λi=>(gt r.2 i).isSome) (f:=λi=>.int (0+((i:Nat):Int))) (λi hi Q' q'=>?_) (λi hi J Q' q'=>?_) ?_
 ·left;rw[show (0:Int)+((i:Nat):Int)=((i:Nat):Int) by omega] at q' ⊢;rw[C4c (by rw[hr0.1];exact A0x.mp hi)];left;cases c:gt r.2 i with
  | none=>rw[c] at q';exact q'
  | some n=>rw[c] at q';exact q'
 ·exact q'
 ·have hp0m:p0<m:=by
   by_cases h:p0<m
   ·exact h
   ·rw[B10 (by rw[hr0.1];omega)] at hp0;cases hp0
  have hmem:p0∈(T5 m).filter λi=>(gt r.2 i).isSome:=B0n.mpr ⟨A0x.mpr hp0m,by rw[hp0];rfl⟩;cases hf:(T5 m).filter λi=>(gt r.2 i).isSome with
  | nil=>rw[hf] at hmem;cases hmem
  | cons p ps=>
   have hpm:p∈(T5 m).filter λi=>(gt r.2 i).isSome:=by rw[hf];exact D6
   obtain⟨h1,h2⟩:=B0n.mp hpm;obtain⟨n,hn'⟩:=Option.isSome_iff_exists.mp h2;rw[O1,K9,A9k];left;refine⟨m,ws,rs,p,by rw[show (0:Int)+((p:Nat):Int)=((p:Nat):Int) by omega];rfl,A0x.mp h1,ok,hR,hn,q p n (A0x.mp h1) hn'⟩
theorem C4y {P:Nat->Nat}:∀k:Nat,(∀i j,i<j->j<k->P i≠P j)->((T5 k).map P).Nodup
 | 0,_=>List.nodup_nil
 | k+1,h=>by
  rw[B9u,Q3,List.nodup_append];refine⟨C4y k λi j h1 h2=>h i j h1 OO,by simp,λa ha b hb=>?_⟩;obtain⟨i,hi,rfl⟩:=M9.mp ha;have:b=P k:=by simpa using hb
  subst this;exact h i k (A0x.mp hi) (OO)
def plI (P:Nat->Nat)(n:Nat):List Int:=((T5 n).map P).map λp=>((p:Nat):Int)
theorem B8r {P:Nat->Nat}{n:Nat}{x:Nat}:((x:Nat):Int)∈plI P n↔∃i,i<n/\P i=x:=by
 unfold plI;constructor
 ·intro h;obtain⟨y,hy,e⟩:=M9.mp h;obtain⟨i,hi,rfl⟩:=M9.mp hy;exact⟨i,A0x.mp hi,OO⟩
 ·rintro ⟨i,hi,rfl⟩;exact M9.mpr ⟨P i,M9.mpr ⟨i,A0x.mpr hi,rfl⟩,rfl⟩
theorem D7a {P:Nat->Nat}{n:Nat}:F3 ((T5 n).map P)=(plI P n).map PyData.int:=by
 simp only[F3,plI,N6];rfl
theorem B8s {P:Nat->Nat}{n:Nat}:(plI P n).length=n:=by unfold plI;rw[B6,B6,w4]
theorem D7b {P:Nat->Nat}{n:Nat}{x:Nat}(h:((x:Nat):Int)∈plI P n):(plI P n).idxOf ((x:Nat):Int)<n/\P ((plI P n).idxOf ((x:Nat):Int))=x:=by
 have h1:=B3u.mpr h;have h2:=C68 h1;rw[B8s] at h1;refine⟨h1,?_⟩;have hx:∀i (h:i<(plI P n).length),(plI P n)[i]=((P i:Nat):Int):=λi h=>by simp [plI]
 rw[hx] at h2;omega
theorem D7c:FK P w base 1 T.aG (spD [.sh,.sh] D66):=by
 refine J3 T.aG.F A90 rfl (λC cdv A outer s H E hr=>⟨_,(@G8 _ _ _ _ _ _ (@J7 _ _ _ _ _ (@C2 _ _ 2 _ _ _ _ A90.nd rfl (B2 rfl) (@N1 _ _ _ _ (@B1q _ _ _ _ _ _ _ (N1 (c9 (E2 (C9 (pv 1) (D8 (cII T.g_FROM))) G7 B0))) (@N1 _ _ _ _ (@A2r _ _ _ _ _ _ _ _ rfl (@S1 _ _ _ _ _ _ _ _ _ _ _ _ _ _ _ (M7.new (N:=["land","walk","places","end","begin"]) (osc:=B1 B2f) KK) rfl (B47 (C9 (pv 1) (D8 (cII T.g_BY)))) (λJ=>A2q) (λJ=>(S5 (S5 (C9 (pv 0) (D8 (cII T.g_WAYS))) (A5 (pv 5))) (D8 (cII T.g_END)))) (by rfl) (by rfl) (by intro _;rfl)))))) (by rfl) (by first | exact .inl rfl | exact .inr rfl | assumption))) (@G8 _ _ _ _ _ _ (J7 (pS (i:=3) A90.nd F7)) (@G8 _ _ _ _ _ _ (A9j (A4t m6 (Q6 C05 D1h (C9 (pv 2) (A5 (pv 3))) (N1 (B43 (pv 2) B1p (A7n (A5 (pv 3))))) (by with_unfolding_all rfl))
   (E5 (J7 (pS (i:=3) A90.nd (N7 N3 b8 (A5 (pv 3)) F7)))))) (@G8 _ _ _ _ _ _ (J7 (pS (i:=4) A90.nd (C2i (Z2 A6x C67 PySem.F.type_list_index C1o (pv 2) (A1 (C9 (pv 2) (A5 (pv 3))) A3 B0))))) (E5 (F8 (Z3 (E2 (N1 (C19 (C9 (pv 1) (D8 (cII T.g_BY))) B1p (A7n (A5 (pv 4))))) (E2 (N1 (C19 (C9 (pv 1) (D8 (cII T.g_BY))) (A7n (A5 (pv 4))) (A7n (A5 (pv 3))))) G7 B0) B0)))))))),λds Q hl h=>?_⟩)
 obtain⟨m,ws,st,b,N,PP,L,rfl,ok,hb,W,hN,q⟩:=h;have m2:=ok.m2;have hpl:∀k,k<=m->PP k<m:=λk hk=>W.pl ok hb k (OO);unfold B0b
 array_mem_dec
 refine⟨DD,⟨rfl,by rw[A37];omega⟩,?_⟩;unfold F3;refine A2s (f:=λn=>.int (A2t ws n:Nat)) (λn hm Q' q'=>?_) ?_
 ·obtain⟨k,hk,rfl⟩:=A8w.mp hm;obtain⟨w,hw,_,e,_⟩:=W.way k N[k] (P7 hk);right;rw[B24 hw];right;have e2:A2t ws N[k]=w.2.1:=by unfold A2t;rw[hw]
  rw[e2] at q';exact q'
 ·left;refine⟨by rw[B6];omega,?_⟩;have epl:PyData.int ((PP 0:Nat):Int)::N.map (λn=>PyData.int ((A2t ws n:Nat):Int))=(plI PP (m+1)).map PyData.int:=by
   have:=W.places;rw[hN] at this;rw[<-D7a,<-this];unfold F3;rw[Q3,N6];rfl
  rw[epl];unfold A7q;refine⟨fun μ ρ=>∃(k:Nat)(z:Sl),ρ=[Sl.sh (J0 m ws),Sl.sh (B0b (PP 0) N),Sl.sh (.list ((plI PP (m+1)).map PyData.int)),Sl.sh (.int (k:Nat)),z]/\1<=k/\k<=m/\μ+k=m/\∀i j,i<j->j<k->PP i≠PP j,⟨m-1,1,_,rfl,OO,ok.m1,by have:=ok.m1;omega,λi j h1 h2=>OO⟩,?_⟩;rintro μ ρ ⟨k,z,rfl,k1,k2,hμ,hd⟩;right;have eat:atI ((plI PP (m+1)).map PyData.int) ((k:Nat):Int)=some (.int ((PP k:Nat):Int)):=A2j (by
   unfold plI;rw[N6,P6,P6,C7a (OO)];rfl)
  have ecut:p8 ((plI PP (m+1)).map PyData.int) none (some ((k:Nat):Int))=(plI PP k).map PyData.int:=by
   rw[B5g,<-A19];congr 1;unfold plI;rw[<-A19,<-A19,List.take_range,B3x (OO)]
  rw[eat];right;rw[ecut,A7r];right;by_cases c:((PP k:Nat):Int)∈plI PP k
  ·rw[show (!(plI PP k).contains ((PP k:Nat):Int))=false by simp [c]];right;rw[A7r];right;have hc2:((PP k:Nat):Int)∈plI PP (m+1):=B8r.mpr ⟨k,OO,rfl⟩;refine⟨⟨hc2,by rw[B8s];omega⟩,?_⟩;obtain⟨i0,hi0,ei0⟩:=B8r.mp c;obtain⟨hi1,hi2⟩:=D7b hc2;have hik:(plI PP (m+1)).idxOf ((PP k:Nat):Int)<k:=by
    by_cases h:(plI PP (m+1)).idxOf ((PP k:Nat):Int)<k
    ·exact h
    ·exfalso;have hmem:((PP k:Nat):Int)∈(plI PP (m+1)).take k:=by
      have:(plI PP (m+1)).take k=plI PP k:=by
       unfold plI;rw[<-A19,<-A19,List.take_range,B3x (OO)]
      rw[this];exact c
     have h1:=B3u.mpr hmem;rw[Z9,B8s] at h1;have h2:(plI PP (m+1)).idxOf ((PP k:Nat):Int)=((plI PP (m+1)).take k).idxOf ((PP k:Nat):Int):=by
      conv=>lhs;rw[<-List.take_append_drop k (plI PP (m+1))]
      rw[List.idxOf_append,if_pos hmem]
     omega
   unfold B0b;right;generalize (plI PP (m+1)).idxOf ((PP k:Nat):Int)=i at hi1 hi2 hik;refine⟨DD,?_⟩;have qq:=q i k hik k2 hi2;have e1:p8 (F3 N) none (some ((i:Nat):Int))=F3 (seg N 0 i):=by
    rw[B5g];unfold F3 seg;rw[<-A19,B3w,Nat.sub_zero]
   have e2:p8 (F3 N) (some ((i:Nat):Int)) (some ((k:Nat):Int))=F3 (seg N i k):=by
    rw[D1l (by rw[A37];omega) (by rw[A37];omega)];unfold F3 seg;rw[A19,List.map_drop]
   rw[e1,e2];exact qq
  ·rw[show (!(plI PP k).contains ((PP k:Nat):Int))=true by simp [c]]
   decreasing_trivial_pre_omega
   have hd2:∀i j,i<j->j<k+1->PP i≠PP j:=λi j h1 h2 e=>by
    by_cases hj:j<k
    ·exact hd i j h1 hj e
    ·have:j=k:=by omega
     subst this;exact c (B8r.mpr ⟨i,h1,e⟩)
   have hkm:k+1<=m:=by
    have:=B5q m ((T5 (k+1)).map PP) (C4y (k+1) hd2) λx hx=>by
     obtain⟨i,hi,rfl⟩:=M9.mp hx;exact hpl i (by have:=A0x.mp hi;omega)
    rw[B6,w4] at this;exact this
   exact⟨μ-1,OO,k+1,_,rfl,OO,hkm,OO,hd2⟩
theorem Wk.nb {ws:List Wy}{st:Int}{b:Tb}{N:List Nat}{P:Nat->Nat}{L:Nat->Int}(W:Wk ws st b N P L):∀n∈N,n<ws.length:=λn hn=>by
 obtain⟨k,hk,rfl⟩:=A8w.mp hn;obtain⟨w,hw,_⟩:=W.way k N[k] (P7 hk);exact (A0h.mp hw).1
theorem D7d {N:List Nat}{i j n:Nat}(h:n∈seg N i j):n∈N:=List.mem_of_mem_drop (List.mem_of_mem_take h)
theorem B8t {N:List Nat}{i j:Nat}:(seg N i j).length<=N.length:=by
 unfold seg;rw[Z9,List.length_drop];omega
set_option tactic.hygienic true in
theorem D7e {m:Nat}{ws:List Wy}(ok:K0 m ws)(n:Nat):g6 ws n<=∅:=by
 unfold g6;split
 ·rename_i w hw;exact ok.hi w (R6 hw)
 ·decide
theorem C4z {B:Int}:∀{cs:List Int},(∀c∈cs,c<=B)->cs.sum<=(cs.length:Int)*B
 | [],_=>by simp
 | c::cs,h=>by
  have:=C4z (cs:=cs) λd hd=>h d (C8 _ hd);have h1:=h c D6;rw[B9t,K4,Int.natCast_add,Int.add_mul];omega
theorem D7f {x g:Int}(hx:0<x)(hg:0<g):1<=-(-x/g)/\-(-x/g)<=x:=by
 have e:=Int.mul_ediv_add_emod (-x) g;have r0:=B9x (-x) (show g≠0 by omega);have r1:=C7i (-x) hg;generalize -x/g=d at e;constructor
 ·by_cases h:0<=d
  ·have:=Int.mul_nonneg (Int.le_of_lt hg) h;omega
  ·omega
 ·by_cases h:-x<=d
  ·omega
  ·exfalso;have h1:g*d<=g*(-x-1):=Int.mul_le_mul_of_nonneg_left OO (OO);have h2:g*(-x-1)=-(g*x)-g:=by rw[Int.mul_sub,Int.mul_neg,Int.mul_one]
   have h3:1*x<=g*x:=Int.mul_le_mul_of_nonneg_right OO (OO);omega
theorem D7g {x g:Int}(hg:0<g):x<=-(-x/g)*g:=by
 have e:=Int.mul_ediv_add_emod (-x) g;have r0:=B9x (-x) (show g≠0 by omega);rw[Int.neg_mul,Int.mul_comm];omega
def A0g (N:List Nat)(i j k:Nat)(tm:Int):List Pt:=(prt (seg N 0 i)++[(seg N i j,tm)])++prt (seg N i (i+k))
def D7h:DSp:=λds Q=>∃(m:Nat)(ws:List Wy)(st:Int)(b:Tb)(N:List Nat)(P:Nat->Nat)(L:Nat->Int),ds=[J0 m ws,.int st,.int (L 0),B0b (P 0) N]/\K0 m ws/\0<=st/\st<=1000000000000000000000/\F9 m st b/\Wk ws st b N P L/\N.length=m/\
 ∀i j k le g tp tm,i<j->j<=m->P i=P j->le<=L i->Rnd st (chs ws (seg N i j)) (L i) le g tp k->1<=tm->tm<=1000000000000000000000000->tp<=L i+tm*g->Q (.list ((A0g N i j k tm).map Y5))
theorem B27 {ns:List Nat}:(prt ns).length<=1:=by unfold prt;split <;> simp
theorem D7i:FK P w base 6 T.ba (spD [.sh,.sh,.sh,.sh] D7h):=by
 have iL:=@D55 P w K mg base T;have iM:=T.bZ.b;have eY:=@D56 P w K mg base T;have eZ:=T.aE.b;refine J3 T.ba.F A35 rfl (λC cdv A outer s H E hr=>⟨_,(@N8 _ _ _ _ _ _ (J7 (pS (i:=4) A35.nd (F5 (pcF T.aG (D7c T) hr (B9 (A5 (pv 0)) (B9 (A5 (pv 3)) F4 A0) A0))))) (@N8 _ _ _ _ _ _ (J7 (pS (i:=5) A35.nd (C9 (pv 4) F7))) (@N8 _ _ _ _ _ _ (J7 (pS (i:=6) A35.nd (C9 (pv 4) F7))) (@N8 _ _ _ _ _ _ (@J7 _ _ _ _ _ (@C2 _ _ 7 _ _ _ _ A35.nd rfl (B2 rfl) (@F5 _ _ _ _ _ _ _ (@A9 _ _ _ _ _ _ _ _ _ _ _ _ _ _ _ _ iL (hr.mono DD) rfl T.bZ.m T.bZ.F.kp iM .nil A4 (B9 (A5 (pv 1)) (B9 (F5 (pcF T.aB (D6s T) hr (B9 (A5 (pv 0)) (B9 (A5 (pv 6)) F4 A0) A0))) F4 C0) A0) DD A0 ((A6 C0 A2)))) (by rfl) (by first | exact .inl rfl | exact .inr rfl | assumption))) (@N8 _ _ _ _ _ _ (@J7 _ _ _ _ _ (@C2 _ _ 8 _ _ _ _ A35.nd rfl (B2 rfl) (@N7 _ _ _ _ _ _ _ _ _ _ A65 B1m (C9 (pv 7) (D8 (cII T.g_TOP))) (@S5 _ _ _ _ _ _ _ (@F5 _ _ _ _ _ _ _ (@A9 _ _ _ _ _ _ _ _ _ _ _ _ _ _ _ _ eY (hr.mono DD) rfl T.aE.m T.aE.F.kp eZ .nil A4 (B9 (A5 (pv 1)) (B9 (A5 (pv 2)) (B9 (F5 (pcF T.aB (D6s T) hr (B9 (A5 (pv 0)) (B9 (A5 (pv 5)) F4 A0) A0))) F4 C0) A0) A0) DD A0 ((A6 A0 (A6 C0 A2))))) (A0a F7) (λJ J=>rfl))) (by rfl) (by first | exact .inl rfl | exact .inr rfl | assumption))) (@N8 _ _ _ _ _ _ (J7 (pS (i:=9) A35.nd (A0a (N7 B4n C1z (A0a (A5 (pv 8))) (C9 (pv 7) (D8 (cII T.g_GAIN))))))) (@N8 _ _ _ _ _ _ (@J7 _ _ _ _ _ (@C2 _ _ 10 _ _ _ _ A35.nd rfl (B2 rfl) (@F5 _ _ _ _ _ _ _ (@A9 _ _ _ _ _ _ _ _ _ _ _ _ _ _ _ _ eY (hr.mono DD) rfl T.aE.m T.aE.F.kp eZ .nil A4 (B9 (A5 (pv 1)) (B9 (C9 (pv 7) (D8 (cII T.g_TOP))) (B9 (F5 (pcF T.aB (D6s T) hr (B9 (A5 (pv 0)) (B9 (A5 (pv 6)) F4 A0) A0))) F4 C0) B0) A0) DD A0 ((A6 B0 (A6 C0 A2))))) (by rfl) (by first | exact .inl rfl | exact .inr rfl | assumption))) (@E5 _ _ _ _ (@F8 _ _ _ _ _ (@N1 _ _ _ _ (@B1q _ _ _ _ _ _ _ (N1 (B1q (F5 (pcF T.bD (D6x T) hr (B9 (A5 (pv 5)) F4 A0))) (N1 (c9 (E2 (Z3 (E2 (A5 (pv 6)) (E2 (A5 (pv 9)) G7 A0) A0)) G7 A42))))) (F5 (pcF T.bD (D6x T) hr (B9 (N1 (B43 (pv 6) B1p (A7n (C2i (Z2 A6x C67 PySem.F.type_list_index C1o (pv 10) (A1 (A5 (pv 1)) A3 A0)))))) F4 B0)))))))))))))),λds Q hl h=>?_⟩);obtain⟨m,ws,st,b,N,PP,L,rfl,ok,h0,hst,hb,W,hN,q⟩:=h;have m2:=ok.m2;left;refine⟨m,ws,st,b,N,PP,L,rfl,ok,hb,W,hN,λi j hij hj hp=>?_⟩;have nb:∀a c n,n∈seg N a c->n<ws.length:=λa c n hn=>W.nb n (D7d hn);have fw:∀a c,(seg N a c).length<=900:=λa c=>by have:=@B8t N a c;omega
 have fw2:∀a c,(chs ws (seg N a c)).length<=900:=λa c=>by unfold chs;rw[B6];exact fw a c
 obtain⟨b0,b1⟩:=W.bd h0 hb i (OO);obtain⟨le,g,tp,k,R,hle⟩:=D16 b0 b1 (W.seg (i:=i) (j:=j) OO OO) (W.strict i j hij OO hp);have kl:k<=j-i:=by
  have:=R.kl;unfold chs at this;rw[B6,A9n (OO)] at this;exact this
 refine go ?_;left;refine go ?_;left;refine go ?_;left;refine⟨m,ws,seg N i j,rfl,nb i j,fw i j,?_⟩;left;refine⟨st,_,rfl,?_⟩;rw[R.fx];refine go ?_;right;refine⟨m,ws,seg N 0 i,rfl,nb 0 i,fw 0 i,?_⟩;left;refine⟨st,L 0,_,rfl,fw2 0 i,?_⟩;have w0:=W.seg (i:=0) (j:=i) (P5 _) (OO);have hlast:(P9 st (L 0) (chs ws (seg N 0 i))).getLast?=some (L i):=by
  obtain⟨z,z1,z2⟩:=B5n w0 (chs ws (seg N 0 i)).length (E8 _);rw[A8x (E8 _),w0] at z2;cases z2;rw[List.getLast?_eq_getElem?,B5o w0];exact z1
 left;rw[show -(1:Int)=-1 from rfl,B25 (xs:=X4 _) (B8q hlast)];left;refine go ?_;left;have hg:g<100000000000000000000000000000000000000000000000000000000000000:=by
  rw[R.gs];have h1:=C4z (B:=∅) (cs:=chs ws (seg N i j)) λc hc=>by
   obtain⟨n,_,rfl⟩:=M9.mp hc;exact D7e ok n
  have h2:=fw2 i j;omega
 refine⟨⟨R.g0,hg⟩,?_⟩;refine go ?_;left;refine⟨m,ws,seg N i j,rfl,nb i j,fw i j,?_⟩;left;refine⟨st,tp,_,rfl,fw2 i j,?_⟩;refine go ?_;left;refine⟨seg N 0 i,rfl,?_⟩;left;have hp1:=@B27 (seg N 0 i);refine⟨DD,DD,by rw[B6];simp;omega,?_⟩;unfold X4;rw[A7r];left;refine⟨⟨R.km,by rw[R.ll];have:=fw2 i j;omega⟩,?_⟩;rw[R.ki];have ecut:p8 (F3 (seg N i j)) none (some ((k:Nat):Int))=F3 (seg N i (i+k)):=by
  rw[B5g];unfold F3;rw[<-A19,B5p kl]
 rw[ecut];refine⟨_,rfl,?_⟩;left;have hp2:=@B27 (seg N i (i+k));refine⟨by simp;omega,?_⟩;obtain⟨t1,t2⟩:=D7f (x:=tp-L i) (g:=g) (by have:=R.xt;omega) R.g0;have t3:=R.tst;have qq:=q i j k le g tp (-(-(tp-L i)/g)) hij hj hp hle R t1 OO (by have:=@D7g (tp-L i) g R.g0;omega);unfold A0g at qq;rw[Q3,Q3] at qq;exact qq
theorem Rows.risen {m:Nat}{ws:List Wy}{st:Int}{b:Tb}(ok:K0 m ws)(h0:0<=st)(hb:F9 m st b){r:Rw}{rs:List Rw}(h:Rows m ws st b (r::rs))(hn:rs≠[]):∃p n,gt r.2 p=some n:=by
 cases h with
 | one=>exact absurd rfl hn
 | @more r0 rs0 h' c=>
  obtain⟨a1,_,_⟩:=h'.ok ok h0 hb;have I:=f9 (st:=st) (t:=r0.1) ok a1.len;by_cases z:∃p n,gt (N4 m ws st r0.1 r0.1).2 p=some n
  ·exact z
  ·refine absurd (C2m (by rw[I.l1,a1.len]) λp=>I.no p ?_) c;cases e:gt (N4 m ws st r0.1 r0.1).2 p with
   | none=>rfl
   | some n=>exact absurd ⟨p,n,e⟩ z
theorem Rows.rok {m:Nat}{ws:List Wy}{st:Int}{b:Tb}(ok:K0 m ws)(h0:0<=st)(hb:F9 m st b):∀{rs:List Rw},Rows m ws st b rs->A6g m ws rs
 | _,.one=>λr hr=>by
  have:r=(b,F2 m none):=by simpa using hr
  subst this;exact⟨by simp,λq n e=>by rw[A11] at e;cases e⟩
 | _,.more (r:=r0) h c=>λr hr=>by
  rcases G1.mp hr with e | hr
  ·subst e;obtain⟨a1,_,_⟩:=h.ok ok h0 hb;have I:=f9 (st:=st) (t:=r0.1) ok a1.len;refine⟨I.l2,λq n e=>?_⟩;obtain⟨w,hw,_⟩:=I.yes q n e;exact (A0h.mp hw).1
  ·exact Rows.rok ok h0 hb h r hr
theorem D7j {m:Nat}{ws:List Wy}{st:Int}{b:Tb}(ok:K0 m ws)(h0:0<=st)(hb:F9 m st b):∃r rs,(U0 m ws st m (b,F2 m none)).reverse=r::rs/\(U0 m ws st m (b,F2 m none)).getLast?=some r/\(U0 m ws st m (b,F2 m none)).length=rs.length+1/\rs.length<=m/\Rows m ws st b (r::rs)/\A6g m ws (U0 m ws st m (b,F2 m none))/\
  ((U0 m ws st m (b,F2 m none)).length<=m->Q8 m ws st b r.1):=by
 obtain⟨r,rs,e,h,z⟩:=C2p (m:=m) (ws:=ws) (st:=st) (b:=b) m (b,F2 m none) [] .one;rw[List.reverse_nil,O1] at e;have hl:(U0 m ws st m (b,F2 m none)).length=rs.length+1:=by
  rw[<-A6t,e];rfl
 have hbd:∀(k:Nat)(q:Rw),(U0 m ws st k q).length<=k+1:=by
  intro k
  induction k with
  | zero=>intro q;exact E8 _
  | succ k ih=>
   intro q;unfold U0;split
   ·simp
   ·have:=ih (N4 m ws st q.1 q.1);simp;omega
 have hb2:=hbd m (b,F2 m none);refine⟨r,rs,e,?_,hl,OO,h,λq hq=>h.rok ok h0 hb q (by rw[<-e];exact List.mem_reverse.mpr hq),λhm=>?_⟩
 ·rw[<-List.head?_reverse,e];rfl
 ·rcases z with z | z
  ·exact h.least ok h0 hb z
  ·rw[K4] at z;simp at z;omega
abbrev Rd:=Nat×List Pt
def A8i (r:Rd):PyData:=.tuple [.int (r.1:Nat),.list (r.2.map Y5)]
def itF (st:Int)(cs:List Int):Nat->Option Int->Option Int
 | 0,o=>o
 | n+1,o=>itF st cs n (wkF st o cs)
def A20 (ws:List Wy)(st:Int):Option Int->List Pt->Option Int
 | o,[]=>o
 | o,p::ps=>A20 ws st (itF st (chs ws p.1) p.2.toNat o) ps
theorem B28 {ws:List Wy}{st:Int}:∀(xs:List Pt)(o:Option Int)(ys:List Pt),A20 ws st o (xs++ys)=A20 ws st (A20 ws st o xs) ys
 | [],_,_=>rfl
 | x::xs,o,ys=>B28 xs _ ys
theorem C40 {ws:List Wy}{st:Int}{o:Option Int}{ns:List Nat}:A20 ws st o (prt ns)=wkF st o (chs ws ns):=by
 cases ns with
 | nil=>rfl
 | cons n ns=>rfl
theorem C41 {st:Int}{cs:List Int}{le g tp:Int}(fx:fxF st cs=some (le,g,tp))(g0:0<g)(tst:tp<=st):∀(n:Nat){x:Int},0<=x->le<=x->x<=tp->itF st cs n (some x)=some (if x+((n:Nat):Int)*g<tp then x+((n:Nat):Int)*g else tp)
 | 0,x,x0,h1,h2=>by
  show some x=_;congr 1;split <;> simp at * <;> omega
 | n+1,x,x0,h1,h2=>by
  show itF st cs n (wkF st (some x) cs)=_;have w:=B12 x0 (show x<=st by omega) cs;rw[fx] at w;unfold N2 at w;dsimp only at w;rw[if_neg (OO)] at w;rw[<-w];have e:(((n+1:Nat)):Int)*g=((n:Nat):Int)*g+g:=by rw[Int.natCast_add,Int.add_mul];simp
  have e0:0<=((n:Nat):Int)*g:=Int.mul_nonneg OO (OO);rw[C41 fx g0 tst n (by split <;> omega) (by split <;> omega) (by split <;> omega),e];congr 1;split <;> split <;> split <;> omega
theorem D7k {ws:List Wy}{st:Int}{b:Tb}{N:List Nat}{P:Nat->Nat}{L:Nat->Int}{m:Nat}(W:Wk ws st b N P L)(h0:0<=st)(hb:F9 m st b){i j:Nat}(hij:i<j)(hj:j<=N.length){le g tp tm:Int}{k:Nat}(hle:le<=L i)(R:Rnd st (chs ws (seg N i j)) (L i) le g tp k)(t1:1<=tm)(t3:tp<=L i+tm*g) :
  A20 ws st (some (L 0)) (A0g N i j k tm)=some st:=by
 have kl:k<=j-i:=by
  have:=R.kl;unfold chs at this;rw[B6,A9n hj] at this;exact this
 unfold A0g;rw[B28,B28,C40 (o:=some (L 0)),W.seg (P5 _) (OO)];have hr:A20 ws st (some (L i)) [(seg N i j,tm)]=some tp:=by
  show itF st (chs ws (seg N i j)) tm.toNat (some (L i))=_;rw[C41 R.fx R.g0 R.tst tm.toNat (W.bd h0 hb i OO).1 hle (Int.le_of_lt R.xt),if_neg (by rw[show ((tm.toNat:Nat):Int)=tm by omega];omega)]
 rw[hr,C40];have kw:=R.kw;unfold chs at kw ⊢;rw[<-A19,B5p kl] at kw;exact kw
structure D7l (ws:List Wy)(st:Int)(b0:Tb)(r:Rd)(q:Nat)(y:Int):Prop where
 trp:Trp ws r.1 r.2 q
 arr:∃y0,gt b0 r.1=some y0/\A20 ws st (some y0) r.2=some y
structure A38 (m:Nat)(ws:List Wy)(st:Int)(b0 b:Tb)(rd:List Rd)(B:Nat):Prop where
 len:rd.length=m
 ok:∀q y r,gt b q=some y->rd[q]?=some r->D7l ws st b0 r q y
 few:∀r∈rd,r.2.length<=B/\∀pt∈r.2,pt.1.length<=m
theorem A38.more {m:Nat}{ws:List Wy}{st:Int}{b0 b:Tb}{rd:List Rd}{B C:Nat}(h:A38 m ws st b0 b rd B)(l:B<=C):A38 m ws st b0 b rd C:=⟨h.len,h.ok,λr hr=>⟨J1 (h.few r hr).1 l,(h.few r hr).2⟩⟩
def B8u (st:Int)(b0 b:Tb):Prop:=∀p,gt b p=gt b0 p\/gt b p=some st
theorem D7m {N:List Nat}{i j k:Nat}{tm:Int}:∀pt∈A0g N i j k tm,pt.1.length<=N.length:=λpt h=>by
 have hp:∀{a c:Nat},pt∈prt (seg N a c)->pt.1.length<=N.length:=λ{a c} h=>by
  unfold prt at h;split at h
  ·cases h
  ·have:pt=(seg N a c,1):=by simpa using h
   subst this;exact B8t
 unfold A0g at h;rcases A1j.mp h with h | h
 ·rcases A1j.mp h with h | h
  ·exact hp h
  ·have:pt=(seg N i j,tm):=by simpa using h
   subst this;exact B8t
 ·exact hp h
theorem A38.fill {m:Nat}{ws:List Wy}{st:Int}{b0 b:Tb}{rd:List Rd}{B:Nat}(h:A38 m ws st b0 b rd B){p f:Nat}{x:Int}{r:Rd}{ps:List Pt}(hf:f<b.length)(hp:gt b p=some x)(hr:rd[p]?=some r)(ht:Trp ws p ps f)(ha:A20 ws st (some x) ps=some st)(h3:ps.length<=3)(hfe:∀pt∈ps,pt.1.length<=m):A38 m ws st b0 (b.set f (some st)) (rd.set f (r.1,r.2++ps)) (B+3):=by
 refine⟨by rw[S3];exact h.len,λq y r' hq hr'=>?_,λr' hr'=>?_⟩
 ·rw[A3y hf] at hq;by_cases c:f=q
  ·subst c;rw[if_pos rfl] at hq;cases hq;rw[A4o] at hr';simp only[if_true] at hr';split at hr'
   ·cases hr';obtain⟨t,y0,e0,e1⟩:=h.ok p x r hp hr;exact⟨t.app ht,y0,e0,by rw[B28,e1];exact ha⟩
   ·cases hr'
  ·rw[if_neg c] at hq;rw[v8 c] at hr';exact h.ok q y r' hq hr'
 ·rcases List.mem_or_eq_of_mem_set hr' with z | rfl
  ·exact⟨by have:=(h.few r' z).1;omega,(h.few r' z).2⟩
  ·have z:=h.few r (R6 hr);refine⟨by have:=z.1;rw[S8];omega,λpt hpt=>?_⟩;rcases A1j.mp hpt with q | q
   ·exact z.2 pt q
   ·exact hfe pt q
set_option tactic.hygienic true in
theorem B8v {m:Nat}{ws:List Wy}{st:Int}{b:Tb}(ok:K0 m ws)(h0:0<=st)(hb:F9 m st b):∀{r:Rw}{rs:List Rw},Rows m ws st b (r::rs)->∀p x,gt r.1 p=some x->
  ∃q y N,wlk ws (r::rs) p=(q,N)/\gt b q=some y/\Pth ws q N p/\wkF st (some y) (chs ws N)=some x/\N.length<=rs.length
 | _,_,.one,p,x,e=>by
  refine⟨p,x,[],?_,e,.nil,rfl,P5 _⟩;show (match gt (F2 m (none:Option Nat)) p with
   | none=>wlk ws [] p
   | some n=>((wlk ws [] (N5 ws n)).1,(wlk ws [] (N5 ws n)).2++[n]))=_
  rw[A11];rfl
 | _,_,.more (r:=r) (rs:=rs) h c,p,x,e=>by
  obtain⟨a1,_,a3⟩:=h.ok ok h0 hb;have I:=f9 (st:=st) (t:=r.1) ok a1.len;have ew:wlk ws (N4 m ws st r.1 r.1::r::rs) p=(match gt (N4 m ws st r.1 r.1).2 p with
   | none=>wlk ws (r::rs) p
   | some n=>((wlk ws (r::rs) (N5 ws n)).1,(wlk ws (r::rs) (N5 ws n)).2++[n])):=rfl
  cases hn:gt (N4 m ws st r.1 r.1).2 p with
  | none=>obtain⟨q,y,N,f1,f2,f3,f4,f5⟩:=B8v ok h0 hb h p x (by rw[<-I.no p hn];exact e);exact⟨q,y,N,by rw[ew,hn];exact f1,f2,f3,f4,by rw[K4];omega⟩
  | some n=>
   obtain⟨w,hw,e1,e2,e3⟩:=I.yes p n hn;rw[e] at e2;obtain⟨l',hl',hs⟩:∃l',gt r.1 w.1=some l'/\J8 st l' w.2.2=some x:=by
    have hl2:=e2.symm;unfold O6 at hl2;split at hl2
    ·cases hl2
    ·rename_i l' e;exact⟨l',e,hl2⟩
   obtain⟨q,y,N,f1,f2,f3,f4,f5⟩:=B8v ok h0 hb h w.1 l' hl';have ws1:N5 ws n=w.1:=by unfold N5;rw[hw]
   have wc:g6 ws n=w.2.2:=by unfold g6;rw[hw]
   refine⟨q,y,N++[n],by rw[ew,hn];show ((wlk ws (r::rs) (N5 ws n)).1,(wlk ws (r::rs) (N5 ws n)).2++[n])=_;rw[ws1,f1],f2,f3.app (by rw[<-e1];exact .cons hw .nil),?_,by simp only[S8,K4,A6v];omega⟩;unfold chs;rw[Q3,B5m];show wkF st (wkF st (some y) (chs ws N)) [g6 ws n]=_;rw[f4,wc];exact hs
def D7n:DSp:=λds Q=>∃(m:Nat)(ws:List Wy)(st:Int)(b0:Tb),ds=[J0 m ws,.int st,.list (C5 b0)]/\K0 m ws/\0<=st/\st<=1000000000000000000000/\F9 m st b0/\
 ∀(rs qs:List Rw)(r:Rw)(b:Tb)(rd:List Rd),rs.getLast?=some r->rs.reverse=r::qs->Q8 m ws st b0 r.1->Rows m ws st b (r::qs)->A6g m ws rs->rs.length<=m->F9 m st b->B8u st b0 b->A38 m ws st b0 b rd (3*m)->Q (.tuple [.list (rs.map Q9),.list (rd.map A8i)])
def B0c (m:Nat)(ws:List Wy)(st:Int)(b0 t:Tb):Prop:=∀p x,gt t p=some x->∃q y N,(gt b0 q=some y\/y=st)/\gt t q≠none/\leO (some y) (gt t q)/\Pth ws q N p/\wkF st (some y) (chs ws N)=some x/\N.length+1<=m
theorem D7o {m:Nat}{ws:List Wy}{st:Int}{b0 b:Tb}(ok:K0 m ws)(h0:0<=st)(hb:F9 m st b)(hf:B8u st b0 b){r:Rw}{rs:List Rw}(h:Rows m ws st b (r::rs))(hl:rs.length+1<=m):B0c m ws st b0 r.1:=λp x e=>by
 obtain⟨q,y,N,_,f2,f3,f4,f5⟩:=B8v ok h0 hb h p x e;have up:=(h.ok ok h0 hb).2.2 q;rw[f2] at up;refine⟨q,y,N,?_,λz=>by rw[z] at up;exact A0n up,up,f3,f4,OO⟩;rcases hf q with z | z
 ·exact .inl (by rw[<-z];exact f2)
 ·rw[f2] at z;cases z;exact .inr rfl
def C42:DSp:=λds Q=>∃(m:Nat)(ws:List Wy)(st:Int)(b0:Tb),ds=[J0 m ws,.int st,.list (C5 b0)]/\K0 m ws/\0<=st/\st<=1000000000000000000000/\F9 m st b0/\∀t,Q8 m ws st b0 t->B0c m ws st b0 t->Q (.list (C5 t))
theorem D7p {st:Int}{b:Tb}:A6b st b<=b.length:=List.countP_le_length
theorem D7q {N:List Nat}{i j k:Nat}{tm:Int}:(A0g N i j k tm).length<=3:=by
 unfold A0g;have h1:=@B27 (seg N 0 i);have h2:=@B27 (seg N i (i+k));rw[S8,S8];simp;omega
theorem D7r:FK P w base 7 T.cK (spD [.sh,.sh,.bo] D7n):=by
 have gH:=@D7i P w K mg base T;have gJ:=T.ba.b;refine J3 T.cK.F A2w rfl (λC cdv A outer s H E hr=>⟨_,(@N8 _ _ _ _ _ _ (A3v (pS (i:=3) A2w.nd (B42 (T2 A3h rfl T.cE A1t (A1 (pv 2) A3 A0))))) (@N8 _ _ _ _ _ _ (@D1c _ _ _ _ _ _ _ _ _ rfl (@A9a _ _ _ _ _ _ _ _ _ _ _ _ _ 4 _ _ _ _ _ A2w.nd rfl (B2 rfl) (M7.new (N:=["land","store","base","table","roads","rows","walk","parts","full","road"]) (osc:=B1 B2g) KK) rfl (B49 (A3g rfl T.cP (E2 (C9 (pv 0) (D8 (cII T.g_MANY))) G7 B0))) (λJ=>A2q) (λJ=>(Z3 (E2 (A5 (pv 10)) (E2 (N1 (c9 G7)) G7 C1k) A0))) (by rfl) (by first | exact .inl rfl | exact .inr rfl | assumption) (by rfl) (by rfl) (by intro _;rfl))) (@N8 _ _ _ _ _ _ (J7 (pS (i:=5) A2w.nd (F5 (pcF T.bh (D67 T) hr (B9 (A5 (pv 0)) (B9 (A5 (pv 1)) (A09 (pv 3) F4 A0) A0) A0))))) (@N8 _ _ _ _ _ _ (@A9j _ _ _ _ _ (@A4t _ _ _ _ _ _ m6 (A2m (F5 (pcF T.bz (D68 T) hr (B9 (A5 (pv 0)) (B9 (A5 (pv 5)) F4 A0) A0)))) (@N8 _ _ _ _ _ _ (J7 (pS (i:=6) A2w.nd (F5 (pcF T.bA (D69 T) hr (B9 (A5 (pv 0)) (B9 (A5 (pv 5)) F4 A0) A0))))) (@N8 _ _ _ _ _ _ (@J7 _ _ _ _ _ (@C2 _ _ 7 _ _ _ _ A2w.nd rfl (B2 rfl) (@F5 _ _ _ _ _ _ _ (@A9 _ _ _ _ _ _ _ _ _ _ _ _ _ _ _ _ gH (hr.mono DD) rfl T.ba.m T.ba.F.kp gJ .nil A4 (B9 (A5 (pv 0)) (B9 (A5 (pv 1)) (B9 (C9 (pv 3) (C9 (pv 6) (D8 (cII T.g_FROM)))) (B9 (A5 (pv 6)) F4 A0) B0) A0) A0) DD A0 ((A6 A0 (A6 B0 (A6 A0 A2)))))) (by rfl) (by first | exact .inl rfl | exact .inr rfl | assumption))) (@N8 _ _ _ _ _ _ (J7 (pS (i:=8) A2w.nd (F5 (pcF T.dl (D60 T) hr (B9 (A5 (pv 0)) (B9 (C9 (pv 6) (D8 (cII T.g_FROM))) (B9 (A5 (pv 7)) F4 A0) B0) A0))))) (@N8 _ _ _ _ _ _ (J7 (pS (i:=9) A2w.nd (C9 (pv 4) (C9 (pv 6) (D8 (cII T.g_FROM)))))) (@N8 _ _ _ _ _ _ (A9i (V4 (Z3 (E2 (C9 (pv 9) (D8 (cII T.g_FROM))) (E2 (N1 (B1q (C9 (pv 9) (D8 (cII T.g_BY))) (A5 (pv 7)))) G7 E9) B0)) (m8 (pv 4) (A5 (pv 8)) Z0))) (@N8 _ _ _ _ _ _ (A9i (V4 (A5 (pv 1)) (m8 (pv 3) (A5 (pv 8)) Z0))) (E5 (J7 (pS (i:=5) A2w.nd (F5 (pcF T.bh (D67 T) hr (B9 (A5 (pv 0)) (B9 (A5 (pv 1)) (A09 (pv 3) F4 A0) A0) A0)))))))))))))) (E5 (F8 (Z3 (E2 (A5 (pv 5)) (E2 (A5 (pv 4)) G7 A0) A0)))))))),λds Q hl h=>?_⟩);obtain⟨m,ws,st,b0,rfl,ok,h0,hst,hb0,q⟩:=h;have m2:=ok.m2;left;refine go ?_;array_mem_dec;refine⟨⟨OO,OO⟩,⟨rfl,by unfold f7;rw[B6,w4];omega⟩,?_⟩;unfold f7;rw[show ((m:Nat):Int).toNat=m by simp];refine A2s (f:=λi=>.tuple [.int (0+((i:Nat):Int)),.list []]) (λi hi Q' q'=>?_) ?_
 ·left;exact⟨DD,DD,q'⟩
 left;rw[show List.map (λi=>PyData.tuple [.int (0+((i:Nat):Int)),.list []]) (T5 m)=List.map A8i ((T5 m).map λi=>(i,([]:List Pt))) by
  rw[N6];refine B0z λi J=>?_;show PyData.tuple [.int (0+((i:Nat):Int)),.list []]=.tuple [.int ((i:Nat):Int),.list []];rw[Int.zero_add]]
 refine go ?_;left;refine⟨rfl,m,ws,st,b0,rfl,ok,hb0.len,?_⟩;left;refine go ?_;unfold A1a A7q;refine⟨fun μ ρ=>∃(b:Tb)(rd:List Rd)(z2 z6 z7 z8 z9:Sl),ρ=[Sl.sh (J0 m ws),Sl.sh (.int st),z2,Sl.ow (C5 b),Sl.ow (rd.map A8i),Sl.sh (.list ((U0 m ws st m (b,F2 m none)).map Q9)),z6,z7,z8,z9]/\F9 m st b/\A6b st b=μ/\(∀t,Q8 m ws st b t->Q8 m ws st b0 t)/\B8u st b0 b/\A38 m ws st b0 b rd (3*(m-μ)),
  ⟨A6b st b0,b0,_,_,_,_,_,_,rfl,hb0,rfl,λt h=>h,λp=>.inl rfl,by simp,λq y r hq hr=>?_,λr hr=>?_⟩,?_⟩
 ·rw[P6] at hr;cases e:(T5 m)[q]? with
  | none=>rw[e] at hr;cases hr
  | some i=>rw[e] at hr;obtain⟨_,e2⟩:=A0h.mp e;rw[List.getElem_range] at e2;subst e2;cases hr;exact⟨.nil,y,hq,rfl⟩
 ·obtain⟨i,_,rfl⟩:=M9.mp hr;exact⟨P5 _,λpt h=>nomatch h⟩
 rintro μ ρ ⟨b,rd,z2,z6,z7,z8,z9,rfl,hb,hμ,hle,hfl,hrd⟩;obtain⟨r,rs,e1,e2,e3,e4,hR,hok,hfin⟩:=D7j ok h0 hb;left;refine⟨m,ws,_,rfl,?_⟩;by_cases c:m<(U0 m ws st m (b,F2 m none)).length
 ·rw[decide_eq_true c]
  sizeOf_list_dec
  have hne:rs≠[]:=λz=>by rw[z] at e3;have:=ok.m1;simp at e3;omega
  refine⟨m,ws,_,r,rfl,ok,hok,OO,e2,hR.risen ok h0 hb hne,λp n hp hn=>?_⟩;obtain⟨N,PP,L,f1,f2,f3,f4,W,f6⟩:=C2u ok h0 hb hR p (.inr ⟨n,hn⟩);have hN:N.length=m:=by omega
  rw[e1,f1];have hbeg:gt b (PP 0)=some (L 0):=W.beg;have hP0:PP 0<m:=W.pl ok hb 0 (P5 _);refine go ?_;left;rw[A8f (by rw[hb.len];exact hP0),hbeg];right;refine⟨m,ws,st,b,N,PP,L,rfl,ok,h0,hst,hb,W,hN,λi j k le g tp tm hij hj hpp hle2 R t1 t2 t3=>?_⟩;have kl:k<=j-i:=by
   have:=R.kl;unfold chs at this;rw[B6,A9n (OO)] at this;exact this
  have hfull:PP (i+k)<m:=W.pl ok hb (i+k) (OO);have htrp:Trp ws (PP 0) (A0g N i j k tm) (PP (i+k)):=by
   unfold A0g;refine ((C4s (W.pth (i:=0) (j:=i) (P5 _) OO)).app ?_).app (C4s (W.pth (i:=i) (j:=i+k) OO OO));have hs:=W.pth (i:=i) (j:=j) OO (OO);rw[<-hpp] at hs;exact .cons hs (λz=>by have:=congrArg B3s z;rw[A9n (OO)] at this;simp at this;omega) t1 t2 (.inr rfl) .nil
  have harr:=D7k W h0 hb hij OO hle2 R t1 t3;refine go ?_;left;refine⟨m,ws,PP 0,PP (i+k),_,rfl,htrp,?_⟩;obtain⟨r0,hr0⟩:∃d,rd[PP 0]?=some d:=⟨_,P7 (by rw[hrd.len];exact hP0)⟩;have hps:=(hrd.few r0 (R6 hr0)).1;refine go ?_;left;rw[A2j (show (rd.map A8i)[PP 0]?=some (.tuple [.int (r0.1:Nat),.list (r0.2.map Y5)]) by rw[P6,hr0];rfl)];left;refine go ?_;left;have h3:=@D7q N i j k tm;have hlk:=C2w st b (PP (i+k)) (by rw[hb.len];exact hfull) (D18 W h0 hb hij OO hpp OO);have hlm:=@D7p st b;rw[hb.len] at hlm;refine⟨by rw[B6,B6];omega,DD,?_⟩;rw[A93 (by rw[B6,hrd.len];exact hfull)];left;rw[show (rd.map A8i).set (PP (i+k)) (.tuple [.int (r0.1:Nat),.list (r0.2.map Y5++(A0g N i j k tm).map Y5)])=(rd.set (PP (i+k)) (r0.1,r0.2++A0g N i j k tm)).map A8i by
   rw[List.map_set,<-Q3];rfl]
  refine go ?_;left;rw[A93 (by rw[A0f,hb.len];exact hfull)];left;rw[show (C5 b).set (PP (i+k)) (PyData.int st)=C5 (b.set (PP (i+k)) (some st)) from B8p (x:=some st)];refine go ?_;left;have hb':=D19 h0 hb hfull;refine⟨rfl,m,ws,st,_,rfl,ok,hb'.len,?_⟩;left;refine⟨A6b st (b.set (PP (i+k)) (some st)),OO,b.set (PP (i+k)) (some st),rd.set (PP (i+k)) (r0.1,r0.2++A0g N i j k tm),_,_,_,_,_,rfl,hb',rfl,λt h=>hle t (h.fill hb hfull λT hT h1 h2=>D17 W hij OO hpp hle2 R hT h1 h2),λp=>?_,(hrd.fill (by rw[hb.len];exact hfull) hbeg hr0 htrp harr h3 λpt hpt=>by rw[<-hN];exact D7m pt hpt).more OO⟩;rw[A3y (by rw[hb.len];exact hfull)];split
  ·exact .inr rfl
  ·exact hfl p
 ·rw[decide_eq_false c];left;refine go ?_;left;refine⟨DD,?_⟩;exact q _ rs r b rd e2 e1 (hle _ (hfin OO)) hR hok OO hb hfl (hrd.more OO)
theorem B29:FK P w base 8 T.aq (spD [.sh,.sh,.bo] C42):=by
 refine J3 T.aq.F D4b rfl (λC cdv A outer s H E hr=>⟨_,(@E5 _ _ _ _ (@F8 _ _ _ _ _ (@S5 _ _ _ _ _ _ _ (S5 (S5 (F5 (pcF T.cK (D7r T) hr (B9 (A5 (pv 0)) (B9 (A5 (pv 1)) (A09 (pv 2) F4 A0) A0) A0))) F7) (A0a F7)) (D8 (cII T.g_TABLE)) (λJ J=>rfl)))),λds Q hl h=>?_⟩);obtain⟨m,ws,st,b0,rfl,ok,h0,hst,hb0,q⟩:=h;left;refine⟨rfl,m,ws,st,b0,rfl,ok,h0,hst,hb0,λrs qs r b rd hl he hL hR hok hlen hb hf hrd=>?_⟩;left;rw[show -(1:Int)=-1 from rfl,B25 (B8q hl)];right;have hq:qs.length+1<=m:=by
  have:=congrArg B3s he;rw[A6t,K4] at this;omega
 exact q _ hL (D7o ok h0 hb hf hR hq)
theorem D7s {sp:DSp}{vs:List V}{H:Hp}{Q:VK}{E:XK}(hl:∀ds Qd,sp ds Qd->∃a b xs,ds=[a,b,.list xs])(h:spD [.sh,.sh,.sh] sp vs H Q E):spD [.sh,.sh,.bo] sp vs H Q E:=by
 obtain⟨F,hand,ds,Qd,h1,h2,h3,ar,h5,h6⟩:=h;refine⟨F,hand,ds,Qd,h1,h2,h3,?_,h5,h6⟩;obtain⟨a,b,xs,rfl⟩:=hl _ _ h5;cases ar with
 | cons t1 ar=>
 cases ar with
 | cons t2 ar=>
 cases ar with
 | cons t3 ar=>
 cases ar;have t3:ThV F H _ (.list xs):=t3;cases t3 with
 | lst g e t=>exact .cons t1 (.cons t2 (.cons ⟨_,_,_,rfl,rfl,(λq hq z=>h2 q hq (by rw[<-z];exact g)),e,t⟩ .nil))
theorem D7t:FK P w base 8 T.aq (spD [.sh,.sh,.sh] C42):=(B29 T).imp λvs H Q E h=>D7s (λds Qd z=>by
 obtain⟨m,ws,st,b,rfl,_⟩:=z;exact⟨_,_,_,rfl⟩) h
def lkF (st:Int)(t:Tb):Tb:=t.map λo=>o.map λx=>st-x
theorem D7u {st:Int}{t:Tb}{p:Nat}:gt (lkF st t) p=(gt t p).map λx=>st-x:=by
 unfold gt lkF;rw[P6];cases t[p]? with
 | none=>rfl
 | some o=>rfl
theorem C43 {m:Nat}{st:Int}{t:Tb}(h:F9 m st t):F9 m st (lkF st t):=by
 refine⟨by unfold lkF;rw[B6];exact h.len,λp x e=>?_⟩;rw[D7u] at e;cases z:gt t p with
 | none=>rw[z] at e;cases e
 | some y=>rw[z] at e;have:st-y=x:=Option.some.inj e;have:=h.bd p y z;omega
theorem D7v {m:Nat}{ws:List Wy}(ok:K0 m ws):K0 m (ws.map A2z):=by
 refine⟨ok.m1,ok.m2,by rw[B6];exact ok.few,λw hw=>?_,λw hw=>?_,λw hw=>?_,λw hw=>?_⟩
 all_goals obtain⟨v,hv,rfl⟩:=M9.mp hw
 ·exact ok.en v hv
 ·exact ok.st v hv
 ·exact ok.lo v hv
 ·exact ok.hi v hv
def D7w:DSp:=λds Q=>∃(st:Int)(t:Tb),ds=[.int st,.list (C5 t)]/\t.length<=900/\Q (.list (C5 (lkF st t)))
def D7x:DSp:=λds Q=>∃(m:Nat)(ws:List Wy)(st:Int)(g:Tb),ds=[J0 m ws,.int st,.list (C5 g)]/\K0 m ws/\0<=st/\st<=1000000000000000000000/\F9 m st g/\∀t,Q8 m (ws.map A2z) st (lkF st g) t->Q (.list (C5 (lkF st t)))
abbrev D7y:Sp:=spN D7w
abbrev D7z:Sp:=spN D7x
def A8j (a b:Option Int):Bool:=match b,a with
 | none,_=>true
 | some _,none=>false
 | some y,some x=>decide (x<=y)
def D70:DSp:=λds Q=>∃a b:Option Int,ds=[oD a,oD b]/\Q (.bool (A8j a b))
def Y6 (t o:Tb):List Nat:=(T5 t.length).filter λp=>!A8j (gt o p) (gt t p)
def D71:DSp:=λds Q=>∃t o:Tb,ds=[.list (C5 t),.list (C5 o)]/\t.length=o.length/\t.length<=900/\Q (.list (F3 (Y6 t o)))
abbrev D72:Sp:=spN D71
theorem B8w {H:Hp}{v:V}{xs:List PyData}(t:ThV TT0 H v (.list xs)):B45 TT0 none H v (.list xs) .bo:=by
 obtain⟨a,us,rfl,_,e,tu⟩:=M2 t;exact⟨a,us,xs,rfl,rfl,(λq hq=>nomatch hq),e,tu⟩
theorem D73:FK P w base 1 T.bS D7y:=by
 refine T.bS.F.ok D4e (λJ H J J h=>?_) (λJ J J J H J Q J hr h=>?_)
 ·obtain⟨ds,Qd,t,⟨st,t0,rfl,_⟩,_⟩:=h;rw[t.len];rfl
 ·obtain⟨ds,Qd,tv,⟨st,t0,rfl,hl,q⟩,told⟩:=h;obtain⟨v1,v2,rfl,t1,t2⟩:=X9 tv;cases t1;obtain⟨at',ut,rfl,_,et,tut⟩:=M2 t2;have lut:ut.length=t0.length:=by rw[tut.len,A0f]
  refine⟨_,(C1 (E3 (S1 (M7.new (N:=["store","table"]) (osc:=B1 B2j) KK) rfl (W7 (pv 1)) (λJ=>W8) (λJ=>(A62 (K6 m9 (pv 2) m7 (D1 _)) m7 (F0 A65 (pv 0) (pv 2))))))),?_⟩;refine⟨_,rfl,at',rfl,⟨ut,SqL.of et⟩,?_⟩;refine A7d (xs:=ut) (λi ys Hn=>Hn=H/\B4 TT0 H ys (C5 (lkF st (t0.take i)))) ?_ ⟨rfl,.nil⟩ ?_ ?_ ?_
  ·rw[lut,sizeLine_eq];omega
  ·rintro i ys Hn hi ⟨rfl,h2⟩;refine⟨?_,SqL.of et⟩;rw[h2.len,A0f];unfold lkF;rw[B6,Z9];omega
  ·rintro i x ys Hn hx ⟨rfl,h2⟩ ca;obtain⟨d,hd,tx⟩:=B26 tut hx;unfold C5 at hd;rw[P6] at hd;obtain⟨o,ho,rfl⟩:=A28.mp hd;have stp:C5 (lkF st (t0.take (i+1)))=C5 (lkF st (t0.take i))++[oD (o.map λx=>st-x)]:=by
    rw[A27,ho];unfold lkF C5;rw[Q3,Q3];rfl
   unfold o8;refine G4 ⟨_,rfl,rfl,_,rfl,?_⟩;rw[stp];cases o with
   | none=>cases tx;exact G4 ⟨rfl,h2.append (.cons .non .nil)⟩
   | some y=>cases tx;rw[show decide (V.int y=V.non)=false from decide_eq_false λz=>by cases z];exact E4 ⟨_,rfl,_,rfl,_,_,rfl,rfl,rfl,h2.append (.cons (.int _) .nil)⟩
  rintro ys Hn ⟨rfl,h2⟩ p hp;rw[lut,A4r] at h2;exact told _ _ _ q (.lst (.inl hp) B3 (M4 h2)) (Same.upd hp)
theorem C44:FK P w base 9 T.cC D7z:=by
 have cN:=@B29 P w K mg base T;have cO:=T.aq.b;refine T.cC.F.ok D4f (λJ H J J h=>?_) (λJ J J J H J Q J hr h=>?_)
 ·obtain⟨ds,Qd,t,⟨m,ws,st,g,rfl,_⟩,_⟩:=h;rw[t.len];rfl
 ·obtain⟨ds,Qd,tv,⟨m,ws,st,g,rfl,ok,h0,hst,hg,q⟩,told⟩:=h;cases tv with
  | @cons vl _ _ _ tl tv=>
  obtain⟨vst,vg,rfl,tst,tg⟩:=X9 tv;cases tst;have m2:=ok.m2;have few:=ok.few;have hgl:=hg.len;refine⟨_,(C1 (E3 (pcF T.bS (D73 T) hr (A1 (pv 1) (A1 (A9 cN (hr.mono DD) rfl (T.bp.trans T.aq.m) T.aq.F.kp cO .nil A4 (A1 (pcF T.bu (D6r T) hr (A1 (pv 0) A3 A0)) (A1 (pv 1) (A1 (pcF T.bS (D73 T) hr (A1 (pv 1) (A1 (pv 2) A3 A0) A0)) A3 C0) A0) C0)) A3 C0) A0)))),?_⟩;refine⟨_,rfl,_,rfl,V1 (E:=E0) (λd=>d=J0 m (ws.map A2z)) (.cons tl .nil) ⟨m,ws,rfl,OO,rfl⟩ λd v1 H1 hd t1 s1=>?_⟩;subst hd;refine⟨_,rfl,_,rfl,_,rfl,[.int st,.list (C5 g)],(λd=>d=.list (C5 (lkF st g))),.cons (.int _) (.cons (tg.keep s1) .nil),⟨st,g,rfl,OO,rfl⟩,λd v2 H2 hd t2 s2=>?_⟩;subst hd;refine V1 (E:=E0) (λd=>∃t,Q8 m (ws.map A2z) st (lkF st g) t/\d=.list (C5 t)) (.cons (t1.keep s2) (.cons (.int _) (.cons (B8w t2.any) .nil))) ⟨m,_,st,_,rfl,D7v ok,h0,hst,C43 hg,λt ht J=>⟨t,ht,rfl⟩⟩ λd v3 H3 hd t3 s3=>?_;obtain⟨t,ht,rfl⟩:=hd;have htl:=ht.tab.len;have s03:=(s1.tr s2).tr s3;refine⟨[.int st,.list (C5 t)],(λd=>d=.list (C5 (lkF st t))),.cons (.int _) (.cons t3 .nil),⟨st,t,rfl,OO,rfl⟩,λd v4 H4 hd t4 s4=>?_⟩;subst hd;exact told _ _ _ (q t ht) (t4.mv λb o z e=>⟨C4h s03 z,e⟩) (s03.tr s4)
theorem D74:FK P w base 1 T.cb (spD [.sh,.sh] D70):=by
 refine J3 T.cb.F D4d rfl (λC cdv A outer s H E hr=>⟨_,(E5 (F8 (B4x (A07 m9 A2o (A5 (pv 1)) O4 (D1 _)) (z5 (A08 (A07 A2g A5h (A5 (pv 0)) O4 (D1 _)) (z5 (A07 V6 C10 (A5 (pv 0)) (A5 (pv 1)) (D1 _)))))))),λds Q hl h=>?_⟩);obtain⟨a,b,rfl,q⟩:=h;cases b with
 | none=>right;exact q
 | some y=>
  cases a with
  | none=>right;exact q
  | some x=>right;exact q
theorem D75:FK P w base 2 T.aF D72:=by
 refine T.aF.F.ok D4j (λJ H J J h=>?_) (λJ J J J H J Q J hr h=>?_)
 ·obtain⟨ds,Qd,t,⟨t0,o0,rfl,_⟩,_⟩:=h;rw[t.len];rfl
 ·obtain⟨ds,Qd,tv,⟨t0,o0,rfl,hlen,hl,q⟩,told⟩:=h;obtain⟨v1,v2,rfl,t1,t2⟩:=X9 tv;obtain⟨at',ut,rfl,_,et,tut⟩:=M2 t1;obtain⟨ao,uo,rfl,_,eo,tuo⟩:=M2 t2;have lut:ut.length=t0.length:=by rw[tut.len,A0f]
  refine⟨_,(C1 (E3 (S1 (M7.new (N:=["table","other"]) (osc:=B1 B2k) KK) rfl (A3g rfl T.cP (A1 (J2 Z1 rfl T.bq V9 (A1 (pv 0) A3 A0)) A3 C0)) (λJ=>(B1f (T0 (U4 (pcF T.cb (D74 T) hr (A1 (C7 F1 (pv 1) (pv 2)) (A1 (C7 F1 (pv 0) (pv 2)) A3 B0) B0)))))) (λJ=>(pv 2))))),?_⟩;refine⟨_,rfl,at',ut,rfl,.inl (SqL.of et),_,rfl,OO,OO,?_⟩;refine B4l (n:=((ut.length:Nat):Int).toNat) (λi ys Hn=>Same H Hn/\B4 TT0 H ys (F3 ((T5 i).filter λp=>!A8j (gt o0 p) (gt t0 p)))) ?_ ⟨λJ J e=>e,.nil⟩ ?_ ?_ ?_
  ·rw[lut,sizeLine_eq];omega
  ·rintro i ys Hn hi ⟨h1,h2⟩;rw[h2.len,A37];exact J1 (B9v _ _) (by rw[w4];exact E8 _)
  ·rintro i ys Hn hi ⟨h1,h2⟩ ca;rw[lut,Int.toNat_natCast] at hi;rw[Int.zero_add];obtain⟨vo,hvo,tvo⟩:=B1n tuo (A8f (t:=o0) (p:=i) OO);obtain⟨vt,hvt,tvt⟩:=B1n tut (A8f (t:=t0) (p:=i) hi);refine⟨_,rfl,_,rfl,ao,uo,_,_,rfl,rfl,SqL.of (h1 _ _ eo),hvo,_,rfl,_,rfl,at',ut,_,_,rfl,rfl,SqL.of (h1 _ _ et),hvt,V1 (E:=E0) (λd=>d=.bool (A8j (gt o0 i) (gt t0 i))) (.cons (tvo.any.keep h1) (.cons (tvt.any.keep h1) .nil)) ⟨_,_,rfl,rfl⟩ λd v H' hd tv s'=>?_⟩;subst hd;cases tv;refine⟨_,rfl,?_⟩;rw[B9u,List.filter_append];cases e:A8j (gt o0 i) (gt t0 i) with
   | true=>refine E4 ⟨h1.tr s',?_⟩;rw[B9s (by rw[e];decide),List.filter_nil,X5];exact h2
   | false=>refine G4 ⟨_,rfl,h1.tr s',?_⟩;rw[B9r (by rw[e];rfl),List.filter_nil];unfold F3;rw[Q3];exact h2.append (.cons (.int _) .nil)
  rintro ys Hn ⟨h1,h2⟩ p hp;rw[lut,Int.toNat_natCast] at h2;exact told _ _ _ q (.lst (.inl (h1.early hp)) B3 (D58 h2)) (h1.tr (Same.upd hp))
abbrev Kw:=List (Int×Wy)
def K8 (kws:Kw)(k:Int):Option Wy:=(kws.find? λq=>decide (q.1=k)).map (·.2)
def A1f (kws:Kw)(k:Int)(w:Wy):Kw:=if (kws.any λq=>decide (q.1=k))=true then kws.map (λq=>if q.1=k then (q.1,w) else q) else kws++[(k,w)]
def B0d (kws:Kw)(k:Int):Kw:=kws.filter λq=>decide (q.1≠k)
def D9 (kws:Kw):List Int:=kws.map (·.1)
inductive P2 (H:Hp):List (Key×V)->Kw->Prop
 | nil:P2 H [] []
 | cons {k:Int} {v:V} {w:Wy} {kvs:List (Key×V)} {kws:Kw}:ThV TT0 H v (N9 w)->P2 H kvs kws->P2 H ((Sum.inl k,v)::kvs) ((k,w)::kws)
theorem B8x {F G:Addr->Prop}{H H':Hp}:∀{xs:List Int}{us:List V},B4 F H us (xs.map PyData.int)->B4 G H' us (xs.map PyData.int)
 | [],_,h=>by cases h;exact .nil
 | x::xs,_,h=>by
  cases h with
  | cons y r=>cases y;exact .cons (.int _) (B8x r)
theorem B0e {F G:Addr->Prop}{H H':Hp}{v:V}{w:Wy}(t:ThV F H v (N9 w))(s:∀b xs,H b=some (.tup xs)->H' b=some (.tup xs))(g:∀b xs,H b=some (.tup xs)->G b):ThV G H' v (N9 w):=by
 obtain⟨a,us,rfl,_,e,tu⟩:=Y0 (show ThV F H v (.tuple ([((w.1:Nat):Int),((w.2.1:Nat):Int),w.2.2].map PyData.int)) from t);exact .tup (g _ _ e) (s _ _ e) (B8x tu)
section
variable {H':Hp}{kvs:List (Key×V)}{kws:Kw}
theorem P2.mv (h:P2 H kvs kws)(s:∀b xs,H b=some (.tup xs)->H' b=some (.tup xs)):P2 H' kvs kws:=by
 induction h with
 | nil=>exact .nil
 | cons t _ ih=>exact .cons (B0e t s λJ J J=>trivial) ih
theorem P2.len (h:P2 H kvs kws):kvs.length=kws.length:=by
 induction h with
 | nil=>rfl
 | cons _ _ ih=>rw[K4,K4,ih]
theorem P2.keys (h:P2 H kvs kws):kvs.map (·.1)=(D9 kws).map Sum.inl:=by
 induction h with
 | nil=>rfl
 | cons _ _ ih=>unfold D9 at ih ⊢;rw[K9,K9,K9,ih]
theorem D76 {a b:Int}:((Sum.inl a:Key)=Sum.inl b)↔a=b:=⟨λh=>Sum.inl.inj h,λh=>by rw[h]⟩
theorem C45 (q:Int×Wy)(r:Kw)(k:Int):K8 (q::r) k=if q.1=k then some q.2 else K8 r k:=by
 unfold K8;rw[A4q];by_cases e:q.1=k
 ·rw[decide_eq_true e,if_pos e];rfl
 ·rw[decide_eq_false e,if_neg e]
theorem P2.val (h:P2 H kvs kws)(k:Int):(S6 kvs (Sum.inl k:Key)=none/\K8 kws k=none)\/∃v w,S6 kvs (Sum.inl k:Key)=some v/\K8 kws k=some w/\ThV TT0 H v (N9 w):=by
 induction h with
 | nil=>exact .inl ⟨rfl,rfl⟩
 | @cons k' v w kvs kws t _ ih=>
  rw[C45];by_cases e:k'=k
  ·subst e;rw[if_pos rfl,B14 (p:=((Sum.inl k':Key),v)) rfl];exact .inr ⟨v,w,rfl,rfl,t⟩
  ·rw[if_neg e,B15 (p:=((Sum.inl k':Key),v)) (λz=>e (Sum.inl.inj z))];exact ih
theorem P2.map (h:P2 H kvs kws){k:Int}{v:V}{w:Wy}(t:ThV TT0 H v (N9 w)):P2 H (kvs.map λkv=>if kv.1=(Sum.inl k:Key) then (kv.1,v) else kv) (kws.map λq=>if q.1=k then (q.1,w) else q):=by
 induction h with
 | nil=>exact .nil
 | @cons k' v' w' kvs kws t' _ ih=>
  rw[K9,K9];by_cases e:k'=k
  ·rw[if_pos (show (Sum.inl k':Key)=Sum.inl k by rw[e]),if_pos (show k'=k from e)];exact .cons t ih
  ·rw[if_neg (show ¬ (Sum.inl k':Key)=Sum.inl k from λz=>e (Sum.inl.inj z)),if_neg (show ¬ k'=k from e)];exact .cons t' ih
theorem P2.snoc (h:P2 H kvs kws){k:Int}{v:V}{w:Wy}(t:ThV TT0 H v (N9 w)):P2 H (kvs++[(Sum.inl k,v)]) (kws++[(k,w)]):=by
 induction h with
 | nil=>exact .cons t .nil
 | cons t' _ ih=>exact .cons t' ih
theorem P2.any (h:P2 H kvs kws)(k:Int):(kvs.any λkv=>decide (kv.1=(Sum.inl k:Key)))=(kws.any λq=>decide (q.1=k)):=by
 induction h with
 | nil=>rfl
 | cons _ _ ih=>rw[A4m,A4m,ih];congr 1;exact decide_eq_decide.mpr D76
theorem P2.put (h:P2 H kvs kws){k:Int}{v:V}{w:Wy}(t:ThV TT0 H v (N9 w)):P2 H (U1 kvs (Sum.inl k:Key) v) (A1f kws k w):=by
 unfold U1 A1f;rw[h.any k];split
 ·exact h.map t
 ·exact h.snoc t
theorem P2.drop (h:P2 H kvs kws)(k:Int):P2 H (A12 kvs (Sum.inl k:Key)) (B0d kws k):=by
 unfold A12 B0d
 induction h with
 | nil=>exact .nil
 | @cons k' v w kvs kws t _ ih=>
  by_cases e:k'=k
  ·rw[B9s (by simp [e]),B9s (by simp [e])];exact ih
  ·rw[B9r (by simp [e]),B9r (by simp [e])];exact .cons t ih
end
def srt (ns:List Int):List Int:=ns.mergeSort (λa b=>decide (a<=b))
theorem i8 (ns:List Int):(srt ns).Perm ns:=List.mergeSort_perm ns _
theorem D77 (ns:List Int):(srt ns).Pairwise (·<=·):=by
 have:=List.pairwise_mergeSort (le:=λa b:Int=>decide (a<=b)) (λa b c h1 h2=>by simp at *;omega) (λa b=>by simp;omega) ns;exact this.imp λh=>by simpa using h
theorem B8y {ns ms:List Int}(p:ms.Perm ns)(h:ms.Pairwise (·<=·)):ms=srt ns:=(p.trans (i8 ns).symm).eq_of_pairwise (λa b J J h1 h2=>OO) h (D77 ns)
def wsF (kws:Kw):List Wy:=(srt (D9 kws)).map λk=>(K8 kws k).getD (0,0,0)
structure B3a (m:Nat)(w:Wy):Prop where
 st:w.1<m
 en:w.2.1<m
 lo:-∅<=w.2.2
 hi:w.2.2<=∅
structure KOk (m:Nat)(st:Int)(g:Tb)(kws:Kw):Prop where
 m1:1<=m
 m2:m<=12
 s0:0<=st
 s1:st<=100000000000000000000
 gt:F9 m st g
 nd:(D9 kws).Nodup
 few:kws.length<=40
 way:∀q∈kws,(1<=q.1/\q.1<=∅)/\B3a m q.2
theorem A8k {kws:Kw}{k:Int}{w:Wy}(h:K8 kws k=some w):(k,w)∈kws:=by
 unfold K8 at h;cases e:kws.find? λq=>decide (q.1=k) with
 | none=>rw[e] at h;cases h
 | some q=>
  rw[e] at h;cases h;have h1:=List.find?_some e;have h2:=List.mem_of_find?_eq_some e;have h3:q.1=k:=by simpa using h1
  rw[<-h3];exact h2
theorem A6h {kws:Kw}{k:Int}(h:k∈D9 kws):∃w,K8 kws k=some w:=by
 induction kws with
 | nil=>cases h
 | cons q r ih=>
  rw[C45];by_cases e:q.1=k
  ·rw[if_pos e];exact⟨_,rfl⟩
  ·rw[if_neg e];rcases G1.mp (show k∈q.1::D9 r from h) with z | z
   ·exact absurd z.symm e
   ·exact ih z
theorem KOk.land {m:Nat}{st:Int}{g:Tb}{kws:Kw}(o:KOk m st g kws):K0 m (wsF kws):=by
 have key:∀w∈wsF kws,B3a m w:=λw hw=>by
  unfold wsF at hw;obtain⟨k,hk,rfl⟩:=M9.mp hw;obtain⟨w',hw'⟩:=A6h ((i8 _).mem_iff.mp hk);rw[hw'];exact (o.way _ (A8k hw')).2
 refine⟨o.m1,o.m2,?_,λw hw=>(key w hw).st,λw hw=>(key w hw).en,λw hw=>(key w hw).lo,λw hw=>(key w hw).hi⟩;unfold wsF;rw[B6,(i8 _).length_eq];unfold D9;rw[B6];exact o.few
def V2 (m:Nat)(st:Int)(g:Tb)(kws:Kw)(low:Tb):Prop:=∃t,Q8 m ((wsF kws).map A2z) st (lkF st g) t/\low=lkF st t
theorem V2.uniq {m:Nat}{st:Int}{g:Tb}{kws:Kw}{a b:Tb}(h:V2 m st g kws a)(k:V2 m st g kws b):a=b:=by
 obtain⟨t,h1,rfl⟩:=h;obtain⟨u,h2,rfl⟩:=k;rw[h1.uniq h2]
theorem V2.tab {m:Nat}{st:Int}{g:Tb}{kws:Kw}{a:Tb}(h:V2 m st g kws a):F9 m st a:=by
 obtain⟨t,h1,rfl⟩:=h;exact C43 h1.tab
structure Kst where
 m:Nat
 st:Int
 g:Tb
 kws:Kw
 low:Tb
def kfs (m:Nat)(st:Int)(g d l:Addr):List (Str×V):=[("many",.int ((m:Nat):Int)),("full",.int st),("wanted",.ref g),("laid",.ref d),("lowest",.ref l)]
theorem B3b {m:Nat}{st:Int}{g d l:Addr}:(kfs m st g d l).lookup ("many" : Str)=some (.int ((m:Nat):Int)):=by with_unfolding_all rfl
theorem B3c {m:Nat}{st:Int}{g d l:Addr}:(kfs m st g d l).lookup ("full" : Str)=some (.int st):=by with_unfolding_all rfl
theorem C46 {m:Nat}{st:Int}{g d l:Addr}:(kfs m st g d l).lookup ("wanted" : Str)=some (.ref g):=by with_unfolding_all rfl
theorem A1g {m:Nat}{st:Int}{g d l:Addr}:(kfs m st g d l).lookup ("laid" : Str)=some (.ref d):=by with_unfolding_all rfl
theorem B3d {m:Nat}{st:Int}{g d l:Addr}:(kfs m st g d l).lookup ("lowest" : Str)=some (.ref l):=by with_unfolding_all rfl
theorem K7 {m:Nat}{st:Int}{g d l:Addr}{f:Str}(h:(f == "many" ||f == "full" ||f == "wanted" ||f == "laid" ||f == "lowest")=false):(kfs m st g d l).lookup f=none:=by
 simp only[Bool.or_eq_false_iff] at h;obtain⟨⟨⟨⟨h1,h2⟩,h3⟩,h4⟩,h5⟩:=h;unfold kfs;rw[A1m,h1,A1m,h2,A1m,h3,A1m,h4,A1m,h5];rfl
theorem D78 {m:Nat}{st:Int}{g d l l':Addr}:S0 "lowest" (.ref l') (kfs m st g d l)=kfs m st g d l':=by with_unfolding_all rfl
theorem D79 {m:Nat}{st st':Int}{g d l:Addr}:S0 "full" (.int st') (kfs m st g d l)=kfs m st' g d l:=by with_unfolding_all rfl
theorem D8a {m:Nat}{st:Int}{g g' d l:Addr}:S0 "wanted" (.ref g') (kfs m st g d l)=kfs m st g' d l:=by with_unfolding_all rfl
structure E7 (F:Addr->Prop)(C:Addr)(H:Hp)(p d:Addr)(k:Kst):Prop where
 ob:∃dx g l ug ul,H p=some (.ins C dx (kfs k.m k.st g d l))/\F g/\H g=some (.lst ug)/\B4 TT0 H ug (C5 k.g)/\F l/\H l=some (.lst ul)/\B4 TT0 H ul (C5 k.low)
 dc:∃kvs,H d=some (.dK kvs)/\P2 H kvs k.kws
theorem E7.mv {F G:Addr->Prop}{C:Addr}{H H':Hp}{p d:Addr}{k:Kst}(h:E7 F C H p d k)(s:∀b o,H b=some o->(∀xs,o=.lst xs->F b)->H' b=some o)(hF:∀b,F b->G b):E7 G C H' p d k:=by
 obtain⟨⟨dx,g,l,ug,ul,e1,g1,e2,t2,g3,e3,t3⟩,kvs,e4,kv⟩:=h;refine⟨⟨dx,g,l,ug,ul,s _ _ e1 (λxs z=>by cases z),hF _ g1,s _ _ e2 (λJ J=>g1),M4 t2,hF _ g3,s _ _ e3 (λJ J=>g3),M4 t3⟩,kvs,s _ _ e4 (λxs z=>by cases z),kv.mv λb xs e=>s _ _ e (λJ z=>by cases z)⟩
theorem C47 {t u:DS}{D:Z4}{ρ:List Sl}(M:List Sl->Prop)(h1:t { D with nx:=M } ρ)(h2:∀ρ',M ρ'->Go (u D) ρ'):A1a (B1v t) u D ρ:=⟨M,h1,h2⟩
def D8b:DSp:=λds Q=>∃x:Int,ds=[.int x]/\1<=x/\x<=∅/\Q (.bool true)
def D8c:DSp:=λds Q=>∃x:Int,ds=[.int x]/\-∅<=x/\x<=∅/\Q (.bool true)
def D8d:DSp:=λds Q=>∃(m:Nat)(w:Wy),ds=[.int (m:Nat),N9 w]/\B3a m w/\Q (.bool true)
def D8e:DSp:=λds Q=>∃x:Int,ds=[.int x]/\0<=x/\x<=100000000000000000000/\Q (.bool true)
def D8f:DSp:=λds Q=>∃st x:Int,ds=[.int st,.int x]/\0<=x/\x<=st/\Q (.bool true)
def D8g:DSp:=λds Q=>∃(t:Tb)(m:Nat)(st:Int),ds=[.int (m:Nat),.int st,.list (C5 t)]/\m<=900/\F9 m st t/\Q (.bool true)
theorem C48 {α:Type}(b:Bool):∀xs:List α,A5r (xs.map λJ=>PyData.bool b)=some (xs.map λJ=>b)
 | []=>rfl
 | x::xs=>by
  show (A5r (xs.map λJ=>PyData.bool b)).map (b::·)=_;rw[C48 b xs];rfl
theorem C49 {α:Type}:∀xs:List α,(xs.map λJ=>true).all id=true
 | []=>rfl
 | x::xs=>by
  show (true&&(xs.map λJ=>true).all id)=true;rw[C49 xs];rfl
theorem C5a {t:Tb}{o:Option Int}(h:o∈t):∃p,gt t p=o:=by
 obtain⟨p,hp,e⟩:=A8w.mp h;exact⟨p,by unfold gt;rw[P7 hp,e];rfl⟩
theorem C5b:FK P w base 2 T.bi (spD [.sh] D8b):=by
 refine J3 T.bi.F D4i rfl (λC cdv A outer s H E hr=>⟨_,(E5 (F8 (A08 (F5 (pcF T.ak (A94 T) hr (B9 (A5 (pv 0)) F4 A0))) (z5 (A9f V6 V6 F7 (A5 (pv 0)) (N7 U5 A5g F7 F7)))))),λds Q hl h=>?_⟩);obtain⟨x,rfl,x0,x1,q⟩:=h;left;refine⟨_,rfl,?_⟩;rw[show A2x (.int x)=true from rfl];left;rw[decide_eq_true x0];left;refine⟨⟨DD,DD,DD⟩,?_⟩;rw[decide_eq_true (show x<=10^(18:Int).toNat from A01 x1 DD)];exact q
theorem C5c:FK P w base 2 T.aR (spD [.sh] D8c):=by
 refine J3 T.aR.F D31 rfl (λC cdv A outer s H E hr=>⟨_,(E5 (F8 (A08 (F5 (pcF T.ak (A94 T) hr (B9 (A5 (pv 0)) F4 A0))) (z5 (A9f V6 V6 (A0a (N7 U5 A5g F7 F7)) (A5 (pv 0)) (N7 U5 A5g F7 F7)))))),λds Q hl h=>?_⟩);obtain⟨x,rfl,x0,x1,q⟩:=h;left;refine⟨_,rfl,?_⟩;rw[show A2x (.int x)=true from rfl];left;refine⟨⟨DD,DD,DD⟩,?_⟩;rw[decide_eq_true (show -(10:Int)^(18:Int).toNat<=x from A01 DD x0)];left;refine⟨⟨DD,DD,DD⟩,?_⟩;rw[decide_eq_true (show x<=10^(18:Int).toNat from A01 x1 DD)];exact q
theorem D8h:FK P w base 3 T.dj (spD [.sh,.sh] D8d):=by
 refine J3 T.dj.F D32 rfl (λC cdv A outer s H E hr=>⟨_,(@N8 _ _ _ _ _ _ (@B1w _ _ _ _ (@X1 _ _ _ _ _ _ _ _ _ (PW.pt (@A46 _ _ _ _ _ _ _ _ (A44 (A2m (B1s D0y (J2 B1j rfl T.ck A9b (A1 (pv 1) (A1 (A80 (v:=V.ty "tuple") rfl T.iT C9p rfl) A3 A0) A0))))) (A7i (Q6 (B1h (X3 hr)) A7m (A5o (J2 Z1 rfl T.bq V9 (A1 (pv 1) A3 A0))) F7 (D1 _))))) (E5 (F8 C1w)) Y1)) (@E5 _ _ _ _ (@F8 _ _ _ _ _ (@A08 _ _ _ _ _ _ _ _ (F5 (pcF T.av (B8k T) hr (B9 (A5 (pv 0)) (B9 (C9 (pv 1) (D8 (cII T.g_START))) F4 B0) A0))) (@A08 _ _ _ _ _ _ _ _ (F5 (pcF T.av (B8k T) hr (B9 (A5 (pv 0)) (B9 (C9 (pv 1) (D8 (cII T.g_END))) F4 B0) A0))) (z5 (F5 (pcF T.aR (C5c T) hr (B9 (C9 (pv 1) (D8 (cII T.g_CHANGE))) F4 B0))))))))),λds Q hl h=>?_⟩);obtain⟨m,w,rfl,ow,q⟩:=h;refine C47 (fun ρ'=>ρ'=[Sl.sh (.int ((m:Nat):Int)),Sl.sh (N9 w)]) ?_ ?_
 ·right;refine⟨rfl,rfl,A99 _ _,?_⟩;exact E4 rfl
 rintro ρ rfl;refine go ?_;right;have h1:=ow.st;have h2:=ow.en;refine⟨_,_,rfl,?_⟩;rw[decide_eq_true (show (0:Int)<=((w.1:Nat):Int)/\((w.1:Nat):Int)<((m:Nat):Int) by omega)];right;refine⟨_,_,rfl,?_⟩;rw[decide_eq_true (show (0:Int)<=((w.2.1:Nat):Int)/\((w.2.1:Nat):Int)<((m:Nat):Int) by omega)];right;exact⟨w.2.2,rfl,ow.lo,ow.hi,q⟩
theorem C5d:FK P w base 2 T.bf (spD [.sh] D8e):=by
 refine J3 T.bf.F D3v rfl (λC cdv A outer s H E hr=>⟨_,(E5 (F8 (A08 (F5 (pcF T.ak (A94 T) hr (B9 (A5 (pv 0)) F4 A0))) (z5 (A9f V6 V6 F7 (A5 (pv 0)) (N7 U5 A5g F7 F7)))))),λds Q hl h=>?_⟩);obtain⟨x,rfl,x0,x1,q⟩:=h;left;refine⟨_,rfl,?_⟩;rw[show A2x (.int x)=true from rfl];left;rw[decide_eq_true x0];left;refine⟨⟨DD,DD,DD⟩,?_⟩;rw[decide_eq_true (show x<=10^(20:Int).toNat from A01 x1 DD)];exact q
theorem C5e:FK P w base 2 T.bg (spD [.sh,.sh] D8f):=by
 refine J3 T.bg.F D3w rfl (λC cdv A outer s H E hr=>⟨_,(E5 (F8 (A08 (F5 (pcF T.ak (A94 T) hr (B9 (A5 (pv 1)) F4 A0))) (z5 (A9f V6 V6 F7 (A5 (pv 1)) (A5 (pv 0))))))),λds Q hl h=>?_⟩);obtain⟨st,x,rfl,x0,x1,q⟩:=h;left;refine⟨_,rfl,?_⟩;rw[show A2x (.int x)=true from rfl];left;rw[decide_eq_true x0];left;rw[decide_eq_true x1];exact q
theorem B3e:FK P w base 3 T.au (spD [.sh,.sh,.sh] D8g):=by
 refine J3 T.au.F D36 rfl (λC cdv A outer s H E hr=>⟨_,(@N8 _ _ _ _ _ _ (@B1w _ _ _ _ (@X1 _ _ _ _ _ _ _ _ _ (PW.pt (@A46 _ _ _ _ _ _ _ _ (A44 (A2m (B1s D0x (J2 B1j rfl T.ck A9b (A1 (pv 2) (A1 (A80 (v:=V.ty "list") rfl T.cE A1t rfl) A3 A0) A0))))) (A7i (Q6 (B1h (X3 hr)) A7m (A5o (J2 Z1 rfl T.bq V9 (A1 (pv 2) A3 A0))) (A5 (pv 0)) (D1 _))))) (E5 (F8 C1w)) Y1)) (@E5 _ _ _ _ (@F8 _ _ _ _ _ (@o9 _ _ _ _ _ _ D0q (@J2 _ _ _ _ _ _ _ _ _ (C1f rfl) rfl T.je C1i (@E2 _ _ _ _ _ _ (@N1 _ _ _ _ (@A2r _ _ _ _ _ _ _ _ rfl (@S1 _ _ _ _ _ _ _ _ _ _ _ _ _ _ _ (M7.new (N:=["many","store","thing"]) (osc:=B1 B2d) KK) rfl (A3r (pv 2)) (λJ=>A2q) (λJ=>(B4x (A07 m9 A2o (A5 (pv 3)) O4 (D1 _)) (z5 (F5 (pcF T.bg (C5e T) hr (B9 (A5 (pv 1)) (B9 (A5 (pv 3)) F4 A0) A0)))))) (by rfl) (by rfl) (by intro _;rfl)))) G7 b7) DD DD b7 A2))))),λds Q hl h=>?_⟩);obtain⟨t,m,st,rfl,hm,ht,q⟩:=h;have hl:=ht.len;refine C47 (fun ρ'=>ρ'=[Sl.sh (.int ((m:Nat):Int)),Sl.sh (.int st),Sl.sh (.list (C5 t))]) ?_ ?_
 ·right;refine⟨rfl,rfl,A99 _ _,?_⟩;rw[B0a,A0f,hl,beq_self_eq_true];exact E4 rfl
 rintro ρ rfl;refine go ?_
 array_mem_dec
 refine⟨⟨rfl,by rw[A0f];omega⟩,?_⟩;unfold C5;refine A2s (f:=λJ=>.bool true) (λo ho Q' q'=>?_) ?_
 ·cases o with
  | none=>right;exact q'
  | some x=>obtain⟨p,hp⟩:=C5a ho;obtain⟨b0,b1⟩:=ht.bd p x hp;right;exact⟨st,x,rfl,b0,b1,q'⟩
 ·rw[O1];unfold gBs;left;rw[C48];left;rw[C49];exact q
theorem E7.same {F:Addr->Prop}{C:Addr}{H H':Hp}{p d:Addr}{k:Kst}(h:E7 F C H p d k)(s:Same H H'):E7 F C H' p d k:=h.mv (λb o e J=>s _ _ e) λJ z=>z
def TL (H:Hp)(v:V)(b:Addr):Prop:=v=.ref b\/∃a xs,v=.ref a/\H a=some (.tup xs)/\V.ref b∈xs
def Apt (C:Addr)(H:Hp)(p d:Addr)(k:Kst)(v:V):Prop:=(∀a x y,v=.ref a->H a=some (.tup [.ref x,.ref y])->x≠y)/\E7 (λb=>¬ TL H v b) C H p d k
theorem E7.ex {F:Addr->Prop}{C:Addr}{H:Hp}{p d:Addr}{k:Kst}(h:E7 F C H p d k):E7 (λb=>∃xs,H b=some (.lst xs)) C H p d k:=by
 obtain⟨⟨dx,g,l,ug,ul,e1,g1,e2,t2,g3,e3,t3⟩,z⟩:=h;exact⟨⟨dx,g,l,ug,ul,e1,⟨_,e2⟩,e2,t2,⟨_,e3⟩,e3,t3⟩,z⟩
theorem A21 {G G':Addr->Prop}{C:Addr}{H:Hp}{p d:Addr}{k:Kst}(h:E7 G C H p d k)(n:∀b xs,G b->H b=some (.lst xs)->G' b):E7 G' C H p d k:=by
 obtain⟨⟨dx,g,l,ug,ul,e1,g1,e2,t2,g3,e3,t3⟩,z⟩:=h;exact⟨⟨dx,g,l,ug,ul,e1,n _ _ g1 e2,e2,t2,n _ _ g3 e3,e3,t3⟩,z⟩
section
variable {G:Addr->Prop}{C:Addr}{H0:Hp}{p d:Addr}{k:Kst}{a:Addr}
theorem D8i {i:Int}(h:E7 G C H p d k):Apt C H p d k (.int i):=⟨(λa x y e J=>by cases e),A21 h λb xs J J z=>by
 rcases z with z | ⟨_,_,z,_⟩ <;> cases z⟩
theorem C5f {xs:List V}(h:E7 (λb=>∃xs,H0 b=some (.lst xs)) C H p d k)(n:H0 a=none)(e:H a=some (.lst xs)):Apt C H p d k (.ref a):=⟨(λb x y e1 e2=>by
 cases e1;rw[e] at e2;cases e2),A21 h λb xs g J z=>by
 obtain⟨ys,g⟩:=g;rcases z with z | ⟨_,_,z,z2,_⟩
 ·cases z;rw[n] at g;cases g
 ·cases z;rw[e] at z2;cases z2⟩
theorem D8j {i:Int}{l:Addr}(h:E7 (λb=>∃xs,H0 b=some (.lst xs)) C H p d k)(n:H0 a=none)(n2:H0 l=none)(e:H a=some (.tup [.int i,.ref l])):Apt C H p d k (.ref a):=⟨(λb x y e1 e2=>by
 cases e1;rw[e] at e2;cases e2),A21 h λb xs g J z=>by
 obtain⟨ys,g⟩:=g;rcases z with z | ⟨_,_,z,z2,z3⟩
 ·cases z;rw[n] at g;cases g
 ·cases z;rw[e] at z2;cases z2;rcases G1.mp z3 with z | z
  ·cases z
  ·cases A6u.mp z;rw[n2] at g;cases g⟩
theorem D8k {F:Addr->Prop}{v:V}{w:Wy}(h:E7 G C H p d k)(t:ThV F H v (N9 w)):Apt C H p d k v:=by
 obtain⟨a,us,rfl,_,e,tu⟩:=Y0 (show ThV F H v (.tuple ([((w.1:Nat):Int),((w.2.1:Nat):Int),w.2.2].map PyData.int)) from t);have hu:∀{xs:List Int}{us:List V},B4 F H us (xs.map PyData.int)->∀b,V.ref b∉us:=λ{xs}=>by
  induction xs with
  | nil=>intro us t b z;cases t;cases z
  | cons x xs ih=>
   intro us t b z;cases t with
   | cons y r=>
    cases y;rcases G1.mp z with z | z
    ·cases z
    ·exact ih r b z
 refine⟨λb x y e1 e2=>?_,A21 h λb xs J eb z=>?_⟩
 ·cases e1;rw[e] at e2;cases e2;exact absurd D6 (hu tu x)
 ·rcases z with z | ⟨_,_,z,z2,z3⟩
  ·cases z;rw[e] at eb;cases eb
  ·cases z;rw[e] at z2;cases z2;exact hu tu b z3
end
def A0q (C:Addr)(pre:Kst->List PyData->Prop)(post:Kst->List PyData->PyData->Kst->Prop):Sp:=λvs H Q J=>∃(F:Addr->Prop)(p d:Addr)(k:Kst)(us:List V)(ds:List PyData),vs=.ref p::us/\(∀b,H b=none->F b)/\E7 F C H p d k/\B4 TT0 H us ds/\pre k ds/\
 ∀r v k' H',post k ds r k'->E7 F C H' p d k'->ThV (Q1 H) H' v r->(∀b o,H b=some o->b≠p->b≠d->H' b=some o)->Apt C H' p d k' v->Q v H'
def D8l (k:Kst)(ds:List PyData):Prop:=ds=[]/\(D9 k.kws).length<64
def D8m (k:Kst)(_:List PyData)(r:PyData)(k':Kst):Prop:=r=J0 k.m (wsF k.kws)/\k'=k
def C5g (k:Kst)(ds:List PyData):Prop:=ds=[]
def D8n (k:Kst)(_:List PyData)(r:PyData)(k':Kst):Prop:=r=.list (C5 k.low)/\k'=k
def D8o (a b:Tb):PyData:=.tuple [.list (F3 (Y6 b a)),.list (F3 (Y6 a b))]
def B3f (k:Kst)(low:Tb)(r:PyData)(k':Kst):Prop:=∃b,V2 k.m k.st k.g k.kws b/\r=D8o low b/\k'={ k with low:=b }
def D8p (k:Kst)(ds:List PyData):Prop:=ds=[]/\KOk k.m k.st k.g k.kws/\k.low.length=k.m
def D8q (k:Kst)(_:List PyData)(r:PyData)(k':Kst):Prop:=B3f k k.low r k'
theorem A22:FM P w mg base 1 T.am (A0q T.aa D8l D8m):=by
 refine T.am.F.ok D4r (λJ H J J h=>?_) (λJ J J J H J Q J hr h=>?_)
 ·obtain⟨F,p,d,k,us,ds,rfl,_,_,tus,⟨rfl,_⟩,_⟩:=h;cases tus;rfl
 ·obtain⟨F,p,d,k,us,ds,rfl,hF,kp,tus,⟨rfl,hk⟩,told⟩:=h;cases tus;have kp0:=kp;obtain⟨⟨dx,g,l,ug,ul,e1,g1,e2,t2,g3,e3,t3⟩,kvs,e4,kv⟩:=kp;refine⟨_,(C1 (E3 (o7 (A1 (Q5 (pv 0) rfl) (A1 (S1 (M7.new (N:=["self"]) (osc:=B1 B2m) KK) rfl (W7 (J2 (B5x rfl) rfl T.fh B4p (A1 (Q5 (pv 0) rfl) A3 O2))) (λJ=>W8) (λJ=>(B16 (u1 (X3 hr)) (Q5 (pv 0) rfl) (pv 1) (λJ J=>rfl)))) A3 b7) O2)))),?_⟩;refine⟨_,rfl,p,_,dx,_,_,rfl,e1,T.ac,T.dU,B3b,?_⟩;refine⟨_,rfl,p,_,dx,_,_,rfl,e1,T.ac,T.bN,A1g,d,kvs,_,rfl,e4,kv.keys,hk,λl1 ms hl1 hp hs=>?_⟩;have ems:=B8y hp hs;subst ems;obtain⟨H1,hH1⟩:∃H1,H1=upd H l1 (.lst ((srt (D9 k.kws)).map V.int)):=⟨_,rfl⟩;rw[<-hH1];have s1:Same H H1:=by rw[hH1];exact Same.upd hl1
  have el1:H1 l1=some (.lst ((srt (D9 k.kws)).map V.int)):=by rw[hH1];exact B3
  have lsr:(srt (D9 k.kws)).length<64:=by rw[(i8 _).length_eq];exact hk
  refine⟨l1,rfl,⟨_,SqL.of el1⟩,?_⟩;refine A7d (xs:=(srt (D9 k.kws)).map V.int) (λi ys Hn=>Hn=H1/\B4 (Q1 H) H1 ys (((wsF k.kws).take i).map N9)) ?_ ⟨rfl,.nil⟩ ?_ ?_ ?_
  ·rw[B6,sizeLine_eq];omega
  ·rintro i ys Hn hi ⟨rfl,h2⟩;refine⟨?_,SqL.of el1⟩;rw[h2.len,B6,Z9];omega
  ·rintro i x ys Hn hx ⟨rfl,h2⟩ ca;rw[P6] at hx;obtain⟨n,hn,rfl⟩:=A28.mp hx;obtain⟨w0,hw0⟩:=A6h ((i8 _).mem_iff.mp (R6 hn));have hwi:(wsF k.kws)[i]?=some w0:=by
    unfold wsF;rw[P6,hn,A6w,hw0];rfl
   rcases kv.val n with ⟨_,z⟩ | ⟨v0,w1,hv,hw1,tv⟩
   ·rw[hw0] at z;cases z
   rw[hw0] at hw1;cases hw1;unfold o8;refine G4 ⟨_,rfl,p,_,dx,_,_,rfl,s1 _ _ e1,T.ac,T.bN,A1g,_,rfl,d,v0,rfl,by rw[<-hv];exact Y3.k (k:=Sum.inl n) (s1 _ _ e4),rfl,?_⟩;rw[A27,hwi,Q3];exact h2.append (.cons (B0e tv (λb xs e=>s1 _ _ e) λb xs e=>.inr ⟨xs,e⟩) .nil)
  rintro ys Hn ⟨rfl,h2⟩ l2 hl2;have lw:(wsF k.kws).length=(srt (D9 k.kws)).length:=by unfold wsF;rw[B6]
  rw[B6,<-lw,A4r] at h2;refine⟨SZ (n:=2),λr hr'=>?_⟩;have s2:Same Hn (upd Hn l2 (.lst ys)):=Same.upd hl2;have s3:Same (upd Hn l2 (.lst ys)) _:=Same.upd (o:=.tup [.int ((k.m:Nat):Int),.ref l2]) hr';have s13:=(s1.tr s2).tr s3;refine told _ _ k _ ⟨rfl,rfl⟩ (kp0.same s13) (.tup (.inl ((s1.tr s2).early hr')) B3 (.cons (.int _) (.cons (.lst (.inl (s1.early hl2)) (s3 _ _ B3) ((h2.keep s2).keep s3)) .nil))) (λb o e J J=>s13 _ _ e) (D8j (kp0.ex.same s13) ((s1.tr s2).early hr') (s1.early hl2) B3)
theorem B8z:FM P w mg base 1 T.bG (A0q T.aa C5g D8n):=by
 refine T.bG.F.ok D4s (λJ H J J h=>?_) (λJ J J J H J Q J hr h=>?_)
 ·obtain⟨F,p,d,k,us,ds,rfl,_,_,tus,rfl,_⟩:=h;cases tus;rfl
 ·obtain⟨F,p,d,k,us,ds,rfl,hF,kp,tus,rfl,told⟩:=h;cases tus;have kp0:=kp;obtain⟨⟨dx,g,l,ug,ul,e1,g1,e2,t2,g3,e3,t3⟩,kvs,e4,kv⟩:=kp;refine⟨_,(C1 (E3 (T2 A3h rfl T.cE A1t (A1 (Q5 (pv 0) rfl) A3 O2)))),?_⟩;refine⟨_,rfl,p,_,dx,_,_,rfl,e1,T.ac,T.cF,B3d,l,ul,rfl,.inl (SqL.of e3),λl2 hl2=>?_⟩;exact told _ _ k _ ⟨rfl,rfl⟩ (kp0.same (Same.upd hl2)) (.lst (.inl hl2) B3 (M4 t3)) (λb o e J J=>Same.upd hl2 _ _ e) (C5f (kp0.ex.same (Same.upd hl2)) hl2 B3)
theorem M8 {F:Addr->Prop}{C:Addr}{H:Hp}{p d:Addr}{k:Kst}(h:E7 F C H p d k){b:Addr}{xs:List V}(e:H b=some (.lst xs)):b≠p/\b≠d:=by
 obtain⟨⟨dx,g,l,ug,ul,e1,_⟩,kvs,e4,_⟩:=h;exact⟨(λz=>by rw[z,e1] at e;cases e),λz=>by rw[z,e4] at e;cases e⟩
theorem P3 {F:Addr->Prop}{C:Addr}{H:Hp}{p d:Addr}{k:Kst}(h:E7 F C H p d k){b:Addr}{xs:List V}(e:H b=some (.tup xs)):b≠p/\b≠d:=by
 obtain⟨⟨dx,g,l,ug,ul,e1,_⟩,kvs,e4,_⟩:=h;exact⟨(λz=>by rw[z,e1] at e;cases e),λz=>by rw[z,e4] at e;cases e⟩
theorem A6i {F:Addr->Prop}{C:Addr}{H:Hp}{p d:Addr}{k:Kst}(h:E7 F C H p d k):p≠d/\H p≠none/\H d≠none:=by
 obtain⟨⟨dx,g,l,ug,ul,e1,_⟩,kvs,e4,_⟩:=h;exact⟨(λz=>by rw[z,e4] at e1;cases e1),(λz=>by rw[z] at e1;cases e1),λz=>by rw[z] at e4;cases e4⟩
theorem B0f:FM P w mg base 10 T.aH (A0q T.aa D8p D8q):=by
 have gL:=@C44 P w K mg base T;have gM:=T.cC.b;refine T.aH.F.ok C37 (λJ H J J h=>?_) (λJ J J J H J Q J hr h=>?_)
 ·obtain⟨F,p,d,k,us,ds,rfl,_,_,tus,⟨rfl,_⟩,_⟩:=h;cases tus;rfl
 ·obtain⟨F,p,d,k,us,ds,rfl,hF,kp,tus,⟨rfl,ok,hll⟩,told⟩:=h;cases tus;have kp0:=kp;obtain⟨⟨dx,g,l,ug,ul,e1,g1,e2,t2,g3,e3,t3⟩,kvs,e4,kv⟩:=kp;have fk:=ok.few;have m2:=ok.m2;have s1k:=ok.s1;have lk:(D9 k.kws).length<64:=by unfold D9;rw[B6];omega
  refine⟨_,(B5 (pS (i:=1) C37.nd (Q5 (pv 0) rfl))
   (B5 (A1r (pv 0) (A9 gL (hr.mono DD) rfl (T.dI.trans T.cC.m) T.cC.F.kp gM .nil A4 (A1 (pmG (pv 0) T.ac T.am (A22 T) hr) (A1 (Q5 (pv 0) rfl) (A1 (Q5 (pv 0) rfl) A3 O2) O2) C0)) rfl)
   (C1 (E3 (o7 (A1 (pcF T.aF (D75 T) hr (A1 (Q5 (pv 0) rfl) (A1 (pv 1) A3 A0) O2)) (A1 (pcF T.aF (D75 T) hr (A1 (pv 1) (A1 (Q5 (pv 0) rfl) A3 O2) A0)) A3 C0) C0)))))),?_⟩
  try dsimp only[G5,Cx.nox]
  refine A14 λW hW=>?_;refine⟨_,rfl,p,_,dx,_,_,rfl,e1,T.ac,T.cF,B3d,?_⟩;refine Q0 W hW λW hW=>?_;refine⟨_,rfl,p,dx,_,rfl,e1,K7 KK,F,p,d,k,[],[],rfl,hF,kp0,.nil,⟨rfl,lk⟩,λr v k' H1 po kp1 tv fr J=>?_⟩;obtain⟨rfl,rfl⟩:=po;have kp1':=kp1;obtain⟨⟨dx1,g',l',ug',ul',f1,gg1,f2,tt2,gg3,f3,tt3⟩,kvs',f4,kv'⟩:=kp1;have n3:=M8 kp0 e3;have e3':=fr _ _ e3 n3.1 n3.2;refine⟨_,rfl,p,_,dx1,_,_,rfl,f1,T.ac,T.dE,B3c,_,rfl,p,_,dx1,_,_,rfl,f1,T.ac,T.dN,C46,?_⟩;refine⟨[J0 k'.m (wsF k'.kws),.int k'.st,.list (C5 k'.g)],(λd=>∃t,Q8 k'.m ((wsF k'.kws).map A2z) k'.st (lkF k'.st k'.g) t/\d=.list (C5 (lkF k'.st t))),.cons tv.any (.cons (.int _) (.cons (.lst trivial f2 tt2) .nil)),⟨k'.m,wsF k'.kws,k'.st,k'.g,rfl,ok.land,ok.s0,OO,ok.gt,λt ht=>⟨t,ht,rfl⟩⟩,λd' v2 H2 hd' t2' s2=>?_⟩;obtain⟨t,ht,rfl⟩:=hd';obtain⟨ln,un,rfl,gn,en,tn⟩:=M2 t2';have lnn:H1 ln=none:=A95 s2 gn en;refine⟨_,rfl,p,_,dx1,_,rfl,s2 _ _ f1,T.ac,T.cF,by show 5<1000;decide,?_⟩;rw[D78];obtain⟨H3,hH3⟩:∃H3,H3=upd H2 p (.ins T.aa dx1 (kfs k'.m k'.st g' d ln)):=⟨_,rfl⟩;rw[<-hH3];have f3':∀b o,H2 b=some o->b≠p->H3 b=some o:=λb o e n=>by rw[hH3,B7 n];exact e
  have pd:=A6i kp1';have np:∀{b:Addr}{xs:List V},H2 b=some (.lst xs)->H3 b=some (.lst xs):=λ{b xs} e=>f3' _ _ e λz=>by rw[z,s2 _ _ f1] at e;cases e
  have lb:V2 k'.m k'.st k'.g k'.kws (lkF k'.st t):=⟨t,ht,rfl⟩;have kpF:E7 F T.aa H3 p d { k' with low:=lkF k'.st t }:=by
   refine⟨⟨dx1,g',ln,ug',un,by rw[hH3];exact B3,gg1,np (s2 _ _ f2),M4 tt2,hF _ ?_,np en,M4 tn⟩,kvs',f3' _ _ (s2 _ _ f4) pd.1.symm,kv'.mv λb xs e=>f3' _ _ (s2 _ _ e) (P3 kp1' e).1⟩;cases z:H ln with
   | none=>rfl
   | some o=>
    by_cases c1:ln=p
    ·rw[c1,s2 _ _ f1] at en;cases en
    ·by_cases c2:ln=d
     ·rw[c2,s2 _ _ f4] at en;cases en
     ·rw[fr _ _ z c1 c2] at lnn;cases lnn
  have eH3p:H3 p=some (.ins T.aa dx1 (kfs k'.m k'.st g' d ln)):=by rw[hH3];exact B3
  have lt:=lb.tab.len;subst hW;refine⟨_,rfl,p,_,dx1,_,_,rfl,eH3p,T.ac,T.cF,B3d,_,rfl,[.list (C5 (lkF k'.st t)),.list (C5 k'.low)],(λd=>d=.list (F3 (Y6 (lkF k'.st t) k'.low))),.cons (.lst trivial (np en) (M4 tn)) (.cons (.lst trivial (np (s2 _ _ e3')) (M4 t3)) .nil),⟨_,_,rfl,by rw[lt,hll],OO,rfl⟩,λd' v4 H4 hd' t4 s4=>?_⟩;subst hd';refine⟨_,rfl,_,rfl,p,_,dx1,_,_,rfl,s4 _ _ eH3p,T.ac,T.cF,B3d,[.list (C5 k'.low),.list (C5 (lkF k'.st t))],(λd=>d=.list (F3 (Y6 k'.low (lkF k'.st t)))),.cons (.lst trivial (s4 _ _ (np (s2 _ _ e3'))) (M4 t3)) (.cons (.lst trivial (s4 _ _ (np en)) (M4 tn)) .nil),⟨_,_,rfl,by rw[lt,hll],OO,rfl⟩,λd' v5 H5 hd' t5 s5=>?_⟩;subst hd';refine⟨SZ (n:=2),λrr hrr=>?_⟩;have s6:Same H5 (upd H5 rr (.tup [v4,v5])):=Same.upd hrr;have s36:=(s4.tr s5).tr s6;have fr3:∀b o,H b=some o->b≠p->b≠d->H3 b=some o:=λb o e n1 n2=>f3' _ _ (s2 _ _ (fr _ _ e n1 n2)) n1;have new3:∀b,Q1 H3 b->Q1 H b:=λb hb=>by
   rcases hb with hb | ⟨xs,hb⟩
   ·cases z:H b with
    | none=>exact .inl z
    | some o=>
     by_cases c1:b=p
     ·rw[c1,eH3p] at hb;cases hb
     ·by_cases c2:b=d
      ·rw[c2,f3' _ _ (s2 _ _ f4) pd.1.symm] at hb;cases hb
      ·rw[fr3 _ _ z c1 c2] at hb;cases hb
   ·cases z:H b with
    | none=>exact .inl z
    | some o=>
     by_cases c1:b=p
     ·rw[c1,eH3p] at hb;cases hb
     ·by_cases c2:b=d
      ·rw[c2,f3' _ _ (s2 _ _ f4) pd.1.symm] at hb;cases hb
      ·have:=fr3 _ _ z c1 c2;rw[hb] at this;cases this;exact .inr ⟨xs,z⟩
  refine told _ _ _ _ ⟨lkF k'.st t,lb,rfl,rfl⟩ (kpF.same s36) (.tup (new3 _ (.inl ((s4.tr s5).early hrr))) B3 (.cons (((t4.mv λb o z e=>⟨new3 _ z,e⟩).keep s5).keep s6) (.cons ((t5.mv λb o z e=>⟨new3 _ (C4h s4 z),e⟩).keep s6) .nil))) (λb o e n1 n2=>s36 _ _ (fr3 _ _ e n1 n2)) ⟨λa x y z1 z2=>?_,A21 (kpF.ex.same s36) λb xs g J z=>?_⟩
  ·cases z1;rw[B3] at z2;cases z2;obtain⟨_,_,ex,_,ex1,_⟩:=M2 t4;cases ex;obtain⟨_,_,ey,gy,ey1,_⟩:=M2 t5;cases ey;have:=A95 s5 gy ey1;intro z;rw[<-z,ex1] at this;cases this
  ·obtain⟨ys,g⟩:=g;rcases z with z | ⟨_,_,z,z2,z3⟩
   ·cases z;rw[(s4.tr s5).early hrr] at g;cases g
   ·cases z;rw[B3] at z2;cases z2;rcases G1.mp z3 with z | z
    ·obtain⟨_,_,ex,gx,ex1,_⟩:=M2 t4;rw[<-z] at ex;cases ex;rw[A95 s4 gx ex1] at g;cases g
    ·have z:=A6u.mp z;obtain⟨_,_,ey,gy,ey1,_⟩:=M2 t5;rw[<-z] at ey;cases ey;have:=A95 s5 gy ey1;rw[s4 _ _ g] at this;cases this
inductive K3
 | lay (x:Int) (w:Wy)
 | lift (x:Int)
 | turn (x c:Int)
 | refill (s:Int)
 | aim (g:Tb)
def K3.args:K3->List PyData
 | .lay x w=>[.int x,.int ((w.1:Nat):Int),.int ((w.2.1:Nat):Int),.int w.2.2]
 | .lift x=>[.int x]
 | .turn x c=>[.int x,.int c]
 | .refill s=>[.int s]
 | .aim g=>[.list (C5 g)]
def A15 (kws:Kw)(x c:Int):Wy:=(((K8 kws x).getD (0,0,0)).1,((K8 kws x).getD (0,0,0)).2.1,c)
def G9 (k:Kst):K3->Kst
 | .lay x w=>{ k with kws:=A1f k.kws x w }
 | .lift x=>{ k with kws:=B0d k.kws x }
 | .turn x c=>{ k with kws:=A1f k.kws x (A15 k.kws x c) }
 | .refill s=>{ k with st:=s }
 | .aim g=>{ k with g:=g }
def A16 (x:Int):Prop:=1<=x/\x<=∅
def A39 (k:Kst):K3->Prop
 | .lay x w=>A16 x/\K8 k.kws x=none/\B3a k.m w/\k.kws.length<40
 | .lift x=>A16 x/\∃w,K8 k.kws x=some w
 | .turn x c=>(A16 x/\∃w,K8 k.kws x=some w)/\-∅<=c/\c<=∅
 | .refill s=>(0<=s/\s<=100000000000000000000)/\F9 k.m s k.g
 | .aim g=>F9 k.m k.st g
theorem D8r {kws:Kw}{x:Int}{w:Wy}(h:K8 kws x=none):A1f kws x w=kws++[(x,w)]:=by
 unfold A1f;rw[if_neg];intro z;rw[List.any_eq_true] at z;obtain⟨q,hq,e⟩:=z;have e:q.1=x:=by simpa using e
 obtain⟨w',hw'⟩:=A6h (kws:=kws) (k:=x) (by unfold D9;exact M9.mpr ⟨q,hq,e⟩);rw[h] at hw';cases hw'
theorem B80 {kws:Kw}{x:Int}{w w0:Wy}(h:K8 kws x=some w0):A1f kws x w=kws.map λq=>if q.1=x then (q.1,w) else q:=by
 unfold A1f;rw[if_pos];rw[List.any_eq_true];exact⟨_,A8k h,by simp⟩
theorem D8s {kws:Kw}{x:Int}{w w0:Wy}(h:K8 kws x=some w0):D9 (A1f kws x w)=D9 kws:=by
 rw[B80 h];unfold D9;rw[N6];refine B0z λq J=>?_;show (if q.1=x then (q.1,w) else q).1=q.1;split <;> rfl
set_option tactic.hygienic true in
theorem A8l {k:Kst}(o:KOk k.m k.st k.g k.kws):∀{dd:K3},A39 k dd->KOk (G9 k dd).m (G9 k dd).st (G9 k dd).g (G9 k dd).kws
 | .lay x w,⟨lx,hn,hw,hl⟩=>by
  show KOk k.m k.st k.g (A1f k.kws x w);rw[D8r hn];refine { o with nd:=?_,few:=by rw[S8,C66];omega,way:=λq hq=>?_ }
  ·unfold D9;rw[Q3];refine List.nodup_append.mpr ⟨o.nd,by simp,λa ha b hb z=>?_⟩;rw[A6u.mp (show b∈[x] from hb)] at z;obtain⟨w',hw'⟩:=A6h (kws:=k.kws) (k:=x) (z▸ha);rw[hn] at hw';cases hw'
  ·rcases A1j.mp hq with h | h
   ·exact o.way q h
   ·rw[A6u.mp h];exact⟨lx,hw⟩
 | .lift x,_=>by
  show KOk k.m k.st k.g (B0d k.kws x);unfold B0d;refine { o with nd:=?_,few:=J1 (B9v _ _) o.few,way:=λq hq=>o.way q (B0n.mp hq).1 };exact List.Nodup.sublist (List.Sublist.map _ List.filter_sublist) o.nd
 | .turn x c,⟨⟨lx,w0,hw0⟩,c0,c1⟩=>by
  show KOk k.m k.st k.g (A1f k.kws x (A15 k.kws x c));have wo:=(o.way _ (A8k hw0)).2;have ht:A15 k.kws x c=(w0.1,w0.2.1,c):=by unfold A15;rw[hw0];rfl
  refine { o with nd:=by rw[D8s hw0];exact o.nd,few:=?_,way:=λq hq=>?_ }
  ·rw[B80 hw0,B6];exact o.few
  ·rw[B80 hw0] at hq;obtain⟨q',hq',rfl⟩:=M9.mp hq;split
   ·rename_i e;refine⟨(o.way q' hq').1,?_⟩;rw[ht];exact⟨wo.st,wo.en,c0,c1⟩
   ·exact o.way q' hq'
 | .refill s,⟨⟨s0,s1⟩,ht⟩=>{ o with s0:=s0,s1:=s1,gt:=ht }
 | .aim g,ht=>{ o with gt:=ht }
def B0g (D:K3->Prop)(k:Kst)(ds:List PyData):Prop:=∃dd,D dd/\ds=dd.args/\KOk k.m k.st k.g k.kws/\k.low.length=k.m/\A39 k dd
def B0h (D:K3->Prop)(k:Kst)(ds:List PyData)(r:PyData)(k':Kst):Prop:=∃dd,D dd/\ds=dd.args/\B3f (G9 k dd) k.low r k'
abbrev A4a (dd:K3):Prop:=∃x w,dd=.lay x w
abbrev A4b (dd:K3):Prop:=∃x,dd=.lift x
abbrev A4c (dd:K3):Prop:=∃x c,dd=.turn x c
abbrev A4d (dd:K3):Prop:=∃s,dd=.refill s
abbrev A4e (dd:K3):Prop:=∃g,dd=.aim g
def D8t (k:Kst)(ds:List PyData):Prop:=∃x w,ds=[.int x]/\A16 x/\K8 k.kws x=some w
def D8u (k:Kst)(ds:List PyData)(r:PyData)(k':Kst):Prop:=(∃x w,ds=[.int x]/\K8 k.kws x=some w/\r=N9 w)/\k'=k
theorem A6j {F:Addr->Prop}{H:Hp}{vs:List V}{d:PyData}(t:B4 F H vs [d]):∃v,vs=[v]/\ThV F H v d:=by
 cases t with
 | cons x t=>cases t;exact⟨_,rfl,x⟩
theorem B81 {F:Addr->Prop}{H:Hp}{vs:List V}{d1 d2 d3 d4:PyData}(t:B4 F H vs [d1,d2,d3,d4]):∃v1 v2 v3 v4,vs=[v1,v2,v3,v4]/\ThV F H v1 d1/\ThV F H v2 d2/\ThV F H v3 d3/\ThV F H v4 d4:=by
 cases t with
 | cons x1 t=>
 cases t with
 | cons x2 t=>
 obtain⟨v3,v4,rfl,t3,t4⟩:=X9 t;exact⟨_,_,v3,v4,rfl,x1,x2,t3,t4⟩
theorem C5h:FM P w mg base 3 T.cr (A0q T.aa D8t D8u):=by
 refine T.cr.F.ok D4p (λJ H J J h=>?_) (λJ J J J H J Q J hr h=>?_)
 ·obtain⟨F,p,d,k,us,ds,rfl,_,_,tus,⟨x,w,rfl,_⟩,_⟩:=h;obtain⟨v,rfl,_⟩:=A6j tus;rfl
 ·obtain⟨F,p,d,k,us,ds,rfl,hF,kp,tus,⟨x,w0,rfl,lx,hw⟩,told⟩:=h;obtain⟨v,rfl,tx⟩:=A6j tus;cases tx;have kp0:=kp;obtain⟨⟨dx,g,l,ug,ul,e1,g1,e2,t2,g3,e3,t3⟩,kvs,e4,kv⟩:=kp;rcases kv.val x with ⟨_,z⟩ | ⟨v0,w1,hv,hw1,tv⟩
  ·rw[hw] at z;cases z
  rw[hw] at hw1;cases hw1;refine⟨_,(B5 (K5 (J6 (PW.pt (A3d (T0 (U4 (pcF T.bi (C5b T) hr (A1 (pv 1) A3 A0)))) (A3c (B36 (D2t (u1 (X3 hr)) (pv 1) (Q5 (pv 0) rfl))))))
   (C1 W9)
   K2))
   (C1 (E3 (B16 (u1 (X3 hr)) (Q5 (pv 0) rfl) (pv 1) (λJ J=>rfl))))),?_⟩
  refine⟨fun σ' H'=>σ'=[some (.ref p),some (.int x)]/\Same H H',?_,?_⟩
  ·refine⟨_,rfl,V1 (E:=E0) (λd=>d=.bool true) (.cons (.int _) .nil) ⟨x,rfl,lx.1,lx.2,rfl⟩ λd' v1 H1 hd t1 s1=>?_⟩;subst hd;cases t1;refine⟨_,rfl,E4 ⟨_,rfl,_,rfl,p,_,dx,_,_,rfl,s1 _ _ e1,T.ac,T.bN,A1g,d,_,rfl,Y3.k (k:=Sum.inl x) (s1 _ _ e4),_,rfl,?_⟩⟩;rw[hv];exact E4 ⟨rfl,s1⟩
  rintro σ' H1 ⟨rfl,s1⟩;refine⟨_,rfl,p,_,dx,_,_,rfl,s1 _ _ e1,T.ac,T.bN,A1g,_,rfl,d,v0,rfl,by rw[<-hv];exact Y3.k (k:=Sum.inl x) (s1 _ _ e4),?_⟩;exact told _ _ k _ ⟨⟨x,w0,rfl,hw,rfl⟩,rfl⟩ (kp0.same s1) (B0e tv (λb xs e=>s1 _ _ e) λb xs e=>.inr ⟨xs,e⟩) (λb o e J J=>s1 _ _ e) (D8k (kp0.same s1) (B0e (G:=TT0) tv (λb xs e=>s1 _ _ e) λJ J J=>trivial))
theorem C5i:FM P w mg base 11 T.dr (A0q T.aa (B0g A4a) (B0h A4a)):=by
 refine T.dr.F.ok D4l (λJ H J J h=>?_) (λJ J J J H J Q J hr h=>?_)
 ·obtain⟨F,p,d,k,us,ds,rfl,_,_,tus,⟨dd,⟨x,w,rfl⟩,rfl,_⟩,_⟩:=h;rw[K4,tus.len];rfl
 ·obtain⟨F,p,d,k,us,ds,rfl,hF,kp,tus,⟨dd,⟨x,w0,rfl⟩,rfl,ok,hll,dok⟩,told⟩:=h;obtain⟨lx,hn,ow,hlen⟩:=id dok;obtain⟨v1,v2,v3,v4,rfl,t1,t2',t3',t4⟩:=B81 tus;cases t1;cases t2';cases t3';cases t4;have kp0:=kp;obtain⟨⟨dx,g,l,ug,ul,e1,g1,e2,t2,g3,e3,t3⟩,kvs,e4,kv⟩:=kp;have pd:=A6i kp0;rcases kv.val x with ⟨hv,_⟩ | ⟨v0,w1,hv,hw1,tv⟩
  rotate_left
  ·rw[hn] at hw1;cases hw1
  refine⟨_,(B5 (K5 (J6 (T0 (U4 (pcF T.bi (C5b T) hr (A1 (pv 1) A3 A0))))
   (C1 W9)
   K2))
   (B5 (K5 (J6 (B36 (C26 (u1 (X3 hr)) (pv 1) (Q5 (pv 0) rfl)))
   (C1 W9)
   K2))
   (B5 (K5 (J6 (T0 (U4 (pcF T.dj (D8h T) hr (A1 (Q5 (pv 0) rfl) (A1 (o7 (A1 (pv 2) (A1 (pv 3) (A1 (pv 4) A3 A0) A0) A0)) A3 A42) O2))))
   (C1 W9)
   K2))
   (B5 (K5 (J6 (K6 B4c (J2 C3a rfl T.bq V9 (A1 (Q5 (pv 0) rfl) A3 O2)) (cII T.g_MOST_WAYS) (D1 _))
   (C1 W9)
   K2))
   (B5 (B17 (u1 (X3 hr)) (Q5 (pv 0) rfl) (pv 1) (o7 (A1 (pv 2) (A1 (pv 3) (A1 (pv 4) A3 A0) A0) A0)) rfl)
   (C1 (E3 (pmG (pv 0) T.ac T.aH (B0f T) hr)))))))),?_⟩
  try dsimp only[G5,Cx.nox]
  refine A14 λW hW=>?_;refine⟨fun σ' H'=>σ'=[some (.ref p),some (.int x),some (.int ((w0.1:Nat):Int)),some (.int ((w0.2.1:Nat):Int)),some (.int w0.2.2)]/\Same H H',?_,?_⟩
  ·refine⟨_,rfl,V1 (E:=E0) (λd=>d=.bool true) (.cons (.int _) .nil) ⟨x,rfl,lx.1,lx.2,rfl⟩ λd' v1 H1 hd t1 s1=>?_⟩;subst hd;cases t1;exact⟨_,rfl,E4 ⟨rfl,s1⟩⟩
  rintro σ' H1 ⟨rfl,s1⟩;refine Q0 W hW λW hW=>?_;refine⟨fun σ' H'=>σ'=[some (.ref p),some (.int x),some (.int ((w0.1:Nat):Int)),some (.int ((w0.2.1:Nat):Int)),some (.int w0.2.2)]/\Same H H',?_,?_⟩
  ·refine⟨_,rfl,_,rfl,p,_,dx,_,_,rfl,s1 _ _ e1,T.ac,T.bN,A1g,d,_,rfl,Y3.k (k:=Sum.inl x) (s1 _ _ e4),_,rfl,?_⟩;rw[hv];exact E4 ⟨rfl,s1⟩
  clear s1;rintro σ' H1 ⟨rfl,s1⟩;refine Q0 W hW λW hW=>?_;refine⟨fun σ' H'=>σ'=[some (.ref p),some (.int x),some (.int ((w0.1:Nat):Int)),some (.int ((w0.2.1:Nat):Int)),some (.int w0.2.2)]/\Same H H',?_,?_⟩
  ·refine⟨_,rfl,p,_,dx,_,_,rfl,s1 _ _ e1,T.ac,T.dU,B3b,_,rfl,_,rfl,_,rfl,SZ (n:=3),λt ht=>?_⟩;have s2:=s1.tr (Same.upd (o:=.tup [.int ((w0.1:Nat):Int),.int ((w0.2.1:Nat):Int),.int w0.2.2]) ht);refine V1 (E:=E0) (λd=>d=.bool true) (.cons (.int _) (.cons (.tup trivial B3 (.cons (.int _) (.cons (.int _) (.cons (.int _) .nil)))) .nil)) ⟨k.m,w0,rfl,ow,rfl⟩ λd' v1 H3 hd t3 s3=>?_;subst hd;cases t3;exact⟨_,rfl,E4 ⟨rfl,s2.tr s3⟩⟩
  clear s1;rintro σ' H1 ⟨rfl,s1⟩;refine Q0 W hW λW hW=>?_;refine⟨fun σ' H'=>σ'=[some (.ref p),some (.int x),some (.int ((w0.1:Nat):Int)),some (.int ((w0.2.1:Nat):Int)),some (.int w0.2.2)]/\Same H H',?_,?_⟩
  ·refine⟨_,rfl,p,_,dx,_,_,rfl,s1 _ _ e1,T.ac,T.bN,A1g,d,kvs,rfl,s1 _ _ e4,_,_,rfl,rfl,_,rfl,?_⟩;rw[kv.len,decide_eq_false (show ¬ (40:Int)<=((k.kws.length:Nat):Int) by omega)];exact E4 ⟨rfl,s1⟩
  clear s1;rintro σ' H1 ⟨rfl,s1⟩;refine Q0 W hW λW hW=>?_;refine⟨_,rfl,_,rfl,_,rfl,SZ (n:=3),λt ht=>?_⟩;obtain⟨H2,hH2⟩:∃H2,H2=upd H1 t (.tup [.int ((w0.1:Nat):Int),.int ((w0.2.1:Nat):Int),.int w0.2.2]):=⟨_,rfl⟩;rw[<-hH2];have s12:Same H1 H2:=by rw[hH2];exact Same.upd ht
  have s2:=s1.tr s12;have tw:ThV TT0 H2 (.ref t) (N9 w0):=.tup trivial (by rw[hH2];exact B3) (.cons (.int _) (.cons (.int _) (.cons (.int _) .nil)));clear hH2;refine⟨_,rfl,p,_,dx,_,_,rfl,s2 _ _ e1,T.ac,T.bN,A1g,_,rfl,d,_,rfl,A32.k (k:=Sum.inl x) (s2 _ _ e4) (by rw[kv.len,sizeLine_eq];omega),?_⟩;obtain⟨H3,hH3⟩:∃H3,H3=upd H2 d (.dK (U1 kvs (Sum.inl x:Key) (.ref t))):=⟨_,rfl⟩;rw[<-hH3];have f3:∀b o,H2 b=some o->b≠d->H3 b=some o:=λb o e n=>by rw[hH3,B7 n];exact e
  have kp2:=kp0.same s2;have kp3:E7 F T.aa H3 p d (G9 k (.lay x w0)):=by
   have nl:∀{b:Addr}{xs:List V},H2 b=some (.lst xs)->H3 b=some (.lst xs):=λe=>f3 _ _ e (M8 kp2 e).2;exact⟨⟨dx,g,l,ug,ul,f3 _ _ (s2 _ _ e1) pd.1,g1,nl (s2 _ _ e2),M4 t2,g3,nl (s2 _ _ e3),M4 t3⟩,_,by rw[hH3];exact B3,((kv.mv λb xs e=>s2 _ _ e).put tw).mv λb xs e=>f3 _ _ e (P3 kp2 e).2⟩
  have e1':=f3 _ _ (s2 _ _ e1) pd.1;have bk:∀b,H3 b=none->H b=none:=λb hb=>by
   cases z:H b with
   | none=>rfl
   | some o=>
    by_cases c:b=d
    ·rw[c,hH3,B3] at hb;cases hb
    ·rw[f3 _ _ (s2 _ _ z) c] at hb;cases hb
  subst hW;refine⟨_,rfl,p,dx,_,rfl,e1',K7 KK,F,p,d,G9 k (.lay x w0),[],[],rfl,λb hb=>hF _ (bk b hb),kp3,.nil,⟨rfl,A8l ok dok,hll⟩,λr v k' H4 po kp4 tv fr ap=>?_⟩;refine told r v k' H4 ⟨_,⟨x,w0,rfl⟩,rfl,po⟩ kp4 (tv.mv λb o z e=>⟨?_,e⟩) (λb o e n1 n2=>fr _ _ (f3 _ _ (s2 _ _ e) n2) n1 n2) ap;rcases z with z | ⟨xs,z⟩
  ·exact .inl (bk b z)
  ·cases y:H b with
   | none=>exact .inl y
   | some o'=>
    by_cases c:b=d
    ·rw[c,hH3,B3] at z;cases z
    ·have:=f3 _ _ (s2 _ _ y) c;rw[z] at this;cases this;exact .inr ⟨xs,y⟩
theorem B0i {H H3:Hp}{p d:Addr}{op od:HO}(hp:H3 p=some op)(hd:H3 d=some od)(f:∀b o,H b=some o->b≠p->b≠d->H3 b=some o){b:Addr}(z:H3 b=none):H b=none:=by
 cases y:H b with
 | none=>rfl
 | some o=>
  by_cases c1:b=p
  ·rw[c1,hp] at z;cases z
  ·by_cases c2:b=d
   ·rw[c2,hd] at z;cases z
   ·rw[f _ _ y c1 c2] at z;cases z
theorem B3g {H H3:Hp}{C dx p d:Addr}{fs:List (Str×V)}{kvs:List (Key×V)}(hp:H3 p=some (.ins C dx fs))(hd:H3 d=some (.dK kvs))(f:∀b o,H b=some o->b≠p->b≠d->H3 b=some o){b:Addr}(z:Q1 H3 b):Q1 H b:=by
 rcases z with z | ⟨xs,z⟩
 ·exact .inl (B0i hp hd f z)
 ·cases y:H b with
  | none=>exact .inl y
  | some o=>
   by_cases c1:b=p
   ·rw[c1,hp] at z;cases z
   ·by_cases c2:b=d
    ·rw[c2,hd] at z;cases z
    ·have:=f _ _ y c1 c2;rw[z] at this;cases this;exact .inr ⟨xs,y⟩
theorem C5j:FM P w mg base 11 T.cG (A0q T.aa (B0g A4b) (B0h A4b)):=by
 refine T.cG.F.ok D4m (λJ H J J h=>?_) (λJ J J J H J Q J hr h=>?_)
 ·obtain⟨F,p,d,k,us,ds,rfl,_,_,tus,⟨dd,⟨x,rfl⟩,rfl,_⟩,_⟩:=h;rw[K4,tus.len];rfl
 ·obtain⟨F,p,d,k,us,ds,rfl,hF,kp,tus,⟨dd,⟨x,rfl⟩,rfl,ok,hll,dok⟩,told⟩:=h;obtain⟨lx,w0,hw⟩:=id dok;obtain⟨v1,rfl,t1⟩:=A6j tus;cases t1;have kp0:=kp;obtain⟨⟨dx,g,l,ug,ul,e1,g1,e2,t2,g3,e3,t3⟩,kvs,e4,kv⟩:=kp;have pd:=A6i kp0;refine⟨_,(B5 (A0k (pmF (pv 0) T.ac T.cr (C5h T) hr (A1 (pv 1) A3 A0) (hst:=A0)))
   (B5 (A0k (C28 (Q5 (pv 0) rfl) (pv 1) ⟨rfl,rfl,rfl,rfl⟩))
   (C1 (E3 (pmG (pv 0) T.ac T.aH (B0f T) hr))))),?_⟩
  try dsimp only[G5,Cx.nox]
  refine A14 λW hW=>?_;refine⟨_,rfl,p,dx,_,rfl,e1,K7 KK,_,rfl,F,p,d,k,[.int x],[.int x],rfl,hF,kp0,.cons (.int _) .nil,⟨x,w0,rfl,lx,hw⟩,λr v k' H1 po kp1 tv fr J=>?_⟩;obtain⟨_,rfl⟩:=po;have kp1':=kp1;obtain⟨⟨dx1,g',l',ug',ul',f1,gg1,f2,tt2,gg3,f3,tt3⟩,kvs',f4,kv'⟩:=kp1;rcases kv'.val x with ⟨_,z⟩ | ⟨v0,w1,hv,hw1,tv'⟩
  ·rw[hw] at z;cases z
  refine Q0 W hW λW hW=>?_;refine⟨_,rfl,p,_,dx1,_,_,rfl,f1,T.ac,T.bN,A1g,d,rfl,.inl ⟨kvs',.inl f4⟩,_,rfl,kvs',Sum.inl x,v0,f4,rfl,hv,?_⟩;obtain⟨H3,hH3⟩:∃H3,H3=upd H1 d (.dK (A12 kvs' (Sum.inl x:Key))):=⟨_,rfl⟩;rw[<-hH3];have h3:∀b o,H1 b=some o->b≠d->H3 b=some o:=λb o e n=>by rw[hH3,B7 n];exact e
  have ed:H3 d=some (.dK (A12 kvs' (Sum.inl x:Key))):=by rw[hH3];exact B3
  have kp3:E7 F T.aa H3 p d (G9 k' (.lift x)):=by
   have nl:∀{b:Addr}{xs:List V},H1 b=some (.lst xs)->H3 b=some (.lst xs):=λe=>h3 _ _ e (M8 kp1' e).2;exact⟨⟨dx1,g',l',ug',ul',h3 _ _ f1 pd.1,gg1,nl f2,M4 tt2,gg3,nl f3,M4 tt3⟩,_,ed,(kv'.drop x).mv λb xs e=>h3 _ _ e (P3 kp1' e).2⟩
  have fH:∀b o,H b=some o->b≠p->b≠d->H3 b=some o:=λb o e n1 n2=>h3 _ _ (fr _ _ e n1 n2) n2;have pH3:=h3 _ _ f1 pd.1;have newF:∀b,Q1 H3 b->Q1 H b:=λb z=>B3g pH3 ed fH z;have noF:∀b,H3 b=none->H b=none:=λb z=>B0i pH3 ed fH z;subst hW;refine⟨_,rfl,p,dx1,_,rfl,pH3,K7 KK,F,p,d,G9 k' (.lift x),[],[],rfl,λb hb=>hF _ (noF b hb),kp3,.nil,⟨rfl,A8l ok dok,hll⟩,λr v k2 H4 po kp4 tv fr4 ap=>?_⟩;exact told r v k2 H4 ⟨_,⟨x,rfl⟩,rfl,po⟩ kp4 (tv.mv λb o z e=>⟨newF b z,e⟩) (λb o e n1 n2=>fr4 _ _ (fH _ _ e n1 n2) n1 n2) ap
theorem C5k:FM P w mg base 11 T.cH (A0q T.aa (B0g A4c) (B0h A4c)):=by
 refine T.cH.F.ok C36 (λJ H J J h=>?_) (λJ J J J H J Q J hr h=>?_)
 ·obtain⟨F,p,d,k,us,ds,rfl,_,_,tus,⟨dd,⟨x,c,rfl⟩,rfl,_⟩,_⟩:=h;rw[K4,tus.len];rfl
 ·obtain⟨F,p,d,k,us,ds,rfl,hF,kp,tus,⟨dd,⟨x,c,rfl⟩,rfl,ok,hll,dok⟩,told⟩:=h;obtain⟨⟨lx,w0,hw⟩,c0,c1⟩:=id dok;obtain⟨v1,v2,rfl,t1,t2'⟩:=X9 tus;cases t1;cases t2';have kp0:=kp;obtain⟨⟨dx,g,l,ug,ul,e1,g1,e2,t2,g3,e3,t3⟩,kvs,e4,kv⟩:=kp;have pd:=A6i kp0;refine⟨_,(B5 (pS (i:=3) C36.nd (pmF (pv 0) T.ac T.cr (C5h T) hr (A1 (pv 1) A3 A0) (hst:=A0)))
   (B5 (K5 (J6 (T0 (U4 (pcF T.aR (C5c T) hr (A1 (pv 2) A3 A0))))
   (C1 W9)
   K2))
   (B5 (B17 (u1 (X3 hr)) (Q5 (pv 0) rfl) (pv 1) (o7 (A1 (C7 A4z (pv 3) (cII T.g_START)) (A1 (C7 A4z (pv 3) (cII T.g_END)) (A1 (pv 2) A3 A0) B0) B0)) rfl)
   (C1 (E3 (pmG (pv 0) T.ac T.aH (B0f T) hr)))))),?_⟩
  try dsimp only[G5,Cx.nox]
  refine A14 λW hW=>?_;refine⟨_,rfl,p,dx,_,rfl,e1,K7 KK,_,rfl,F,p,d,k,[.int x],[.int x],rfl,hF,kp0,.cons (.int _) .nil,⟨x,w0,rfl,lx,hw⟩,λr v k' H1 po kp1 tv fr J=>?_⟩;obtain⟨⟨x',w0',ex,hw',rfl⟩,rfl⟩:=po;cases ex;rw[hw] at hw';cases hw';obtain⟨tw,utw,rfl,gtw,etw,ttw⟩:=Y0 (show ThV (Q1 H) H1 v (.tuple ([((w0.1:Nat):Int),((w0.2.1:Nat):Int),w0.2.2].map PyData.int)) from tv);cases ttw with
  | @cons y1 _ _ _ ty1 ttw=>
  cases ttw with
  | @cons y2 _ _ _ ty2 ttw=>
  cases ttw with
  | @cons y3 _ _ _ ty3 ttw=>
  cases ttw;cases ty1;cases ty2;cases ty3;have kp1':=kp1;obtain⟨⟨dx1,g',l',ug',ul',f1,gg1,f2,tt2,gg3,f3,tt3⟩,kvs',f4,kv'⟩:=kp1;refine Q0 W hW λW hW=>?_;refine⟨fun σ' H'=>σ'=[some (.ref p),some (.int x),some (.int c),some (.ref tw)]/\Same H1 H',?_,?_⟩
  ·refine⟨_,rfl,V1 (E:=E0) (λd=>d=.bool true) (.cons (.int _) .nil) ⟨c,rfl,c0,c1,rfl⟩ λd' v1 H2 hd t1 s1=>?_⟩;subst hd;cases t1;exact⟨_,rfl,E4 ⟨rfl,s1⟩⟩
  rintro σ' H2 ⟨rfl,s2⟩;refine Q0 W hW λW hW=>?_;refine⟨_,rfl,.inr (.inl ⟨tw,_,0,_,rfl,rfl,SqT.of (s2 _ _ etw),rfl,_,rfl,.inr (.inl ⟨tw,_,1,_,rfl,rfl,SqT.of (s2 _ _ etw),rfl,_,rfl,SZ (n:=3),λt ht=>?_⟩)⟩)⟩;obtain⟨H2',hH2⟩:∃H2',H2'=upd H2 t (.tup [.int ((w0.1:Nat):Int),.int ((w0.2.1:Nat):Int),.int c]):=⟨_,rfl⟩;rw[<-hH2];have s12:Same H1 H2':=s2.tr (by rw[hH2];exact Same.upd ht);have etr:A15 k'.kws x c=(w0.1,w0.2.1,c):=by unfold A15;rw[hw];rfl
  have twD:ThV TT0 H2' (.ref t) (N9 (A15 k'.kws x c)):=by
   rw[etr];exact .tup trivial (by rw[hH2];exact B3) (.cons (.int _) (.cons (.int _) (.cons (.int _) .nil)))
  clear hH2;refine⟨_,rfl,p,_,dx1,_,_,rfl,s12 _ _ f1,T.ac,T.bN,A1g,_,rfl,d,_,rfl,A32.k (k:=Sum.inl x) (s12 _ _ f4) (by rw[kv'.len,sizeLine_eq];have:=ok.few;omega),?_⟩;obtain⟨H3,hH3⟩:∃H3,H3=upd H2' d (.dK (U1 kvs' (Sum.inl x:Key) (.ref t))):=⟨_,rfl⟩;rw[<-hH3];have h3:∀b o,H2' b=some o->b≠d->H3 b=some o:=λb o e n=>by rw[hH3,B7 n];exact e
  have ed:H3 d=some (.dK (U1 kvs' (Sum.inl x:Key) (.ref t))):=by rw[hH3];exact B3
  have kp2:=kp1'.same s12;have kp3:E7 F T.aa H3 p d (G9 k' (.turn x c)):=by
   have nl:∀{b:Addr}{xs:List V},H2' b=some (.lst xs)->H3 b=some (.lst xs):=λe=>h3 _ _ e (M8 kp2 e).2;exact⟨⟨dx1,g',l',ug',ul',h3 _ _ (s12 _ _ f1) pd.1,gg1,nl (s12 _ _ f2),M4 tt2,gg3,nl (s12 _ _ f3),M4 tt3⟩,_,ed,((kv'.mv λb xs e=>s12 _ _ e).put twD).mv λb xs e=>h3 _ _ e (P3 kp2 e).2⟩
  have fH:∀b o,H b=some o->b≠p->b≠d->H3 b=some o:=λb o e n1 n2=>h3 _ _ (s12 _ _ (fr _ _ e n1 n2)) n2;have pH3:=h3 _ _ (s12 _ _ f1) pd.1;have newF:∀b,Q1 H3 b->Q1 H b:=λb z=>B3g pH3 ed fH z;have noF:∀b,H3 b=none->H b=none:=λb z=>B0i pH3 ed fH z;subst hW;refine⟨_,rfl,p,dx1,_,rfl,pH3,K7 KK,F,p,d,G9 k' (.turn x c),[],[],rfl,λb hb=>hF _ (noF b hb),kp3,.nil,⟨rfl,A8l ok dok,hll⟩,λr v k2 H4 po kp4 tv fr4 ap=>?_⟩;exact told r v k2 H4 ⟨_,⟨x,c,rfl⟩,rfl,po⟩ kp4 (tv.mv λb o z e=>⟨newF b z,e⟩) (λb o e n1 n2=>fr4 _ _ (fH _ _ e n1 n2) n1 n2) ap
theorem C5l:FM P w mg base 11 T.bR (A0q T.aa (B0g A4d) (B0h A4d)):=by
 refine T.bR.F.ok D4n (λJ H J J h=>?_) (λJ J J J H J Q J hr h=>?_)
 ·obtain⟨F,p,d,k,us,ds,rfl,_,_,tus,⟨dd,⟨x,rfl⟩,rfl,_⟩,_⟩:=h;rw[K4,tus.len];rfl
 ·obtain⟨F,p,d,k,us,ds,rfl,hF,kp,tus,⟨dd,⟨x,rfl⟩,rfl,ok,hll,dok⟩,told⟩:=h;obtain⟨⟨x0,x1⟩,htab⟩:=id dok;obtain⟨v1,rfl,t1⟩:=A6j tus;cases t1;have m2:=ok.m2;have kp0:=kp;obtain⟨⟨dx,g,l,ug,ul,e1,g1,e2,t2,g3,e3,t3⟩,kvs,e4,kv⟩:=kp;have pd:=A6i kp0;refine⟨_,(B5 (K5 (J6 (PW.pt (A3d (T0 (U4 (pcF T.bf (C5d T) hr (A1 (pv 1) A3 A0)))) (A3c (T0 (U4 (pcF T.au (B3e T) hr (A1 (Q5 (pv 0) rfl) (A1 (pv 1) (A1 (Q5 (pv 0) rfl) A3 O2) A0) O2)))))))
   (C1 W9)
   K2))
   (B5 (A1r (pv 0) (pv 1) rfl)
   (C1 (E3 (pmG (pv 0) T.ac T.aH (B0f T) hr))))),?_⟩
  try dsimp only[G5,Cx.nox]
  refine A14 λW hW=>?_;refine⟨fun σ' H'=>σ'=[some (.ref p),some (.int x)]/\Same H H',?_,?_⟩
  ·refine⟨_,rfl,V1 (E:=E0) (λd=>d=.bool true) (.cons (.int _) .nil) ⟨x,rfl,x0,x1,rfl⟩ λd' v1 H1 hd t1 s1=>?_⟩;subst hd;cases t1;refine⟨_,rfl,E4 ⟨_,rfl,p,_,dx,_,_,rfl,s1 _ _ e1,T.ac,T.dU,B3b,_,rfl,_,rfl,p,_,dx,_,_,rfl,s1 _ _ e1,T.ac,T.dN,C46,V1 (E:=E0) (λd=>d=.bool true) (.cons (.int _) (.cons (.int _) (.cons (.lst trivial (s1 _ _ e2) (M4 t2)) .nil))) ⟨k.g,k.m,x,rfl,OO,htab,rfl⟩ λd' v1 H2 hd t1 s2=>?_⟩⟩;subst hd;cases t1;exact⟨_,rfl,E4 ⟨rfl,s1.tr s2⟩⟩
  rintro σ' H1 ⟨rfl,s1⟩;refine Q0 W hW λW hW=>?_;refine⟨_,rfl,_,rfl,p,_,dx,_,rfl,s1 _ _ e1,T.ac,T.dE,by show 5<1000;decide,?_⟩;rw[D79];obtain⟨H3,hH3⟩:∃H3,H3=upd H1 p (.ins T.aa dx (kfs k.m x g d l)):=⟨_,rfl⟩;rw[<-hH3];have h3:∀b o,H1 b=some o->b≠p->H3 b=some o:=λb o e n=>by rw[hH3,B7 n];exact e
  have pH3:H3 p=some (.ins T.aa dx (kfs k.m x g d l)):=by rw[hH3];exact B3
  have kp1:=kp0.same s1;have ed:=h3 _ _ (s1 _ _ e4) pd.1.symm;have kp3:E7 F T.aa H3 p d (G9 k (.refill x)):=by
   have nl:∀{b:Addr}{xs:List V},H1 b=some (.lst xs)->H3 b=some (.lst xs):=λe=>h3 _ _ e (M8 kp1 e).1;exact⟨⟨dx,g,l,ug,ul,pH3,g1,nl (s1 _ _ e2),M4 t2,g3,nl (s1 _ _ e3),M4 t3⟩,_,ed,kv.mv λb xs e=>h3 _ _ (s1 _ _ e) (P3 kp1 (s1 _ _ e)).1⟩
  have fH:∀b o,H b=some o->b≠p->b≠d->H3 b=some o:=λb o e n1 n2=>h3 _ _ (s1 _ _ e) n1;have newF:∀b,Q1 H3 b->Q1 H b:=λb z=>B3g pH3 ed fH z;have noF:∀b,H3 b=none->H b=none:=λb z=>B0i pH3 ed fH z;subst hW;refine⟨_,rfl,p,dx,_,rfl,pH3,K7 KK,F,p,d,G9 k (.refill x),[],[],rfl,λb hb=>hF _ (noF b hb),kp3,.nil,⟨rfl,A8l ok dok,hll⟩,λr v k2 H4 po kp4 tv fr4 ap=>?_⟩;exact told r v k2 H4 ⟨_,⟨x,rfl⟩,rfl,po⟩ kp4 (tv.mv λb o z e=>⟨newF b z,e⟩) (λb o e n1 n2=>fr4 _ _ (fH _ _ e n1 n2) n1 n2) ap
theorem C5m:FM P w mg base 11 T.dt (A0q T.aa (B0g A4e) (B0h A4e)):=by
 refine T.dt.F.ok D4o (λJ H J J h=>?_) (λJ J J J H J Q J hr h=>?_)
 ·obtain⟨F,p,d,k,us,ds,rfl,_,_,tus,⟨dd,⟨x,rfl⟩,rfl,_⟩,_⟩:=h;rw[K4,tus.len];rfl
 ·obtain⟨F,p,d,k,us,ds,rfl,hF,kp,tus,⟨dd,⟨x,rfl⟩,rfl,ok,hll,dok⟩,told⟩:=h;have htab:F9 k.m k.st x:=dok;obtain⟨v1,rfl,t1⟩:=A6j tus;obtain⟨ag,uag,rfl,_,eag,tag⟩:=M2 t1;have m2:=ok.m2;have kp0:=kp;obtain⟨⟨dx,g,l,ug,ul,e1,g1,e2,t2,g3,e3,t3⟩,kvs,e4,kv⟩:=kp;have pd:=A6i kp0;refine⟨_,(B5 (K5 (J6 (T0 (U4 (pcF T.au (B3e T) hr (A1 (Q5 (pv 0) rfl) (A1 (Q5 (pv 0) rfl) (A1 (pv 1) A3 A0) O2) O2))))
   (C1 W9)
   K2))
   (B5 (A1r (pv 0) (T2 A3h rfl T.cE A1t (A1 (pv 1) A3 A0)) rfl)
   (C1 (E3 (pmG (pv 0) T.ac T.aH (B0f T) hr))))),?_⟩
  try dsimp only[G5,Cx.nox]
  refine A14 λW hW=>?_;refine⟨fun σ' H'=>σ'=[some (.ref p),some (.ref ag)]/\Same H H',?_,?_⟩
  ·refine⟨_,rfl,p,_,dx,_,_,rfl,e1,T.ac,T.dU,B3b,_,rfl,p,_,dx,_,_,rfl,e1,T.ac,T.dE,B3c,_,rfl,V1 (E:=E0) (λd=>d=.bool true) (.cons (.int _) (.cons (.int _) (.cons (.lst trivial eag tag) .nil))) ⟨x,k.m,k.st,rfl,OO,htab,rfl⟩ λd' v1 H2 hd t1 s2=>?_⟩;subst hd;cases t1;exact⟨_,rfl,E4 ⟨rfl,s2⟩⟩
  rintro σ' H1 ⟨rfl,s1⟩;refine Q0 W hW λW hW=>?_;refine⟨_,rfl,ag,uag,rfl,.inl (SqL.of (s1 _ _ eag)),λln hln=>?_⟩;obtain⟨H2,hH2⟩:∃H2,H2=upd H1 ln (.lst uag):=⟨_,rfl⟩;rw[<-hH2];have s2:Same H H2:=s1.tr (by rw[hH2];exact Same.upd hln);have eln:H2 ln=some (.lst uag):=by rw[hH2];exact B3
  clear hH2;refine⟨_,rfl,p,_,dx,_,rfl,s2 _ _ e1,T.ac,T.dN,by show 5<1000;decide,?_⟩;rw[D8a];obtain⟨H3,hH3⟩:∃H3,H3=upd H2 p (.ins T.aa dx (kfs k.m k.st ln d l)):=⟨_,rfl⟩;rw[<-hH3];have h3:∀b o,H2 b=some o->b≠p->H3 b=some o:=λb o e n=>by rw[hH3,B7 n];exact e
  have pH3:H3 p=some (.ins T.aa dx (kfs k.m k.st ln d l)):=by rw[hH3];exact B3
  have kp2:=kp0.same s2;have ed:=h3 _ _ (s2 _ _ e4) pd.1.symm;have kp3:E7 F T.aa H3 p d (G9 k (.aim x)):=by
   have nl:∀{b:Addr}{xs:List V},H2 b=some (.lst xs)->H3 b=some (.lst xs):=λe=>h3 _ _ e (M8 kp2 e).1;exact⟨⟨dx,ln,l,uag,ul,pH3,hF _ (s1.early hln),nl eln,M4 tag,g3,nl (s2 _ _ e3),M4 t3⟩,_,ed,kv.mv λb xs e=>h3 _ _ (s2 _ _ e) (P3 kp2 (s2 _ _ e)).1⟩
  have fH:∀b o,H b=some o->b≠p->b≠d->H3 b=some o:=λb o e n1 n2=>h3 _ _ (s2 _ _ e) n1;have newF:∀b,Q1 H3 b->Q1 H b:=λb z=>B3g pH3 ed fH z;have noF:∀b,H3 b=none->H b=none:=λb z=>B0i pH3 ed fH z;subst hW;refine⟨_,rfl,p,dx,_,rfl,pH3,K7 KK,F,p,d,G9 k (.aim x),[],[],rfl,λb hb=>hF _ (noF b hb),kp3,.nil,⟨rfl,A8l ok dok,hll⟩,λr v k2 H4 po kp4 tv fr4 ap=>?_⟩;exact told r v k2 H4 ⟨_,⟨x,rfl⟩,rfl,po⟩ kp4 (tv.mv λb o z e=>⟨newF b z,e⟩) (λb o e n1 n2=>fr4 _ _ (fH _ _ e n1 n2) n1 n2) ap
def D8v (C:Addr):Sp:=λvs H Q J=>∃(p dx:Addr)(m:Nat)(st:Int)(g:Tb)(vg:V),vs=[.ref p,.int ((m:Nat):Int),.int st,vg]/\H p=some (.ins C dx [])/\ThV TT0 H vg (.list (C5 g))/\KOk m st g []/\
 ∀d low H',V2 m st g [] low->H d=none->E7 (λb=>H b=none) C H' p d ⟨m,st,g,[],low⟩->(∀b o,H b=some o->b≠p->H' b=some o)->Q .non H'
def kf1 (m:Nat):List (Str×V):=[("many",.int ((m:Nat):Int))]
def kf2 (m:Nat)(st:Int):List (Str×V):=[("many",.int ((m:Nat):Int)),("full",.int st)]
def kf3 (m:Nat)(st:Int)(g:Addr):List (Str×V):=[("many",.int ((m:Nat):Int)),("full",.int st),("wanted",.ref g)]
def kf4 (m:Nat)(st:Int)(g d:Addr):List (Str×V):=[("many",.int ((m:Nat):Int)),("full",.int st),("wanted",.ref g),("laid",.ref d)]
theorem D8w {m:Nat}:S0 "many" (.int ((m:Nat):Int)) []=kf1 m:=rfl
theorem D8x {m:Nat}{st:Int}:S0 "full" (.int st) (kf1 m)=kf2 m st:=by with_unfolding_all rfl
theorem D8y {m:Nat}{st:Int}{g:Addr}:S0 "wanted" (.ref g) (kf2 m st)=kf3 m st g:=by with_unfolding_all rfl
theorem D8z {m:Nat}{st:Int}{g d:Addr}:S0 "laid" (.ref d) (kf3 m st g)=kf4 m st g d:=by with_unfolding_all rfl
theorem D80 {m:Nat}{st:Int}{g d l:Addr}:S0 "lowest" (.ref l) (kf4 m st g d)=kfs m st g d l:=by with_unfolding_all rfl
theorem D81:wsF []=[]:=by unfold wsF srt D9;rw[A4l,List.mergeSort_nil];rfl
theorem C5n:FM P w mg base 10 T.de (D8v T.aa):=by
 have gL:=@C44 P w K mg base T;have gM:=T.cC.b;refine T.de.F.ok D4k (λJ H J J h=>?_) (λJ J J J H J Q J hr h=>?_)
 ·obtain⟨p,dx,m,st,g,vg,rfl,_⟩:=h;rfl
 ·obtain⟨p,dx,m,st,g,vg,rfl,ep,tg,ok,told⟩:=h;obtain⟨ag,ug,rfl,_,eg,tug⟩:=M2 tg;have m2:=ok.m2;have s1k:=ok.s1;refine⟨_,(B5 (A1r (pv 0) (pv 1) rfl)
   (B5 (A1r (pv 0) (pv 2) rfl)
   (B5 (A1r (pv 0) (T2 A3h rfl T.cE A1t (A1 (pv 3) A3 A0)) rfl)
   (B5 (A1r (pv 0) C27 rfl)
   (C1 (A1r (pv 0) (A9 gL (hr.mono DD) rfl (T.dI.trans T.cC.m) T.cC.F.kp gM .nil A4 (A1 (o7 (A1 (pv 1) (A1 (U6 A3) A3 C1k) A0)) (A1 (pv 2) (A1 (pv 3) A3 A0) A0) A42)) rfl)))))),?_⟩
  try dsimp only[G5,Cx.nox]
  refine A14 λW hW=>?_;refine⟨_,rfl,_,rfl,p,_,dx,_,rfl,ep,T.ac,T.dU,by show 0<1000;decide,?_⟩;rw[D8w];obtain⟨H1,hH1⟩:∃H1,H1=upd H p (.ins T.aa dx (kf1 m)):=⟨_,rfl⟩;rw[<-hH1];have p1:H1 p=some (.ins T.aa dx (kf1 m)):=by rw[hH1];exact B3
  have f1:∀b o,H b=some o->b≠p->H1 b=some o:=λb o e n=>by rw[hH1,B7 n];exact e
  clear hH1;refine Q0 W hW λW hW=>?_;refine⟨_,rfl,_,rfl,p,_,dx,_,rfl,p1,T.ac,T.dE,by show 1<1000;decide,?_⟩;rw[D8x];obtain⟨H2,hH2⟩:∃H2,H2=upd H1 p (.ins T.aa dx (kf2 m st)):=⟨_,rfl⟩;rw[<-hH2];have p2:H2 p=some (.ins T.aa dx (kf2 m st)):=by rw[hH2];exact B3
  have f2:∀b o,H b=some o->b≠p->H2 b=some o:=λb o e n=>by rw[hH2,B7 n];exact f1 _ _ e n
  clear hH2;have npg:ag≠p:=λz=>by rw[z,ep] at eg;cases eg
  refine Q0 W hW λW hW=>?_;refine⟨_,rfl,ag,ug,rfl,.inl (SqL.of (f2 _ _ eg npg)),λl2 hl2=>?_⟩;have n2:l2≠p:=λz=>by rw[z,p2] at hl2;cases hl2
  refine⟨_,rfl,p,_,dx,_,rfl,by rw[B7 n2.symm];exact p2,T.ac,T.dN,by show 2<1000;decide,?_⟩;rw[D8y];obtain⟨H3,hH3⟩:∃H3,H3=upd (upd H2 l2 (.lst ug)) p (.ins T.aa dx (kf3 m st l2)):=⟨_,rfl⟩;rw[<-hH3];have p3:H3 p=some (.ins T.aa dx (kf3 m st l2)):=by rw[hH3];exact B3
  have g3:H3 l2=some (.lst ug):=by rw[hH3,B7 n2];exact B3
  have f3:∀b o,H b=some o->b≠p->H3 b=some o:=λb o e n=>by rw[hH3,B7 n];exact Same.upd hl2 _ _ (f2 _ _ e n)
  have l2n:H l2=none:=by
   cases z:H l2 with
   | none=>rfl
   | some o=>rw[f2 _ _ z n2] at hl2;cases hl2
  clear hH3;refine Q0 W hW λW hW=>?_;intro d hd;have nd:d≠p:=λz=>by rw[z,p3] at hd;cases hd
  refine⟨_,rfl,p,_,dx,_,rfl,by rw[B7 nd.symm];exact p3,T.ac,T.bN,by show 3<1000;decide,?_⟩;rw[D8z];obtain⟨H4,hH4⟩:∃H4,H4=upd (upd H3 d (.dK [])) p (.ins T.aa dx (kf4 m st l2 d)):=⟨_,rfl⟩;rw[<-hH4];have p4:H4 p=some (.ins T.aa dx (kf4 m st l2 d)):=by rw[hH4];exact B3
  have d4:H4 d=some (.dK []):=by rw[hH4,B7 nd];exact B3
  have f34:∀b o,H3 b=some o->b≠p->H4 b=some o:=λb o e n=>by rw[hH4,B7 n];exact Same.upd hd _ _ e
  have f4:∀b o,H b=some o->b≠p->H4 b=some o:=λb o e n=>f34 _ _ (f3 _ _ e n) n;have dn:H d=none:=by
   cases z:H d with
   | none=>rfl
   | some o=>rw[f3 _ _ z nd] at hd;cases hd
  clear hH4;subst hW;refine⟨_,rfl,SZ (n:=0),λl5 hl5=>⟨SZ (n:=2),λt6 ht6=>?_⟩⟩;have s5:Same H4 (upd H4 l5 (.lst [])):=Same.upd hl5;have s6:=s5.tr (Same.upd (o:=.tup [.int ((m:Nat):Int),.ref l5]) ht6);obtain⟨H6,hH6⟩:∃H6,H6=upd (upd H4 l5 (.lst [])) t6 (.tup [.int ((m:Nat):Int),.ref l5]):=⟨_,rfl⟩;rw[<-hH6] at s6 ⊢;have tl:ThV TT0 H6 (.ref t6) (J0 m (wsF [])):=by
   have e5:H6 l5=some (.lst []):=by rw[hH6];exact Same.upd ht6 _ _ B3
   rw[D81];exact .tup trivial (by rw[hH6];exact B3) (.cons (.int _) (.cons (.lst trivial e5 .nil) .nil))
  clear hH6;refine⟨_,rfl,_,rfl,[J0 m (wsF []),.int st,.list (C5 g)],(λd=>∃t,Q8 m ((wsF []).map A2z) st (lkF st g) t/\d=.list (C5 (lkF st t))),.cons tl (.cons (.int _) (.cons (.lst trivial (s6 _ _ (f4 _ _ eg npg)) (M4 tug)) .nil)),⟨m,wsF [],st,g,rfl,ok.land,ok.s0,OO,ok.gt,λt ht=>⟨t,ht,rfl⟩⟩,λd' v7 H7 hd' t7 s7=>?_⟩;obtain⟨t,ht,rfl⟩:=hd';obtain⟨ln,un,rfl,gn,en,tn⟩:=M2 t7;have lnn:H6 ln=none:=A95 s7 gn en;have s67:=s6.tr s7;refine⟨_,rfl,p,_,dx,_,rfl,s67 _ _ p4,T.ac,T.cF,by show 4<1000;decide,?_⟩;rw[D80];have nln:ln≠p:=λz=>by rw[z,s6 _ _ p4] at lnn;cases lnn
  have hln:H ln=none:=by
   cases z:H ln with
   | none=>rfl
   | some o=>rw[s6 _ _ (f4 _ _ z nln)] at lnn;cases lnn
  have f8:∀b o,H7 b=some o->b≠p->upd H7 p (.ins T.aa dx (kfs m st l2 d ln)) b=some o:=λb o e n=>by rw[B7 n];exact e
  exact told d (lkF st t) _ ⟨t,ht,rfl⟩ dn ⟨⟨dx,l2,ln,ug,un,B3,l2n,f8 _ _ (s67 _ _ (f34 _ _ g3 n2)) n2,M4 tug,hln,f8 _ _ en nln,M4 tn⟩,[],f8 _ _ (s67 _ _ d4) nd,.nil⟩ λb o e n=>f8 _ _ (s67 _ _ (f4 _ _ e n)) n
def D82:DSp:=λds Q=>∃d,ds=[d]/\∀r:Int,1<=r->r<=∅->Q (.int r)
def C5o:DSp:=λds Q=>∃(d:PyData)(sc:Int),ds=[d,.int sc]/\0<=sc/\sc<=∅/\∀r:Int,-sc<=r->r<=sc->Q (.int r)
def D83:DSp:=λds Q=>∃(d:PyData)(m:Nat)(st:Int),ds=[d,.int (m:Nat),.int st]/\m<=12/\0<=st/\st<=1000000000000000000000/\∀t,F9 m st t->Q (.list (C5 t))
def ODs (st:Int)(d:PyData):Prop:=∃o:Option Int,d=oD o/\∀x,o=some x->0<=x/\x<=st
theorem C5p {st:Int}:∀{ds:List PyData},(∀d∈ds,ODs st d)->∃t:Tb,ds=C5 t/\F9 ds.length st t
 | [],_=>⟨[],rfl,rfl,λp x e=>by rw[B10 (P5 _)] at e;cases e⟩
 | d::ds,h=>by
  obtain⟨t,rfl,ht⟩:=C5p (ds:=ds) λe he=>h e (C8 _ he);obtain⟨o,rfl,ho⟩:=h d D6;refine⟨o::t,rfl,⟨by rw[K4,K4,A0f],λp x e=>?_⟩⟩;cases p with
  | zero=>exact ho x e
  | succ p=>exact ht.bd p x e
theorem lt2 {r:Int}(h0:0<=r)(h1:r<2):r=0\/r=1:=by omega
theorem D84:FK P w base 4 T.dH (spD [.hd] D82):=by
 refine J3 T.dH.F D5h rfl (λC cdv A outer s H E hr=>⟨_,(@E5 _ _ _ _ (@F8 _ _ _ _ _ (@S5 _ _ _ _ _ _ _ (N1 (c9 (E2 F7 (E2 F7 (E2 F7 (E2 F7 (E2 (N7 U5 A5g F7 F7) (E2 (N7 U5 A5g F7 F7) G7 E9) E9) E6) E6) E6) E6))) (F5 (pcF T.ae (A36 T) hr (A09 (pv 0) (B9 F7 F4 E6) A0))) (λJ J=>rfl)))),λds Q hl h=>?_⟩);obtain⟨d,rfl,q⟩:=h;left;refine⟨⟨DD,DD,DD⟩,⟨DD,DD,DD⟩,DD,rfl,6,rfl,DD,DD,λr r0 r1=>?_⟩;left;have hr':r=0\/r=1\/r=2\/r=3\/r=4\/r=5:=by omega
 rcases hr' with rfl | rfl | rfl | rfl | rfl | rfl
 all_goals exact q _ DD (DD)
theorem D85:FK P w base 4 T.cz (spD [.hd,.sh] C5o):=by
 refine J3 T.cz.F D5i rfl (λC cdv A outer s H E hr=>⟨_,(E5 (F8 (N7 A65 B1m (F5 (pcF T.ae (A36 T) hr (A09 (pv 0) (B9 (N7 N3 b8 (N7 A03 B4z F7 (A5 (pv 1))) F7) F4 E9) A0))) (A5 (pv 1))))),λds Q hl h=>?_⟩);obtain⟨d,sc,rfl,s0,s1,q⟩:=h;left;refine⟨rfl,.inl ⟨DD,DD⟩,2*sc+1,rfl,OO,OO,λr r0 r1=>?_⟩;left;exact q _ OO (OO)
theorem B3h {r:Int}{m:Nat}(h0:0<=r)(h1:r<((m:Nat):Int)):∃n:Nat,r=((n:Nat):Int)/\n<m:=⟨r.toNat,OO,OO⟩
theorem C5q:FK P w base 4 T.cD (spD [.hd,.sh,.sh] D83):=by
 refine J3 T.cD.F C39 rfl (λC cdv A outer s H E hr=>⟨_,(@G8 _ _ _ _ _ _ (J7 (C2 (i:=3) C39.nd rfl (Or.inr rfl) (N7 N3 b8 F7 (N7 A03 B4z F7 (F5 (pcF T.ae (A36 T) hr (A09 (pv 0) (B9 F7 F4 E6) A0))))))) (@E5 _ _ _ _ (@F8 _ _ _ _ _ (@N1 _ _ _ _ (@A2r _ _ _ _ _ _ _ _ rfl (@S1 _ _ _ _ _ _ _ _ _ _ _ _ _ _ _ (M7.new (N:=["_law_hand_here","_law_many","_law_store","_law_rare"]) (osc:=B1 B2s) KK) rfl (B49 (A3g rfl T.cP (E2 (A5 (pv 1)) G7 A0))) (λJ=>A2q) (λJ=>(@S5 _ _ _ _ _ _ _ (N1 (c9 (E2 (F5 (pcF T.ae (A36 T) hr (A09 (pv 0) (B9 (N7 N3 b8 (A5 (pv 2)) F7) F4 E9) A0))) (E2 O4 G7 E6) C0))) (o9 D0n (T2 C0i rfl T.fY A9c (E2 (A07 A4u A7l (F5 (pcF T.ae (A36 T) hr (A09 (pv 0) (B9 (A5 (pv 3)) F4 A0) A0))) F7 (D1 _)) G7 B1i))) (λJ J=>rfl))) (by rfl) (by rfl) (by intro _;rfl))))))),λds Q hl h=>?_⟩);obtain⟨d,m,st,rfl,m2,s0,s1,q⟩:=h;left;refine⟨rfl,_,rfl,DD,DD,λr r0 r1=>?_⟩
 array_mem_dec
 refine⟨.inl ⟨DD,DD⟩,⟨OO,OO⟩,⟨rfl,by unfold f7;rw[B6,w4];omega⟩,?_⟩;refine C2j (R:=ODs st) (λx hx Q' q'=>?_) λds hl2 hR=>?_
 ·left;refine⟨rfl,_,rfl,OO,OO,λu u0 u1=>?_⟩;left;refine⟨DD,rfl,_,rfl,OO,OO,λv v0 v1=>?_⟩;left;cases decide (0<v) with
  | true=>exact q' _ ⟨none,rfl,λx e=>nomatch e⟩
  | false=>exact q' _ ⟨some u,rfl,λx e=>by cases e;exact⟨u0,OO⟩⟩
 ·obtain⟨t,e,ht⟩:=C5p hR;rw[O1,e];have hlen:ds.length=m:=by rw[hl2];unfold f7;rw[B6,w4];simp
  rw[hlen] at ht;exact q t ht
def A4f (c:Int):Int:=if c<0 then -c else c
structure A0r (ws:List Wy)(M:Int):Prop where
 m0:0<=M
 le:∀w∈ws,A4f w.2.2<=M
 is:M=0\/∃w∈ws,A4f w.2.2=M
theorem A0r.uniq {ws:List Wy}{M N:Int}(h:A0r ws M)(k:A0r ws N):M=N:=by
 have a:M<=N:=by
  rcases h.is with z | ⟨w,hw,z⟩
  ·rw[z];exact k.m0
  ·rw[<-z];exact k.le w hw
 have b:N<=M:=by
  rcases k.is with z | ⟨w,hw,z⟩
  ·rw[z];exact h.m0
  ·rw[<-z];exact h.le w hw
 omega
theorem A0r.hi {m:Nat}{ws:List Wy}{M:Int}(ok:K0 m ws)(h:A0r ws M):M<=∅:=by
 rcases h.is with z | ⟨w,hw,z⟩
 ·omega
 ·have:=ok.lo w hw;have:=ok.hi w hw;unfold A4f at z;split at z <;> omega
def mtI (m:Nat)(M:Int):Int:=(((m:Nat):Int)-1)*M
theorem B0j {m:Nat}{ws:List Wy}{M:Int}(ok:K0 m ws)(h:A0r ws M):0<=mtI m M/\mtI m M<=11000000000000000000:=by
 have h1:=ok.m1;have h2:=ok.m2;have h3:=h.hi ok;have h0:=h.m0;unfold mtI;refine⟨Int.mul_nonneg OO h0,?_⟩;have:(((m:Nat):Int)-1)*M<=11*M:=Int.mul_le_mul_of_nonneg_right OO h0;omega
def A8m (m:Nat)(ws:List Wy)(S:Int)(b g:Sp2):Prop:=∃t,Q8 m ws S (Y2 m b) t/\B0c m ws S (Y2 m b) t/\enF t g=true
def A4g (m:Nat)(ws:List Wy)(S:Int)(b g:Sp2):Prop:=∃t,Q8 m ws S (Y2 m b) t/\B0c m ws S (Y2 m b) t/\enF t g=false
def D86:DSp:=λds Q=>∃(m:Nat)(b:Sp2),ds=[.int (m:Nat),O9 b]/\b.1<m/\m<=900/\Q (.list (C5 (Y2 m b)))
def D87:DSp:=λds Q=>∃(t:Tb)(g:Sp2),ds=[.list (C5 t),O9 g]/\g.1<t.length/\Q (.bool (enF t g))
def D88:DSp:=λds Q=>∃(m:Nat)(ws:List Wy),ds=[J0 m ws]/\K0 m ws/\∀M,A0r ws M->Q (.int (mtI m M))
def D89:DSp:=λds Q=>∃(m:Nat)(ws:List Wy)(st:Int)(b g:Sp2),ds=[J0 m ws,.int st,O9 b,O9 g]/\K0 m ws/\b.1<m/\g.1<m/\0<=b.2/\b.2<=st/\st<=1000000000000000000000/\∀t,Q8 m ws st (Y2 m b) t->B0c m ws st (Y2 m b) t->Q (.bool (enF t g))
def D9a:DSp:=λds Q=>∃(m:Nat)(ws:List Wy)(b g:Sp2),ds=[J0 m ws,O9 b,O9 g]/\K0 m ws/\∀M,A0r ws M->Q (.int (mxI b.2 (g.2+mtI m M)))
def D9b:DSp:=λds Q=>∃(m:Nat)(ws:List Wy)(b g:Sp2),ds=[J0 m ws,O9 b,O9 g]/\K0 m ws/\b.1<m/\g.1<m/\0<=b.2/\b.2<=∅/\0<=g.2/\g.2<=∅/\
 ∀M,A0r ws M->(A4g m ws (mxI b.2 (g.2+mtI m M)) b g->Q .none)/\∀S,mxI b.2 g.2<=S->S<=mxI b.2 (g.2+mtI m M)->A8m m ws S b g->(S=mxI b.2 g.2\/A4g m ws (S-1) b g)->Q (.int S)
theorem C5r {m:Nat}{b:Sp2}{st:Int}(hb:b.1<m)(h0:0<=b.2)(h1:b.2<=st):F9 m st (Y2 m b):=⟨B13,λp x e=>by
 unfold Y2 at e;rw[A3y (by rw[a8];exact hb),A11] at e;split at e
 ·cases e;exact⟨h0,h1⟩
 ·cases e⟩
theorem D9c {ws:List Wy}{M:Int}(h:A9e (ws.map λw=>A4f w.2.2) M):A0r ws M:=by
 obtain⟨h1,h2⟩:=h;obtain⟨w,hw,e⟩:=M9.mp h1;exact⟨by rw[<-e];unfold A4f;split <;> omega,λv hv=>h2 _ (M9.mpr ⟨v,hv,rfl⟩),.inr ⟨w,hw,e⟩⟩
theorem C5s:FK P w base 1 T.bK (spD [.sh,.sh] D86):=by
 refine J3 T.bK.F C34 rfl (λC cdv A outer s H E hr=>⟨_,(@G8 _ _ _ _ _ _ (A3v (pS (i:=2) C34.nd (B1r (N1 (c9 (E2 O4 G7 E6))) (A5 (pv 0))))) (G8 (A9i (V4 (C9 (pv 1) (D8 (cII T.g_LEVEL))) (m8 (pv 2) (C9 (pv 1) (D8 (cII T.g_PLACE))) Z0)))
   (E5 (F8 (A5 (pv 2)))))),λds Q hl h=>?_⟩)
 obtain⟨m,b,rfl,hb,hm,q⟩:=h;right;refine⟨DD,⟨OO,OO,DD⟩,?_⟩;rw[show ((m:Nat):Int).toNat=m by simp,C4o];right;rw[A93 (by rw[A0f,a8];exact hb)];right;rw[show PyData.int b.2=oD (some b.2) from rfl,B8p];exact q
theorem C5t:FK P w base 1 T.ax (spD [.sh,.sh] D87):=by
 refine J3 T.ax.F C35 rfl (λC cdv A outer s H E hr=>⟨_,(@G8 _ _ _ _ _ _ (J7 (pS (i:=2) C35.nd (C9 (pv 0) (C9 (pv 1) (D8 (cII T.g_PLACE)))))) (E5 (F8 (A08 (A07 A2g A5h (A5 (pv 2)) O4 (D1 _)) (z5 (A07 B4c D0k (A5 (pv 2)) (C9 (pv 1) (D8 (cII T.g_LEVEL))) (D1 _))))))),λds Q hl h=>?_⟩);obtain⟨t,g,rfl,hg,q⟩:=h;unfold enF at q;right;rw[A8f hg];cases e:gt t g.1 with
 | none=>rw[e] at q;right;exact q
 | some l=>rw[e] at q;right;exact q
theorem C5u:FK P w base 1 T.aw (spD [.sh] D88):=by
 refine J3 T.aw.F D35 rfl (λC cdv A outer s H E hr=>⟨_,(@E5 _ _ _ _ (@F8 _ _ _ _ _ (@N7 _ _ _ _ _ _ _ _ _ _ A03 B4z (N7 A65 B1m (C9 (pv 0) (D8 (cII T.g_MANY))) F7) (@o9 _ _ _ _ _ _ C2z (@C1u _ _ _ _ _ _ _ _ _ rfl rfl T.eE A41 (@E2 _ _ _ _ _ _ (@N1 _ _ _ _ (@A2r _ _ _ _ _ _ _ _ rfl (@S1 _ _ _ _ _ _ _ _ _ _ _ _ _ _ _ (M7.new (N:=["land"]) (osc:=B1 B2c) KK) rfl (B47 (C9 (pv 0) (D8 (cII T.g_WAYS)))) (λJ=>A2q) (λJ=>(o9 D0m (J2 C0h rfl T.jd C1h (E2 (C9 (pv 1) (D8 (cII T.g_CHANGE))) G7 B0)))) (by rfl) (by rfl) (by intro _;rfl)))) G7 b7) (by rfl)))))),λds Q hl h=>?_⟩);obtain⟨m,ws,rfl,ok,q⟩:=h;have few:=ok.few;have m1:=ok.m1;have m2:=ok.m2
 array_mem_dec
 refine⟨⟨rfl,by rw[B6];omega⟩,?_⟩;refine A2s (f:=λw=>PyData.int (A4f w.2.2)) (λw hw Q' q'=>?_) ?_
 ·right;exact q'
 rw[O1,show ws.map (λw=>PyData.int (A4f w.2.2))=(ws.map λw=>A4f w.2.2).map PyData.int by rw[N6];rfl];right;rw[A7r];right;refine⟨λz=>?_,λM hM=>?_⟩
 ·have e:ws=[]:=B9w.mp z;exact⟨.inl ⟨OO,OO⟩,q 0 ⟨A1n _,λw hw=>(by rw[e] at hw;cases hw),.inl rfl⟩⟩
 ·exact⟨.inl ⟨OO,OO⟩,q M (D9c hM)⟩
theorem D9d:FK P w base 9 T.aA (spD [.sh,.sh,.sh,.sh] D89):=by
 have dw:=@C5t P w K mg base T;have dy:=T.ax.b;have cN:=@D7t P w K mg base T;have cO:=T.aq.b;refine J3 T.aA.F D4g rfl (λC cdv A outer s H E hr=>⟨_,(@E5 _ _ _ _ (@F8 _ _ _ _ _ (@F5 _ _ _ _ _ _ _ (@A9 _ _ _ _ _ _ _ _ _ _ _ _ _ _ _ _ dw (hr.mono DD) rfl T.ax.m T.ax.F.kp dy .nil A4 (@B9 _ _ _ _ _ _ (@F5 _ _ _ _ _ _ _ (@A9 _ _ _ _ _ _ _ _ _ _ _ _ _ _ _ _ cN (hr.mono DD) rfl (T.bp.trans T.aq.m) T.aq.F.kp cO .nil A4 (B9 (A5 (pv 0)) (B9 (A5 (pv 1)) (B9 (F5 (pcF T.bK (C5s T) hr (B9 (C9 (pv 0) (D8 (cII T.g_MANY))) (B9 (A5 (pv 2)) F4 A0) B0))) F4 C0) A0) A0) DD A0 ((A6 A0 (A6 C0 A2))))) (B9 (A5 (pv 3)) F4 A0) C0) DD C0 ((A6 A0 A2)))))),λds Q hl h=>?_⟩);obtain⟨m,ws,st,b,g,rfl,ok,hb,hg,b0,b1,s1,q⟩:=h;have m2:=ok.m2;right;refine⟨m,b,rfl,hb,OO,?_⟩;right;refine⟨m,ws,st,Y2 m b,rfl,ok,OO,s1,C5r hb b0 b1,λt ht hn=>?_⟩;right;exact⟨t,g,rfl,by rw[ht.tab.len];exact hg,q t ht hn⟩
theorem D9e:FK P w base 2 T.bc (spD [.sh,.sh,.sh] D9a):=by
 refine J3 T.bc.F D4h rfl (λC cdv A outer s H E hr=>⟨_,(@E5 _ _ _ _ (@F8 _ _ _ _ _ (@o9 _ _ _ _ _ _ B1o (@J2 _ _ _ _ _ _ _ _ _ (B08 rfl) rfl T.eE A41 (@E2 _ _ _ _ _ _ (C9 (pv 1) (D8 (cII T.g_LEVEL))) (E2 (N7 N3 b8 (C9 (pv 2) (D8 (cII T.g_LEVEL))) (F5 (pcF T.aw (C5u T) hr (B9 (A5 (pv 0)) F4 A0)))) G7 E9) B0) DD DD B0 ((A6 E9 A2)))))),λds Q hl h=>?_⟩);obtain⟨m,ws,b,g,rfl,ok,q⟩:=h;right;refine⟨m,ws,rfl,ok,λM hM=>?_⟩;right;exact q M hM
theorem D9f:FK P w base 10 T.bC (spD [.sh,.sh,.sh] D9b):=by
 refine J3 T.bC.F A8d rfl (λC cdv A outer s H E hr=>⟨_,(@N8 _ _ _ _ _ _ (J7 (pS (i:=3) A8d.nd (F5 (pcF T.bc (D9e T) hr (B9 (A5 (pv 0)) (B9 (A5 (pv 1)) (B9 (A5 (pv 2)) F4 A0) A0) A0))))) (@N8 _ _ _ _ _ _ (@X1 _ _ _ _ _ _ _ _ _ (A44 (A2m (F5 (pcF T.aA (D9d T) hr (B9 (A5 (pv 0)) (B9 (A5 (pv 3)) (B9 (A5 (pv 1)) (B9 (A5 (pv 2)) F4 A0) A0) A0) A0))))) (E5 (F8 O4)) Y1) (@N8 _ _ _ _ _ _ (@J7 _ _ _ _ _ (pS (i:=4) A8d.nd (o9 B1o (J2 (B08 rfl) rfl T.eE A41 (E2 (C9 (pv 1) (D8 (cII T.g_LEVEL))) (E2 (C9 (pv 2) (D8 (cII T.g_LEVEL))) G7 B0) B0))))) (@N8 _ _ _ _ _ _ (@B1w _ _ _ _ (@A9j _ _ _ _ _ (@A4t _ _ _ _ _ _ m6 (Q6 x6 A7k (A5 (pv 4)) (A5 (pv 3)) (D1 _)) (@N8 _ _ _ _ _ _ (J7 (pS (i:=5) A8d.nd (N7 B4n C1z (N7 N3 b8 (A5 (pv 4)) (A5 (pv 3))) F7))) (@E5 _ _ _ _ (@X1 _ _ _ _ _ _ _ _ _ (A2m (F5 (pcF T.aA (D9d T) hr (B9 (A5 (pv 0)) (B9 (A5 (pv 5)) (B9 (A5 (pv 1)) (B9 (A5 (pv 2)) F4 A0) A0) A0) A0)))) (E5 (J7 (pS (i:=3) A8d.nd (A5 (pv 5))))) (E5 (J7 (pS (i:=4) A8d.nd (N7 N3 b8 (A5 (pv 5)) F7)))))))))) (E5 (F8 (A5 (pv 4)))))))),λds Q hl h=>?_⟩);obtain⟨m,ws,b,g,rfl,ok,hb,hg,b0,b1,g0,g1,q⟩:=h;left;refine⟨m,ws,b,g,rfl,ok,λM hM=>?_⟩;obtain⟨q1,q2⟩:=q M hM;obtain⟨t0,t1⟩:=B0j ok hM;have hbb:b.2<=mxI b.2 (g.2+mtI m M):=by unfold mxI;split <;> omega
 have hbt:mxI b.2 (g.2+mtI m M)<=12000000000000000000:=by unfold mxI;split <;> omega
 have hlo:mxI b.2 g.2<=mxI b.2 (g.2+mtI m M):=by unfold mxI;split <;> split <;> omega
 have hbl:b.2<=mxI b.2 g.2:=by unfold mxI;split <;> omega
 generalize mxI b.2 (g.2+mtI m M)=top at *;refine go ?_;left;refine⟨m,ws,top,b,g,rfl,ok,hb,hg,b0,hbb,OO,λt ht hn=>?_⟩;cases e:enF t g with
 | false=>left;exact q1 ⟨t,ht,hn,e⟩
 | true=>
  refine E4 (go ?_);right;rw[show (if g.2>b.2 then g.2 else b.2)=mxI b.2 g.2 from rfl];generalize mxI b.2 g.2=low at *;refine go ?_
  (try unfold A1a);(try unfold B1v)
  refine⟨fun ρ'=>∃(S:Int)(z:Sl),ρ'=[Sl.sh (J0 m ws),Sl.sh (O9 b),Sl.sh (O9 g),Sl.sh (.int S),Sl.sh (.int S),z]/\low<=S/\S<=top/\A8m m ws S b g/\(S=low\/A4g m ws (S-1) b g),?_,?_⟩
  ·unfold A7q;refine⟨fun μ ρ=>∃(hi lo:Int)(z:Sl),ρ=[Sl.sh (J0 m ws),Sl.sh (O9 b),Sl.sh (O9 g),Sl.sh (.int hi),Sl.sh (.int lo),z]/\low<=lo/\lo<=hi/\hi<=top/\A8m m ws hi b g/\(lo=low\/A4g m ws (lo-1) b g)/\μ=(hi-lo).toNat,⟨_,top,low,_,rfl,A1n _,hlo,A1n _,⟨t,ht,hn,e⟩,.inl rfl,rfl⟩,?_⟩;rintro μ ρ ⟨hi,lo,z,rfl,h1,h2,h3,hT,hN,rfl⟩;left;by_cases c:lo<hi
   ·rw[decide_eq_true c];left
    try dsimp only[Blk]
    array_get_dec
    refine⟨⟨DD,DD⟩,?_⟩;have d1:lo<=(lo+hi)/2:=by omega
    have d2:(lo+hi)/2<hi:=by omega
    generalize (lo+hi)/2=mi at *;refine go ?_;left;refine⟨m,ws,mi,b,g,rfl,ok,hb,hg,b0,OO,OO,λu hu hun=>?_⟩;cases e2:enF u g with
    | true=>left;exact⟨(mi-lo).toNat,OO,mi,lo,_,rfl,h1,d1,OO,⟨u,hu,hun,e2⟩,hN,rfl⟩
    | false=>left;exact⟨(hi-(mi+1)).toNat,OO,hi,mi+1,_,rfl,OO,OO,h3,hT,.inr (by rw[show mi+1-1=mi by omega];exact⟨u,hu,hun,e2⟩),rfl⟩
   ·rw[decide_eq_false c];left;have:lo=hi:=by omega
    subst this;exact⟨lo,z,rfl,h1,h3,hT,hN⟩
  rintro ρ ⟨S,z,rfl,h1,h2,h3,h4⟩;refine go ?_;left;exact q2 S h1 h2 h3 h4
def A6k (f:Nat->Tb)(n:Nat):List PyData:=(T5 n).map λk=>.list (C5 (f k))
theorem C5v (f:Nat->Tb)(n:Nat):A6k f (n+1)=A6k f n++[.list (C5 (f n))]:=by unfold A6k;rw[B9u,Q3];rfl
def A8n (m:Nat)(ws:List Wy)(st:Int)(b g:Sp2)(most:Nat)(d:PyData):Prop:=
 (d=.tuple [.str "not",.list (A6k (skF m ws st b) (most+1))]/\∀k,k<=most->enF (skF m ws st b k) g=false)\/
 ∃(L:Nat)(ns:List Nat)(l:Int),d=.tuple [.str "through",.list (F3 ns),.list (A6k (skF m ws st b) L)]/\L<=most/\(∀k,k<L->enF (skF m ws st b k) g=false)/\enF (skF m ws st b L) g=true/\ns.length=L/\goN ws st ns b=some (g.1,l)/\g.2<=l/\∀n∈ns,n<ws.length
def D9g:DSp:=λds Q=>∃(m:Nat)(ws:List Wy)(st:Int)(b g:Sp2)(most:Nat),ds=[J0 m ws,.int st,O9 b,O9 g,.int (most:Nat)]/\K0 m ws/\b.1<m/\g.1<m/\most<=400/\∀d,A8n m ws st b g most d->Q d
theorem D9h {t:Tb}{g:Sp2}(h:enF t g=true):∃l,gt t g.1=some l/\g.2<=l:=by
 unfold enF at h;cases e:gt t g.1 with
 | none=>rw[e] at h;cases h
 | some l=>rw[e] at h;exact⟨l,rfl,of_decide_eq_true h⟩
theorem B82 {m:Nat}{ws:List Wy}{st:Int}{b:Sp2}{n:Nat}:(srs m ws st b n).length=n:=by unfold srs;rw[B6,w4]
theorem D9i {m:Nat}{ws:List Wy}{st:Int}{b:Sp2}{n:Nat}(ok:K0 m ws):A6g m ws (srs m ws st b n):=by
 intro r hr;unfold srs at hr;obtain⟨k,_,rfl⟩:=M9.mp hr;exact⟨D2b ok k,λq n h=>D2c ok h⟩
theorem C5w:FK P w base 4 T.bL (spD [.sh,.sh,.sh,.sh,.sh] D9g):=by
 have eP:=@C4p P w K mg base T;have eQ:=T.aT.b;have er:=@C4q P w K mg base T;have eu:=T.aM.b;refine J3 T.bL.F B21 rfl (λC cdv A outer s H E hr=>⟨_,(@N8 _ _ _ _ _ _ (J7 (pS (i:=5) B21.nd (N1 (B1r (N1 (c9 (E2 O4 G7 E6))) (C9 (pv 0) (D8 (cII T.g_MANY))))))) (@N8 _ _ _ _ _ _ (@A3v _ _ _ _ _ (@C2 _ _ 6 _ _ _ _ B21.nd rfl (B2 rfl) (@c9 _ _ _ _ _ (@E2 _ _ _ _ _ _ (@F5 _ _ _ _ _ _ _ (@A9 _ _ _ _ _ _ _ _ _ _ _ _ _ _ _ _ eP (hr.mono DD) rfl T.aT.m T.aT.F.kp eQ .nil A4 (B9 (F5 (pcF T.bK (C5s T) hr (B9 (C9 (pv 0) (D8 (cII T.g_MANY))) (B9 (A5 (pv 2)) F4 A0) B0))) F4 C0) DD C0 A2)) G7 C0)) (by rfl) (by first | exact .inl rfl | exact .inr rfl | assumption))) (@N8 _ _ _ _ _ _ (@B1w _ _ _ _ (@A9j _ _ _ _ _ (@A4t _ _ _ _ _ _ m6 (PW.pt (@B4v _ _ _ _ _ _ _ _ (Q6 V6 C10 (A5o (J2 Z1 rfl T.bq V9 (A1 (pv 6) A3 A0))) (A5 (pv 4)) (D1 _)) (B4u (A44 (A2m (F5 (pcF T.ax (C5t T) hr (B9 (S5 (C9 (pv 6) (A0a F7)) (D8 (cII T.g_TABLE))) (B9 (A5 (pv 3)) F4 A0) B0)))))))) (@E5 _ _ _ _ (@A9h _ _ _ _ _ _ (@A0k _ _ _ _ (@Z2 _ _ _ _ _ _ _ _ _ _ _ _ A6x B0x B0y A69 (pv 6) (@A1 _ _ _ _ _ (@F5 _ _ _ _ _ _ _ (@A9 _ _ _ _ _ _ _ _ _ _ _ _ _ _ _ _ er (hr.mono DD) rfl T.aM.m T.aM.F.kp eu .nil A4 (B9 (A5 (pv 0)) (B9 (A5 (pv 1)) (B9 (S5 (C9 (pv 6) (A0a F7)) (D8 (cII T.g_TABLE))) (B9 (A5 (pv 5)) F4 A0) B0) A0) A0) DD A0 ((A6 A0 (A6 B0 (A6 A0 A2)))))) A3 C0) (by rfl) (by rfl) (by rfl) (by rfl) (by rfl)) (by rfl))))))) (@N8 _ _ _ _ _ _ (D1d rfl (A9a (i:=7) B21.nd rfl (B2 rfl) (M7.new (N:=["land","store","begin","goal","most","nowhere","rows","tables"]) (osc:=B1 B2n) KK) rfl (A3r (pv 6)) (λJ=>A2q) (λJ=>(C9 (pv 8) (D8 (cII T.g_TABLE)))))) (@N8 _ _ _ _ _ _ (@X1 _ _ _ _ _ _ _ _ _ (A44 (A2m (F5 (pcF T.ax (C5t T) hr (B9 (C9 (pv 7) (A0a F7)) (B9 (A5 (pv 3)) F4 A0) B0))))) (E5 (F8 (Z3 (E2 C1x (E2 (A5 (pv 7)) G7 A0) E6)))) Y1) (@E5 _ _ _ _ (@F8 _ _ _ _ _ (@Z3 _ _ _ _ _ _ (@E2 _ _ _ _ _ _ C1x (@E2 _ _ _ _ _ _ (@S5 _ _ _ _ _ _ _ (F5 (pcF T.bJ (C4r T) hr (B9 (A5 (pv 0)) (B9 (A5 (pv 6)) (B9 (C9 (pv 3) (D8 (cII T.g_PLACE))) F4 B0) A0) A0))) (D8 (cII T.g_BY)) (λJ J=>rfl)) (E2 (N1 (B43 (pv 7) B1p (A7n (A0a F7)))) G7 B0) B0) E6))))))))),λds Q hl h=>?_⟩);obtain⟨m,ws,st,b,g,most,rfl,ok,hb,hg,hm,q⟩:=h;have m2:=ok.m2;right;refine⟨DD,⟨OO,OO,DD⟩,?_⟩;rw[show ((m:Nat):Int).toNat=m by simp,C4o];refine go ?_;right;refine⟨m,b,rfl,hb,OO,?_⟩;right;refine⟨Y2 m b,rfl,by rw[B13];omega,?_⟩;rw[B13];right;refine⟨DD,?_⟩;refine go ?_;unfold A1a B1v;refine⟨fun ρ=>∃(L:Nat)(z:Sl),ρ=[Sl.sh (J0 m ws),Sl.sh (.int st),Sl.sh (O9 b),Sl.sh (O9 g),Sl.sh (.int (most:Nat)),Sl.sh (.list (C5 (F2 m none))),Sl.ow ((srs m ws st b (L+1)).map Q9),z]/\L<=most/\(∀k,k<L->enF (skF m ws st b k) g=false)/\(L<most->enF (skF m ws st b L) g=true),?_,?_⟩
 ·unfold A7q;refine⟨fun μ ρ=>∃(L:Nat)(z:Sl),ρ=[Sl.sh (J0 m ws),Sl.sh (.int st),Sl.sh (O9 b),Sl.sh (O9 g),Sl.sh (.int (most:Nat)),Sl.sh (.list (C5 (F2 m none))),Sl.ow ((srs m ws st b (L+1)).map Q9),z]/\L+μ=most/\∀k,k<L->enF (skF m ws st b k) g=false,
   ⟨most,0,_,rfl,OO,λk hk=>absurd hk (Nat.not_lt_zero k)⟩,?_⟩
  rintro μ ρ ⟨L,z,rfl,hL,hno⟩;have eL:(srs m ws st b (L+1)).map Q9=(srs m ws st b L).map Q9++[Q9 (srF m ws st b L)]:=by rw[B5s,Q3];rfl
  have lL:((srs m ws st b (L+1)).map Q9).length=L+1:=by rw[B6,B82]
  have aL:atI ((srs m ws st b (L+1)).map Q9) (-1)=some (Q9 (srF m ws st b L)):=by rw[eL];exact B1d _ _
  right;rw[lL];cases μ with
  | zero=>rw[decide_eq_false (OO)];right;refine⟨L,z,rfl,OO,hno,λh=>?_⟩;omega
  | succ μ=>
   rw[decide_eq_true (OO)];right;rw[aL];right;refine⟨_,g,rfl,by rw[show (srF m ws st b L).1.length=m from B5r ok L];exact hg,?_⟩;rw[show (srF m ws st b L).1=skF m ws st b L from rfl];cases e:enF (skF m ws st b L) g with
   | true=>right;exact⟨L,z,rfl,OO,hno,λJ=>e⟩
   | false=>
    decreasing_trivial_pre_omega
    rw[aL];right;refine⟨m,ws,st,skF m ws st b L,F2 m none,rfl,ok,B5r ok L,a8,?_⟩;right;refine⟨by rw[lL];omega,μ,OO,L+1,z,?_,OO,λk hk=>?_⟩
    ·rw[B5s (L+1),Q3];rfl
    ·by_cases c:k=L
     ·rw[c];exact e
     ·exact hno k (OO)
 ·rintro ρ ⟨L,z,rfl,hL,hno,hyes⟩;refine go ?_;array_mem_dec;refine⟨⟨rfl,by rw[B6,B82];omega⟩,?_⟩;refine A2s (f:=λr:Rw=>.list (C5 r.1)) (λr hr Q' q'=>?_) ?_
  ·right;exact q'
  have eT:[]++List.map (λr:Rw=>PyData.list (C5 r.1)) (srs m ws st b (L+1))=A6k (skF m ws st b) L++[.list (C5 (skF m ws st b L))]:=by
   rw[<-C5v,O1];unfold srs A6k;rw[N6];rfl
  rw[eT];refine go ?_;right;rw[show -(1:Int)=-1 from rfl,B1d];right;refine⟨_,g,rfl,by rw[B5r ok L];exact hg,?_⟩;cases e:enF (skF m ws st b L) g with
  | false=>
   have hm':L=most:=by
    by_cases c:L<most
    ·rw[hyes c] at e;cases e
    ·omega
   subst hm';right;refine⟨DD,?_⟩;rw[<-C5v];refine q _ (.inl ⟨rfl,λk hk=>?_⟩);by_cases c:k=L
   ·rw[c];exact e
   ·exact hno k (OO)
  | true=>obtain⟨l,h1,h2⟩:=D9h e;obtain⟨ns,a1,a2,a3,a4⟩:=C2y ok hb h1;right;refine⟨m,ws,srs m ws st b (L+1),g.1,rfl,hg,ok,D9i ok,by rw[B82];omega,?_⟩;rw[a1];right;rw[show -(1:Int)=-1 from rfl,D1m];refine⟨DD,?_⟩;exact q _ (.inr ⟨L,ns,l,rfl,hL,hno,e,a2,a3,h2,a4⟩)
structure Opn (m:Nat)(ws:List Wy)(b:Tb)(G M:Int)(t:Tb):Prop where
 ok:K0 m ws
 g0:0<=G
 hG:∀p y,gt b p=some y->0<=y/\y<=G
 len:b.length=m
 hM:A0r ws M
 ht:Q8 m ws (G+mtI m M+mtI m M+1) b t
section
variable {m:Nat}{ws:List Wy}{b t:Tb}{G M:Int}
end
inductive OV where
 | no
 | any
 | num (x:Int)
def ovD:OV->PyData
 | .no=>.none
 | .any=>.str "any"
 | .num x=>.int x
def opV (B:Int):Option Int->OV
 | none=>.no
 | some x=>if B<x then .any else .num x
theorem D9j {B x:Int}(h:B<x):opV B (some x)=.any:=if_pos h
theorem D9k {B x:Int}(h:¬ B<x):opV B (some x)=.num x:=if_neg h
structure A23 (b:Tb)(G:Int):Prop where
 g0:0<=G
 le:∀p y,gt b p=some y->y<=G
 is:G=0\/∃p,gt b p=some G
theorem A23.uniq {b:Tb}{G H:Int}(h:A23 b G)(k:A23 b H):G=H:=by
 have a:G<=H:=by
  rcases h.is with z | ⟨p,z⟩
  ·rw[z];exact k.g0
  ·exact k.le p G z
 have c:H<=G:=by
  rcases k.is with z | ⟨p,z⟩
  ·rw[z];exact h.g0
  ·exact h.le p H z
 omega
theorem B83:∀b:Tb,(b.filter λo=>o.isSome).map oD=(b.filterMap id).map PyData.int
 | []=>rfl
 | none::b=>B83 b
 | some x::b=>by
  show PyData.int x::(b.filter λo=>o.isSome).map oD=PyData.int x::(b.filterMap id).map PyData.int;rw[B83 b]
theorem B84 {b:Tb}{y:Int}:y∈b.filterMap id↔∃p,gt b p=some y:=by
 constructor
 ·intro h;obtain⟨o,ho,e⟩:=B0o.mp h;obtain⟨p,hp,e2⟩:=A8w.mp ho;refine⟨p,?_⟩;unfold gt;rw[P7 hp,e2];exact e
 ·rintro ⟨p,e⟩;unfold gt at e;cases z:b[p]? with
  | none=>rw[z] at e;cases e
  | some o=>rw[z] at e;exact B0o.mpr ⟨o,R6 z,e⟩
theorem D9l {b:Tb}{m:Nat}{st M:Int}(hb:F9 m st b)(h:A9e (b.filterMap id) M):A23 b M:=by
 obtain⟨h1,h2⟩:=h;obtain⟨p,e⟩:=B84.mp h1;exact⟨(hb.bd p M e).1,λq y e=>h2 y (B84.mpr ⟨q,e⟩),.inr ⟨p,e⟩⟩
theorem A23.hi {b:Tb}{m:Nat}{st G:Int}(hb:F9 m st b)(h0:0<=st)(h:A23 b G):G<=st:=by
 rcases h.is with z | ⟨p,z⟩
 ·omega
 ·exact (hb.bd p G z).2
def D9m:DSp:=λds Q=>∃(m:Nat)(st:Int)(b:Tb),ds=[.list (C5 b)]/\F9 m st b/\m<=900/\∀G,A23 b G->Q (.int G)
def D9n:DSp:=λds Q=>∃(m:Nat)(ws:List Wy)(b:Tb),ds=[J0 m ws,.list (C5 b)]/\K0 m ws/\F9 m ∅ b/\∀G M t,A23 b G->Opn m ws b G M t->Q (.list (t.map λo=>ovD (opV (G+mtI m M) o)))
theorem D9o:FK P w base 1 T.bB (spD [.bo] D9m):=by
 refine J3 T.bB.F D4c rfl (λC cdv A outer s H E hr=>⟨_,(E5 (F8 (o9 C2z (C1u rfl rfl T.eE A41 (E2 (N1 (A2r rfl (S1 (M7.new (N:=["base"]) (osc:=B1 B2h) KK) rfl (A3r (pv 0)) (λJ=>(B1f (Q6 A2g A5h (A5 (pv 1)) O4 (D1 _)))) (λJ=>(A5 (pv 1)))))) G7 b7))))),λds Q hl h=>?_⟩);obtain⟨m,st,b,rfl,hb,m2,q⟩:=h;have bl:=hb.len
 array_mem_dec
 refine⟨⟨rfl,by rw[A0f];omega⟩,?_⟩;rw[show C5 b=b.map oD from rfl];refine B1y (p:=λo=>o.isSome) (f:=oD) (λo ho Q' q'=>?_) (λo ho J Q' q'=>?_) ?_
 ·left;cases o with
  | none=>exact q'
  | some x=>exact q'
 ·left;exact q'
 rw[O1,B83];left;rw[A7r];left;refine⟨λz=>?_,λM hM=>q M (D9l hb hM)⟩;refine q 0 ⟨A1n _,λp y e=>?_,.inl rfl⟩;have:=B84.mpr ⟨p,e⟩;rw[z] at this;cases this
theorem C5x:FK P w base 9 T.aU (spD [.sh,.bo] D9n):=by
 have cN:=@B29 P w K mg base T;have cO:=T.aq.b;refine J3 T.aU.F B8c rfl (λC cdv A outer s H E hr=>⟨_,(@N8 _ _ _ _ _ _ (@J7 _ _ _ _ _ (@C2 _ _ 2 _ _ _ _ B8c.nd rfl (Or.inr rfl) (N7 N3 b8 (F5 (pcF T.bB (D9o T) hr (A09 (pv 1) F4 A0))) (F5 (pcF T.aw (C5u T) hr (B9 (A5 (pv 0)) F4 A0)))) (by rfl) (by first | exact .inl rfl | exact .inr rfl | assumption))) (@N8 _ _ _ _ _ _ (@J7 _ _ _ _ _ (@C2 _ _ 3 _ _ _ _ B8c.nd rfl (B2 rfl) (@F5 _ _ _ _ _ _ _ (@A9 _ _ _ _ _ _ _ _ _ _ _ _ _ _ _ _ cN (hr.mono DD) rfl (T.bp.trans T.aq.m) T.aq.F.kp cO .nil A4 (B9 (A5 (pv 0)) (B9 (N7 N3 b8 (N7 N3 b8 (A5 (pv 2)) (F5 (pcF T.aw (C5u T) hr (B9 (A5 (pv 0)) F4 A0)))) F7) (A09 (pv 1) F4 A0) E9) A0) DD A0 ((A6 E9 (A6 A0 A2))))) (by rfl) (by first | exact .inl rfl | exact .inr rfl | assumption))) (@E5 _ _ _ _ (@F8 _ _ _ _ _ (@N1 _ _ _ _ (@A2r _ _ _ _ _ _ _ _ rfl (S1 (M7.new (N:=["land","base","bound","told"]) (osc:=B1 B2i) KK) rfl (A3r (pv 3)) (λJ=>A2q) (λJ=>(C1y (PW.pt (B4v (Q6 A2g A5h (A5 (pv 4)) O4 (D1 _)) (B4u (Q6 A4u A7l (A5 (pv 4)) (A5 (pv 2)) (D1 _))))) (D0i (C4 (v:=V.str "any") rfl T.g_ANY.m ⟨_,rfl⟩)) (A5 (pv 4))))))))))),λds Q hl h=>?_⟩);obtain⟨m,ws,b,rfl,ok,hb,q⟩:=h;have m2:=ok.m2;left;refine⟨rfl,m,_,b,rfl,hb,OO,λG hG=>?_⟩;left;refine⟨m,ws,rfl,ok,λM hM=>?_⟩;obtain⟨t0,t1⟩:=B0j ok hM;have g0:=hG.g0;have g1:=hG.hi hb (DD);refine go ?_;left;refine⟨m,ws,rfl,ok,λM' hM'=>?_⟩;cases hM.uniq hM';left;refine⟨rfl,m,ws,G+mtI m M+mtI m M+1,b,rfl,ok,OO,OO,⟨hb.len,λp y e=>⟨(hb.bd p y e).1,by have:=hG.le p y e;omega⟩⟩,λt ht hn=>?_⟩;have o:Opn m ws b G M t:=⟨ok,g0,λp y e=>⟨(hb.bd p y e).1,hG.le p y e⟩,hb.len,hM,ht⟩;have tl:=ht.tab.len;refine go ?_;array_mem_dec;refine⟨⟨rfl,by rw[A0f];omega⟩,?_⟩;rw[show C5 t=t.map oD from rfl];refine A2s (f:=λo=>ovD (opV (G+mtI m M) o)) (λo ho Q' q'=>?_) ?_
 ·cases o with
  | none=>right;exact q'
  | some x=>
   right;unfold opV at q';dsimp only at q';by_cases c:G+mtI m M<x
   ·rw[decide_eq_true c];rw[if_pos c] at q';right;exact q'
   ·rw[decide_eq_false c];rw[if_neg c] at q';right;exact q'
 ·rw[O1];exact q G M t hG o
def kwD (x:Int)(w:Wy):PyData:=.tuple [.int x,.int ((w.1:Nat):Int),.int ((w.2.1:Nat):Int),.int w.2.2]
def A0s (kws:Kw):List PyData:=(srt (D9 kws)).map λk=>kwD k ((K8 kws k).getD (0,0,0))
def D9p (k:Kst)(ds:List PyData):Prop:=ds=[]/\(D9 k.kws).length<64
def D9q (k:Kst)(_:List PyData)(r:PyData)(k':Kst):Prop:=r=.list (A0s k.kws)/\k'=k
def D9r (k:Kst)(_:List PyData)(r:PyData)(k':Kst):Prop:=r=.int k.st/\k'=k
theorem B85 {F:Addr->Prop}{H:Hp}{vs:List V}{d1 d2 d3:PyData}(t:B4 F H vs [d1,d2,d3]):∃v1 v2 v3,vs=[v1,v2,v3]/\ThV F H v1 d1/\ThV F H v2 d2/\ThV F H v3 d3:=by
 cases t with
 | cons x1 t=>
 obtain⟨v2,v3,rfl,t2,t3⟩:=X9 t;exact⟨_,v2,v3,rfl,x1,t2,t3⟩
theorem B3i:FM P w mg base 1 T.aI (A0q T.aa C5g D9r):=by
 refine T.aI.F.ok D4q (λJ H J J h=>?_) (λJ J J J H J Q J hr h=>?_)
 ·obtain⟨F,p,d,k,us,ds,rfl,_,_,tus,rfl,_⟩:=h;cases tus;rfl
 ·obtain⟨F,p,d,k,us,ds,rfl,hF,kp,tus,rfl,told⟩:=h;cases tus;have kp0:=kp;obtain⟨⟨dx,g,l,ug,ul,e1,g1,e2,t2,g3,e3,t3⟩,kvs,e4,kv⟩:=kp;refine⟨_,(C1 (E3 (Q5 (pv 0) rfl))),?_⟩;refine⟨_,rfl,p,_,dx,_,_,rfl,e1,T.ac,T.dE,B3c,?_⟩;exact told _ _ k _ ⟨rfl,rfl⟩ kp0 (.int _) (λb o e J J=>e) (D8i kp0)
theorem C5y:FM P w mg base 1 T.cI (A0q T.aa D9p D9q):=by
 refine T.cI.F.ok B20 (λJ H J J h=>?_) (λJ J J J H J Q J hr h=>?_)
 ·obtain⟨F,p,d,k,us,ds,rfl,_,_,tus,⟨rfl,_⟩,_⟩:=h;cases tus;rfl
 ·obtain⟨F,p,d,k,us,ds,rfl,hF,kp,tus,⟨rfl,hk⟩,told⟩:=h;cases tus;have kp0:=kp;obtain⟨⟨dx,g,l,ug,ul,e1,g1,e2,t2,g3,e3,t3⟩,kvs,e4,kv⟩:=kp;refine⟨_,(B5 (pS (i:=1) B20.nd (U6 A3))
   (B5 (A2e m6 rfl (W7 (J2 (B5x rfl) rfl T.fh B4p (A1 (Q5 (pv 0) rfl) A3 O2))) (O8 (i:=2) B20.nd)
   (B5 (pS (i:=3) B20.nd (B16 (u1 (X3 hr)) (Q5 (pv 0) rfl) (pv 2) (λJ J=>rfl)))
   (C1 (A0k (Z2 A6x B0x B0y A69 (pv 1) (A1 (o7 (A1 (pv 2) (A1 (C7 A4z (pv 3) (cII T.g_START)) (A1 (C7 A4z (pv 3) (cII T.g_END)) (A1 (C7 A4z (pv 3) (cII T.g_CHANGE)) A3 B0) B0) B0) A0)) A3 A42))))))
   (C1 (E3 (pv 1))))),?_⟩
  try dsimp only[G5,Cx.nox]
  refine A14 λW hW=>?_;refine⟨SZ (n:=0),λtl htl=>?_⟩;have s1:Same H (upd H tl (.lst [])):=Same.upd htl;refine Q0 W hW λW hW=>?_;refine⟨_,rfl,p,_,dx,_,_,rfl,s1 _ _ e1,T.ac,T.bN,A1g,d,kvs,_,rfl,s1 _ _ e4,kv.keys,hk,λl1 ms hl1 hp hs=>?_⟩;have ems:=B8y hp hs;subst ems;obtain⟨H2,hH2⟩:∃H2,H2=upd (upd H tl (.lst [])) l1 (.lst ((srt (D9 k.kws)).map V.int)):=⟨_,rfl⟩;rw[<-hH2];have s2:Same H H2:=by rw[hH2];exact s1.tr (Same.upd hl1)
  have el1:H2 l1=some (.lst ((srt (D9 k.kws)).map V.int)):=by rw[hH2];exact B3
  have etl:H2 tl=some (.lst []):=by rw[hH2];exact Same.upd hl1 _ _ B3
  have nlt:l1≠tl:=λz=>by rw[z,B3] at hl1;cases hl1
  have lsr:(srt (D9 k.kws)).length<64:=by rw[(i8 _).length_eq];exact hk
  have lkw:(A0s k.kws).length=(srt (D9 k.kws)).length:=by unfold A0s;rw[B6]
  clear hH2;refine⟨l1,rfl,⟨_,SqL.of el1⟩,?_⟩;refine C8f (xs:=(srt (D9 k.kws)).map V.int) (λi σ' H'=>∃ys x2 x3,σ'=[some (.ref p),some (.ref tl),x2,x3]/\Same H H'/\H' tl=some (.lst ys)/\H' l1=some (.lst ((srt (D9 k.kws)).map V.int))/\B4 (λb=>Q1 H b/\b≠tl) H' ys ((A0s k.kws).take i)) ⟨[],none,none,rfl,s2,etl,el1,.nil⟩ ?_ ?_ ?_
  ·rintro i σ' H' hi ⟨ys,x2,x3,rfl,sH,et,el,ty⟩;exact SqL.of el
  ·rintro i x σ' H' hx ⟨ys,x2,x3,rfl,sH,et,el,ty⟩;rw[P6] at hx;obtain⟨n,hn,rfl⟩:=A28.mp hx;obtain⟨w0,hw0⟩:=A6h ((i8 _).mem_iff.mp (R6 hn));have hwi:(A0s k.kws)[i]?=some (kwD n w0):=by
    unfold A0s;rw[P6,hn,A6w,hw0];rfl
   rcases kv.val n with ⟨_,z⟩ | ⟨v0,w1,hv,hw1,tv⟩
   ·rw[hw0] at z;cases z
   rw[hw0] at hw1;cases hw1;obtain⟨tw,uw,rfl,_,ew,tuw⟩:=Y0 (show ThV TT0 H v0 (.tuple [.int ((w0.1:Nat):Int),.int ((w0.2.1:Nat):Int),.int w0.2.2]) from tv);obtain⟨v1,v2,v3,rfl,tv1,tv2,tv3⟩:=B85 tuw;cases tv1;cases tv2;cases tv3;have ew':=sH _ _ ew;refine⟨_,rfl,p,_,dx,_,_,rfl,sH _ _ e1,T.ac,T.bN,A1g,_,rfl,d,_,rfl,by rw[<-hv];exact Y3.k (k:=Sum.inl n) (sH _ _ e4),?_⟩;refine⟨_,rfl,.inl ⟨rfl,_,SqL.of et⟩,_,rfl,_,rfl,.inr (.inl ⟨tw,_,0,_,rfl,rfl,SqT.of ew',rfl,_,rfl,.inr (.inl ⟨tw,_,1,_,rfl,rfl,SqT.of ew',rfl,_,rfl,.inr (.inl ⟨tw,_,2,_,rfl,rfl,SqT.of ew',rfl,SZ (n:=4),λq hq=>?_⟩)⟩)⟩)⟩;have s3:Same H' (upd H' q (.tup [.int n,.int ((w0.1:Nat):Int),.int ((w0.2.1:Nat):Int),.int w0.2.2])):=Same.upd hq;have nq:q≠tl:=λz=>by rw[z,et] at hq;cases hq
   have lys:ys.length<=63:=by rw[ty.len,Z9,lkw];omega
   refine⟨tl,ys,_,rfl,rfl,s3 _ _ et,by rw[sizeLine_eq];omega,?_⟩;have k4:∀b o,upd H' q (.tup [.int n,.int ((w0.1:Nat):Int),.int ((w0.2.1:Nat):Int),.int w0.2.2]) b=some o->b≠tl->upd (upd H' q (.tup [.int n,.int ((w0.1:Nat):Int),.int ((w0.2.1:Nat):Int),.int w0.2.2])) tl (.lst (ys++[.ref q])) b=some o:=λb o e n=>by rw[B7 n];exact e
   refine⟨_,_,_,rfl,λb o e=>k4 _ _ (s3 _ _ (sH _ _ e)) (λz=>by rw[z,htl] at e;cases e),B3,k4 _ _ (s3 _ _ el) nlt,?_⟩;rw[A27,hwi];refine (ty.mv λb o z e=>⟨z,k4 _ _ (s3 _ _ e) z.2⟩).append (.cons (.tup ⟨.inl (sH.early hq),nq⟩ (k4 _ _ B3 nq) (.cons (.int _) (.cons (.int _) (.cons (.int _) (.cons (.int _) .nil))))) .nil)
  ·rintro σ' H' ⟨ys,x2,x3,rfl,sH,et,el,ty⟩;rw[B6,<-lkw,A4r] at ty;subst hW;refine⟨_,rfl,?_⟩;exact told _ _ k _ ⟨rfl,rfl⟩ (kp0.same sH) (.lst (.inl htl) et (ty.mv λb o z e=>⟨z.1,e⟩)) (λb o e J J=>sH _ _ e) (C5f (kp0.ex.same sH) htl et)
abbrev Frp (p d:Addr)(H H':Hp):Prop:=∀b o,H b=some o->b≠p->b≠d->H' b=some o
theorem A0t {F:Addr->Prop}{C:Addr}{H H':Hp}{p d:Addr}{k:Kst}(kp:E7 F C H' p d k)(fr:Frp p d H H'){b:Addr}(hb:H' b=none):H b=none:=by
 cases z:H b with
 | none=>rfl
 | some o=>
  have pd:=A6i kp;by_cases c1:b=p
  ·rw[c1] at hb;exact absurd hb pd.2.1
  ·by_cases c2:b=d
   ·rw[c2] at hb;exact absurd hb pd.2.2
   ·rw[fr _ _ z c1 c2] at hb;cases hb
theorem D9s {F:Addr->Prop}{ms:List Md}{sp:DSp}{vs:List V}{ds:List PyData}{H:Hp}{Q:VK}{E:XK}(hF:(∀b,H b=none->F b)/\∀b xs,H b=some (.tup xs)->F b)(Qd:PyData->Prop)(ar:d8 F none H ms vs ds)(h:sp ds Qd)(k:∀d v H',Qd d->ThV F H' v d->Same H H'->Q v H'):spD ms sp vs H Q E:=
 ⟨F,none,ds,Qd,hF,λq hq=>(nomatch hq),λq hq=>(nomatch hq),ar,h,λd v H' a b c J=>k d v H' a b (C4f c)⟩
def D9t (C:Addr)(pre:Kst->List PyData->Prop)(post:Kst->List PyData->PyData->Prop):Sp:=λvs H Q J=>∃(F:Addr->Prop)(p d:Addr)(k:Kst)(us:List V)(ds:List PyData),vs=.ref p::us/\(∀b,H b=none->F b)/\E7 F C H p d k/\B4 TT0 H us ds/\pre k ds/\
 ∀r v H',post k ds r->E7 F C H' p d k->ThV TT0 H' v r->Frp p d H H'->Q v H'
def D9u (k:Kst)(ds:List PyData):Prop:=∃b:Tb,ds=[.list (C5 b)]/\F9 k.m k.st b/\KOk k.m k.st k.g k.kws
def D9v (k:Kst)(ds:List PyData)(r:PyData)(k':Kst):Prop:=k'=k/\∃b t:Tb,ds=[.list (C5 b)]/\Q8 k.m (wsF k.kws) k.st b t/\r=.list (C5 t)
def A17 (m:Nat)(b:Sp2):Prop:=b.1<m/\0<=b.2/\b.2<=∅
def A6l (m:Nat)(ws:List Wy)(b g:Sp2)(o:Option Int):Prop:=∃M,A0r ws M/\((o=none/\A4g m ws (mxI b.2 (g.2+mtI m M)) b g)\/∃S,o=some S/\mxI b.2 g.2<=S/\S<=mxI b.2 (g.2+mtI m M)/\A8m m ws S b g/\(S=mxI b.2 g.2\/A4g m ws (S-1) b g))
def D9w (k:Kst)(ds:List PyData):Prop:=∃b g:Sp2,ds=[O9 b,O9 g]/\A17 k.m b/\A17 k.m g/\KOk k.m k.st k.g k.kws
def D9x (k:Kst)(ds:List PyData)(r:PyData):Prop:=∃(b g:Sp2)(o:Option Int),ds=[O9 b,O9 g]/\A6l k.m (wsF k.kws) b g o/\r=oD o
theorem D9y {F G:Addr->Prop}{C:Addr}{H H':Hp}{p d:Addr}{k:Kst}(kp:E7 F C H p d k)(kp':E7 G C H' p d k)(fr:Frp p d H H'):(∀b,H' b=none->Q1 H b)/\∀b xs,H' b=some (.tup xs)->Q1 H b:=by
 refine⟨λb hb=>.inl (A0t kp' fr hb),λb xs hb=>?_⟩;cases z:H b with
 | none=>exact .inl z
 | some o=>have n:=P3 kp' hb;have:=fr _ _ z n.1 n.2;rw[hb] at this;cases this;exact .inr ⟨xs,z⟩
theorem C5z {F G:Addr->Prop}{H:Hp}(f:∀b xs,H b=some (.tup xs)->F b):∀{ws:List Wy}{us:List V},B4 G H us (ws.map N9)->B4 F H us (ws.map N9)
 | [],_,h=>by cases h;exact .nil
 | w::ws,_,h=>by
  cases h with
  | cons x r=>exact .cons (B0e x (λJ J e=>e) f) (C5z f r)
theorem D9z {F G:Addr->Prop}{H:Hp}{v:V}{m:Nat}{ws:List Wy}(t:ThV G H v (J0 m ws))(f:∀b xs,H b=some (.tup xs)->F b)(fl:∀b xs,G b->TL H v b->H b=some (.lst xs)->F b):ThV F H v (J0 m ws):=by
 obtain⟨a,us,rfl,_,e,tu⟩:=Y0 t;obtain⟨v1,v2,rfl,t1,t2⟩:=X9 tu;cases t1;obtain⟨l,ul,rfl,gl,el,tl⟩:=M2 t2;exact .tup (f _ _ e) e (.cons (.int _) (.cons (.lst (fl _ _ gl (.inr ⟨a,_,rfl,e,by simp⟩) el) el (C5z f tl)) .nil))
theorem C50:FM P w mg base 9 T.bH (A0q T.aa D9u D9v):=by
 have cN:=@B29 P w K mg base T;have cO:=T.aq.b;refine T.bH.F.ok D4t (λJ H J J h=>?_) (λJ J J J H J Q J hr h=>?_)
 ·obtain⟨F,p,d,k,us,ds,rfl,_,_,tus,⟨b,rfl,_⟩,_⟩:=h;obtain⟨u1,rfl,_⟩:=A6j tus;rfl
 ·obtain⟨F,p,d,k,us,ds,rfl,hF,kp,tus,⟨b,rfl,hb,ok⟩,told⟩:=h;obtain⟨u1,rfl,tu1⟩:=A6j tus;obtain⟨ab,ub,rfl,_,eb,tub⟩:=M2 tu1;have kp0:=kp;obtain⟨⟨dx,g,l,ug,ul,e1,g1,e2,t2,g3,e3,t3⟩,kvs,e4,kv⟩:=kp;have fk:=ok.few;have s1k:=ok.s1;have lk:(D9 k.kws).length<64:=by unfold D9;rw[B6];omega
  refine⟨_,(C1 (E3 (A9 cN (hr.mono DD) rfl (T.bp.trans T.aq.m) T.aq.F.kp cO .nil A4 (A1 (pmG (pv 0) T.ac T.am (A22 T) hr) (A1 (Q5 (pv 0) rfl) (A1 (pv 1) A3 A0) O2) C0)))),?_⟩
  try dsimp only[G5,Cx.nox]
  refine⟨_,rfl,p,dx,_,rfl,e1,K7 KK,F,p,d,k,[],[],rfl,hF,kp0,.nil,⟨rfl,lk⟩,λr v k' H1 po kp1 tv fr ap=>?_⟩;obtain⟨rfl,rfl⟩:=po;have kp1':=kp1;obtain⟨⟨dx1,g',l',ug',ul',f1,gg1,f2,tt2,gg3,f3,tt3⟩,kvs',f4,kv'⟩:=kp1;have nb:=M8 kp0 eb;obtain⟨⟨dx2,g2',l2',ug2,ul2,q1,qg,q2,_,ql,q3,_⟩,_⟩:=ap.2;rw[f1] at q1;unfold kfs at q1;cases q1;have hn:=D9y kp0 kp1' fr;have fT:∀b xs,H1 b=some (.tup xs)->Q1 H b/\b≠g'/\b≠l':=λb xs e=>⟨hn.2 b xs e,(λz=>by rw[z,f2] at e;cases e),λz=>by rw[z,f3] at e;cases e⟩;have tvF:ThV (λb=>Q1 H b/\b≠g'/\b≠l') H1 v (J0 k'.m (wsF k'.kws)):=D9z tv fT λb xs gb z e=>⟨gb,(λy=>qg (by rw[<-y];exact z)),λy=>ql (by rw[<-y];exact z)⟩;refine⟨_,rfl,p,_,dx1,_,_,rfl,f1,T.ac,T.dE,B3c,_,rfl,?_⟩;refine D9s (F:=λb=>Q1 H b/\b≠g'/\b≠l') (E:=E0) ⟨λb hb=>⟨hn.1 b hb,(λz=>by rw[z,f2] at hb;cases hb),λz=>by rw[z,f3] at hb;cases hb⟩,fT⟩ (λd=>∃t,Q8 k'.m (wsF k'.kws) k'.st b t/\d=.list (C5 t)) (.cons tvF (.cons (.int _) (.cons ⟨ab,ub,C5 b,rfl,rfl,(λq hq=>nomatch hq),fr _ _ eb nb.1 nb.2,M4 tub⟩ .nil))) ⟨k'.m,wsF k'.kws,k'.st,b,rfl,ok.land,ok.s0,OO,hb,λt a J=>⟨t,a,rfl⟩⟩ λd2 v2 H2 hd2 tv2 s2=>?_;obtain⟨t,ht,rfl⟩:=hd2;have kp2:=kp1'.same s2;have fr2:Frp p d H H2:=λb o e n1 n2=>s2 _ _ (fr _ _ e n1 n2);obtain⟨l2,u2,rfl,gl2,el2,tu2⟩:=M2 tv2;have tln:∀b xs,TL H2 (.ref l2) b->H2 b=some (.lst xs)->b=l2:=λb xs z e=>by
   rcases z with z | ⟨a,ys,z,z2,_⟩
   ·cases z;rfl
   ·cases z;rw[el2] at z2;cases z2
  refine told _ _ k' _ ⟨rfl,b,t,rfl,ht,rfl⟩ kp2 (.lst gl2.1 el2 (M4 tu2)) fr2 ⟨(λa x y e1 e2=>by cases e1;rw[el2] at e2;cases e2),?_⟩;exact⟨⟨dx1,g',l',ug',ul',s2 _ _ f1,(λz=>gl2.2.1 (tln _ _ z (s2 _ _ f2)).symm),s2 _ _ f2,M4 tt2,(λz=>gl2.2.2 (tln _ _ z (s2 _ _ f3)).symm),s2 _ _ f3,M4 tt3⟩,kvs',s2 _ _ f4,kv'.mv λb xs e=>s2 _ _ e⟩
theorem C51:FM P w mg base 11 T.aJ (D9t T.aa D9w D9x):=by
 have iq:=@D9f P w K mg base T;have ir:=T.bC.b;refine T.aJ.F.ok D4u (λJ H J J h=>?_) (λJ J J J H J Q J hr h=>?_)
 ·obtain⟨F,p,d,k,us,ds,rfl,_,_,tus,⟨b,g,rfl,_⟩,_⟩:=h;obtain⟨u1,u2,rfl,_,_⟩:=X9 tus;rfl
 ·obtain⟨F,p,d,k,us,ds,rfl,hF,kp,tus,⟨b,g,rfl,hb,hg,ok⟩,told⟩:=h;obtain⟨u1,u2,rfl,tu1,tu2⟩:=X9 tus;have kp0:=kp;obtain⟨⟨dx,gg,l,ug,ul,e1,g1,e2,t2,g3,e3,t3⟩,kvs,e4,kv⟩:=kp;have fk:=ok.few;have lk:(D9 k.kws).length<64:=by unfold D9;rw[B6];omega
  refine⟨_,(C1 (E3 (A9 iq (hr.mono DD) rfl (T.du.trans T.bC.m) T.bC.F.kp ir .nil A4 (A1 (pmG (pv 0) T.ac T.am (A22 T) hr) (A1 (pv 1) (A1 (pv 2) A3 A0) A0) C0)))),?_⟩
  try dsimp only[G5,Cx.nox]
  refine⟨_,rfl,p,dx,_,rfl,e1,K7 KK,F,p,d,k,[],[],rfl,hF,kp0,.nil,⟨rfl,lk⟩,λr v k' H1 po kp1 tv fr J=>?_⟩;obtain⟨rfl,rfl⟩:=po;have sp1:∀{u:V}{c:Sp2},ThV TT0 H u (O9 c)->ThV TT0 H1 u (O9 c):=λ{u c} tc=>by
   obtain⟨a,us,rfl,_,e,tu⟩:=Y0 (show ThV TT0 H u (.tuple ([((c.1:Nat):Int),c.2].map PyData.int)) from tc);exact .tup trivial (fr _ _ e (P3 kp0 e).1 (P3 kp0 e).2) (B8x tu)
  refine⟨_,rfl,_,rfl,V1 (E:=E0) (λd=>∃o,A6l k'.m (wsF k'.kws) b g o/\d=oD o) (.cons tv.any (.cons (sp1 tu1) (.cons (sp1 tu2) .nil))) ⟨k'.m,wsF k'.kws,b,g,rfl,ok.land,hb.1,hg.1,hb.2.1,hb.2.2,hg.2.1,hg.2.2,λM hM=>⟨λhn=>⟨none,⟨M,hM,.inl ⟨rfl,hn⟩⟩,rfl⟩,λS a1 a2 a3 a4=>⟨some S,⟨M,hM,.inr ⟨S,rfl,a1,a2,a3,a4⟩⟩,rfl⟩⟩⟩ λd2 v2 H2 hd2 tv2 s2=>?_⟩;obtain⟨o,ho,rfl⟩:=hd2;exact told _ _ _ ⟨b,g,o,rfl,ho,rfl⟩ (kp1.same s2) tv2 λb o e n1 n2=>s2 _ _ (fr _ _ e n1 n2)
def oV:Option Int->V
 | none=>.non
 | some n=>.int n
theorem D90 {F:Addr->Prop}{H:Hp}:∀o:Option Int,ThV F H (oV o) (oD o)
 | none=>.non
 | some n=>.int n
theorem A1h {F:Addr->Prop}{H:Hp}:∀t:Tb,B4 F H (t.map oV) (C5 t)
 | []=>.nil
 | o::t=>.cons (D90 o) (A1h t)
theorem A4h {F:Addr->Prop}{H:Hp}:∀{t:Tb}{us:List V},B4 F H us (C5 t)->us=t.map oV
 | [],_,h=>by cases h;rfl
 | o::t,_,h=>by
  cases h with
  | cons x r=>
   rw[A4h r,K9];cases o with
   | none=>cases x;rfl
   | some n=>cases x;rfl
theorem B0k:∀{a b:Tb},C5 a=C5 b->a=b
 | [],[],_=>rfl
 | [],_::_,h=>by cases h
 | _::_,[],h=>by cases h
 | x::a,y::b,h=>by
  injection h with h1 h2
  have e:x=y:=by
   cases x with
   | none=>cases y with
    | none=>rfl
    | some _=>cases h1
   | some u=>cases y with
    | none=>cases h1
    | some v=>cases h1;rfl
  rw[e,B0k h2]
theorem C52 {x x':Int}{w w':Wy}(h:K3.args (.lay x w)=K3.args (.lay x' w')):x=x'/\w=w':=by
 obtain⟨a,b,c⟩:=w;obtain⟨a',b',c'⟩:=w';injection h with h1 h
 injection h with h2 h
 injection h with h3 h
 injection h with h4 h
 have h1:=PyData.int.inj h1;have h2:((a:Nat):Int)=((a':Nat):Int):=PyData.int.inj h2;have h3:((b:Nat):Int)=((b':Nat):Int):=PyData.int.inj h3;have h4:c=c':=PyData.int.inj h4;have h2:a=a':=by omega
 have h3:b=b':=by omega
 exact⟨h1,by rw[h2,h3,h4]⟩
def K3.os:K3->List (Option Int)
 | .lay x w=>[some x,some ((w.1:Nat):Int),some ((w.2.1:Nat):Int),some w.2.2]
 | .lift x=>[some x]
 | .turn x c=>[some x,some c]
 | .refill s=>[some s]
 | .aim g=>g
def D91 (k:Kst)(dd:K3)(k':Kst)(t:Str):Prop:=∃b,V2 (G9 k dd).m (G9 k dd).st (G9 k dd).g (G9 k dd).kws b/\k'={ G9 k dd with low:=b }/\t=mvW (Y6 b k.low) (Y6 k.low b)
def A0u (C:Addr)(pre:Kst->List (Option Int)->Prop)(post:Kst->List (Option Int)->Kst->Str->Prop):Sp:=λvs H Q J=>∃(F:Addr->Prop)(p d l:Addr)(k:Kst)(os:List (Option Int)),vs=[.ref p,.ref l]/\(∀b,H b=none->F b)/\E7 F C H p d k/\H l=some (.lst (os.map oV))/\pre k os/\
 ∀k' t H',post k os k' t->E7 F C H' p d k'->(∀b o,H b=some o->b≠p->b≠d->H' b=some o)->Q (.str t) H'
def A1i (D:K3->Prop)(k:Kst)(os:List (Option Int)):Prop:=∃dd,D dd/\os=dd.os/\KOk k.m k.st k.g k.kws/\V2 k.m k.st k.g k.kws k.low/\A39 k dd
def Z7 (D:K3->Prop)(k:Kst)(os:List (Option Int))(k':Kst)(t:Str):Prop:=∃dd,D dd/\os=dd.os/\D91 k dd k' t
theorem A8o {t o:Tb}(h:t.length<=12):(∀n∈Y6 t o,n<12)/\(Y6 t o).length<=12:=by
 constructor
 ·intro n hn;have:=A0x.mp (B0n.mp hn).1;omega
 ·have:=B9v (λp=>!A8j (gt o p) (gt t p)) (T5 t.length);rw[w4] at this;exact J1 this h
theorem B0l {F:Addr->Prop}{C:Addr}{H H1:Hp}{p d:Addr}{k k1 k':Kst}{v:V}{r:PyData}{Q:VK}{post:Kst->Str->Prop}(hm:k1.m<=12)(l0:k.low.length=k1.m)(mo:B3f k1 k.low r k')(kp:E7 F C H1 p d k')(tv:ThV TT0 H1 v r)(fr:∀b o,H b=some o->b≠p->b≠d->H1 b=some o)
  (hp:∀b,V2 k1.m k1.st k1.g k1.kws b->k'={ k1 with low:=b }->post k' (mvW (Y6 b k.low) (Y6 k.low b))) (told:∀t H',post k' t->E7 F C H' p d k'->(∀b o,H b=some o->b≠p->b≠d->H' b=some o)->Q (.str t) H'):B8m [v] H1 Q E0:=by
 obtain⟨b,lr,rfl,rfl⟩:=mo;have lb:=lr.tab.len;obtain⟨a1,a2⟩:=A8o (t:=b) (o:=k.low) (OO);obtain⟨b1,b2⟩:=A8o (t:=k.low) (o:=b) (OO);exact⟨v,_,_,rfl,tv,a1,b1,a2,b2,λH' s=>told _ H' (hp b lr rfl) (kp.same s) λb' o e n1 n2=>s _ _ (fr b' o e n1 n2)⟩
theorem D92:FK P w base 12 T.dJ (A0u T.aa (A1i A4a) (Z7 A4a)):=by
 refine T.dJ.F.ok D46 (λJ H J J h=>?_) (λJ J J J H J Q J hr h=>?_)
 ·obtain⟨F,p,d,l,k,os,rfl,_⟩:=h;rfl
 ·obtain⟨F,p,d,l,k,os,rfl,hF,kp,el,⟨dd,⟨x,w0,rfl⟩,rfl,ok,lr,dok⟩,told⟩:=h;have kp0:=kp;obtain⟨⟨dx,g,l1,ug,ul,e1,g1,e2,t2,g3,e3,t3⟩,kvs,e4,kv⟩:=kp;refine⟨_,(C1 (E3 (pcF T.ah (A98 T) hr (A1 (pmF (pv 0) T.ac T.dr (C5i T) hr (A1 (C7 F1 (pv 1) A7) (A1 (C7 F1 (pv 1) A7) (A1 (C7 F1 (pv 1) A7) (A1 (C7 F1 (pv 1) A7) A3 B0) B0) B0) B0) (hst:=B0)) A3 C0)))),?_⟩
  try dsimp only[G5,Cx.nox]
  refine⟨_,rfl,p,dx,_,rfl,e1,K7 KK,_,rfl,l,_,0,_,rfl,rfl,SqL.of el,rfl,_,rfl,l,_,1,_,rfl,rfl,SqL.of el,rfl,_,rfl,l,_,2,_,rfl,rfl,SqL.of el,rfl,_,rfl,l,_,3,_,rfl,rfl,SqL.of el,rfl,F,p,d,k,_,_,rfl,hF,kp0,.cons (.int _) (.cons (.int _) (.cons (.int _) (.cons (.int _) .nil))),⟨_,⟨_,_,rfl⟩,rfl,ok,lr.tab.len,dok⟩,λr v k' H1 po kp1 tv fr ap=>?_⟩;obtain⟨_,⟨x',w0',rfl⟩,e0,mo⟩:=po;obtain⟨rfl,rfl⟩:=C52 e0;exact B0l (post:=λk' t=>Z7 A4a k _ k' t) (show (G9 k (.lay x w0)).m<=12 from ok.m2) lr.tab.len mo kp1 tv.any fr (λb hb e=>⟨_,⟨_,_,rfl⟩,rfl,b,hb,e,rfl⟩) λt H' po kp' fr'=>told _ t H' po kp' fr'
theorem D93:FK P w base 12 T.cU (A0u T.aa (A1i A4b) (Z7 A4b)):=by
 refine T.cU.F.ok D47 (λJ H J J h=>?_) (λJ J J J H J Q J hr h=>?_)
 ·obtain⟨F,p,d,l,k,os,rfl,_⟩:=h;rfl
 ·obtain⟨F,p,d,l,k,os,rfl,hF,kp,el,⟨dd,⟨x,rfl⟩,rfl,ok,lr,dok⟩,told⟩:=h;have kp0:=kp;obtain⟨⟨dx,g,l1,ug,ul,e1,g1,e2,t2,g3,e3,t3⟩,kvs,e4,kv⟩:=kp;refine⟨_,(C1 (E3 (pcF T.ah (A98 T) hr (A1 (pmF (pv 0) T.ac T.cG (C5j T) hr (A1 (C7 F1 (pv 1) A7) A3 B0) (hst:=B0)) A3 C0)))),?_⟩
  try dsimp only[G5,Cx.nox]
  refine⟨_,rfl,p,dx,_,rfl,e1,K7 KK,_,rfl,l,_,0,_,rfl,rfl,SqL.of el,rfl,F,p,d,k,_,_,rfl,hF,kp0,.cons (.int _) .nil,⟨_,⟨_,rfl⟩,rfl,ok,lr.tab.len,dok⟩,λr v k' H1 po kp1 tv fr ap=>?_⟩;obtain⟨_,⟨x',rfl⟩,e0,mo⟩:=po;cases e0;exact B0l (post:=λk' t=>Z7 A4b k _ k' t) (show (G9 k (.lift x)).m<=12 from ok.m2) lr.tab.len mo kp1 tv.any fr (λb hb e=>⟨_,⟨_,rfl⟩,rfl,b,hb,e,rfl⟩) λt H' po kp' fr'=>told _ t H' po kp' fr'
theorem D94:FK P w base 12 T.cV (A0u T.aa (A1i A4c) (Z7 A4c)):=by
 refine T.cV.F.ok D48 (λJ H J J h=>?_) (λJ J J J H J Q J hr h=>?_)
 ·obtain⟨F,p,d,l,k,os,rfl,_⟩:=h;rfl
 ·obtain⟨F,p,d,l,k,os,rfl,hF,kp,el,⟨dd,⟨x,c,rfl⟩,rfl,ok,lr,dok⟩,told⟩:=h;have kp0:=kp;obtain⟨⟨dx,g,l1,ug,ul,e1,g1,e2,t2,g3,e3,t3⟩,kvs,e4,kv⟩:=kp;refine⟨_,(C1 (E3 (pcF T.ah (A98 T) hr (A1 (pmF (pv 0) T.ac T.cH (C5k T) hr (A1 (C7 F1 (pv 1) A7) (A1 (C7 F1 (pv 1) A7) A3 B0) B0) (hst:=B0)) A3 C0)))),?_⟩
  try dsimp only[G5,Cx.nox]
  refine⟨_,rfl,p,dx,_,rfl,e1,K7 KK,_,rfl,l,_,0,_,rfl,rfl,SqL.of el,rfl,_,rfl,l,_,1,_,rfl,rfl,SqL.of el,rfl,F,p,d,k,_,_,rfl,hF,kp0,.cons (.int _) (.cons (.int _) .nil),⟨_,⟨_,_,rfl⟩,rfl,ok,lr.tab.len,dok⟩,λr v k' H1 po kp1 tv fr ap=>?_⟩;obtain⟨_,⟨x',c',rfl⟩,e0,mo⟩:=po;cases e0;exact B0l (post:=λk' t=>Z7 A4c k _ k' t) (show (G9 k (.turn x c)).m<=12 from ok.m2) lr.tab.len mo kp1 tv.any fr (λb hb e=>⟨_,⟨_,_,rfl⟩,rfl,b,hb,e,rfl⟩) λt H' po kp' fr'=>told _ t H' po kp' fr'
theorem D95:FK P w base 12 T.cj (A0u T.aa (A1i A4d) (Z7 A4d)):=by
 refine T.cj.F.ok D49 (λJ H J J h=>?_) (λJ J J J H J Q J hr h=>?_)
 ·obtain⟨F,p,d,l,k,os,rfl,_⟩:=h;rfl
 ·obtain⟨F,p,d,l,k,os,rfl,hF,kp,el,⟨dd,⟨x,rfl⟩,rfl,ok,lr,dok⟩,told⟩:=h;have kp0:=kp;obtain⟨⟨dx,g,l1,ug,ul,e1,g1,e2,t2,g3,e3,t3⟩,kvs,e4,kv⟩:=kp;refine⟨_,(C1 (E3 (pcF T.ah (A98 T) hr (A1 (pmF (pv 0) T.ac T.bR (C5l T) hr (A1 (C7 F1 (pv 1) A7) A3 B0) (hst:=B0)) A3 C0)))),?_⟩
  try dsimp only[G5,Cx.nox]
  refine⟨_,rfl,p,dx,_,rfl,e1,K7 KK,_,rfl,l,_,0,_,rfl,rfl,SqL.of el,rfl,F,p,d,k,_,_,rfl,hF,kp0,.cons (.int _) .nil,⟨_,⟨_,rfl⟩,rfl,ok,lr.tab.len,dok⟩,λr v k' H1 po kp1 tv fr ap=>?_⟩;obtain⟨_,⟨x',rfl⟩,e0,mo⟩:=po;cases e0;exact B0l (post:=λk' t=>Z7 A4d k _ k' t) (show (G9 k (.refill x)).m<=12 from ok.m2) lr.tab.len mo kp1 tv.any fr (λb hb e=>⟨_,⟨_,rfl⟩,rfl,b,hb,e,rfl⟩) λt H' po kp' fr'=>told _ t H' po kp' fr'
theorem D97:FK P w base 12 T.dM (A0u T.aa (A1i A4e) (Z7 A4e)):=by
 refine T.dM.F.ok D5a (λJ H J J h=>?_) (λJ J J J H J Q J hr h=>?_)
 ·obtain⟨F,p,d,l,k,os,rfl,_⟩:=h;rfl
 ·obtain⟨F,p,d,l,k,os,rfl,hF,kp,el,⟨dd,⟨g0,rfl⟩,rfl,ok,lr,dok⟩,told⟩:=h;have kp0:=kp;obtain⟨⟨dx,g,l1,ug,ul,e1,g1,e2,t2,g3,e3,t3⟩,kvs,e4,kv⟩:=kp;refine⟨_,(C1 (E3 (pcF T.ah (A98 T) hr (A1 (pmF (pv 0) T.ac T.dt (C5m T) hr (A1 (pv 1) A3 A0) (hst:=A0)) A3 C0)))),?_⟩
  try dsimp only[G5,Cx.nox]
  refine⟨_,rfl,p,dx,_,rfl,e1,K7 KK,_,rfl,F,p,d,k,_,_,rfl,hF,kp0,.cons (.lst trivial el (A1h os)) .nil,⟨_,⟨_,rfl⟩,rfl,ok,lr.tab.len,dok⟩,λr v k' H1 po kp1 tv fr ap=>?_⟩;obtain⟨_,⟨g0',rfl⟩,e0,mo⟩:=po;cases B0k (PyData.list.inj (a9.inj e0).1);exact B0l (post:=λk' t=>Z7 A4e k _ k' t) (show (G9 k (.aim os)).m<=12 from ok.m2) lr.tab.len mo kp1 tv.any fr (λb hb e=>⟨_,⟨_,rfl⟩,rfl,b,hb,e,rfl⟩) λt H' po kp' fr'=>told _ t H' po kp' fr'
def tbW (t:Tb):Str:=Z6 (t.map lvW)
theorem C53:∀o:Option Int,wrT (oV o)=lvW o
 | none=>rfl
 | some _=>rfl
theorem A6m (t:Tb):Z6 ((t.map oV).map wrT)=tbW t:=by
 unfold tbW;rw[N6];congr 1;exact B0z λo J=>C53 o
theorem A4i {m:Nat}{st:Int}{t:Tb}(h:F9 m st t)(h1:st<=100000000000000000000):∀u∈t.map oV,A8g u:=by
 intro u hu;obtain⟨o,ho,rfl⟩:=M9.mp hu;cases o with
 | none=>trivial
 | some n=>obtain⟨p,hp⟩:=C7j ho;have:=h.bd p n (by unfold gt;rw[hp];rfl);show n.natAbs<10^60;exact A0i (show n.natAbs<=100000000000000000000 by omega) (DD)
def C54 (kws:Kw):Str:=Z6 (("ways" : Str)::(srt (D9 kws)).map λx=>A2y x ((((K8 kws x).getD (0,0,0)).1:Nat):Int) ((((K8 kws x).getD (0,0,0)).2.1:Nat):Int) ((K8 kws x).getD (0,0,0)).2.2)
def B3j (k:Kst)(os:List (Option Int)):Prop:=os=[]/\KOk k.m k.st k.g k.kws/\V2 k.m k.st k.g k.kws k.low
def C55 (k:Kst)(_:List (Option Int))(k':Kst)(t:Str):Prop:=k'=k/\t=tbW k.low
def C56 (k:Kst)(_:List (Option Int))(k':Kst)(t:Str):Prop:=k'=k/\t=C54 k.kws
theorem D98 {K:A8}{a0:Addr}{xs:List V}{nn j:Nat}{σ:Lake.St}{te:CA->TE}{H1:Hp}{Q:List V->Hp->Prop}(ws:List Str)(hl:xs.length=ws.length)(hz:xs.length<sizeLine)(hk:∀H,Same H1 H->SqL K H a0 xs)
  (hs:∀(i:Nat)(x:V)(w:Str),xs[i]?=some x->ws[i]?=some w->∀H,Same H1 H->∀(a:CA)(R:V->Hp->Prop),(∀H',Same H H'->R (.str w) H')->te a ((S4 nn j σ).set j (some x)) H R)
  (hd:∀H,Same H1 H->Q (ws.map V.str) H):A3j σ nn j (λJ=>o8) te (Itl K a0) H1 Q:=by
 refine A7d (λi ys Hn=>Same H1 Hn/\ys=(ws.take i).map V.str) hz ⟨λJ J z=>z,rfl⟩ ?_ ?_ ?_
 ·rintro i ys Hn _ ⟨s,rfl⟩;exact⟨by rw[B6,Z9];exact B9y _ _,hk _ s⟩
 ·rintro i x ys Hn hx ⟨s,rfl⟩ ca;obtain⟨hi,_⟩:=A0h.mp hx;obtain⟨w,hw⟩:∃w,ws[i]?=some w:=⟨_,P7 OO⟩;unfold o8;refine G4 (hs i x w hx hw Hn s ca _ λH' s'=>⟨s.tr s',?_⟩);rw[A27,hw,Q3];rfl
 ·rintro ys Hn ⟨s,rfl⟩;rw[hl,A4r];exact hd Hn s
theorem C57 {x a b c:Int}(hx:x.natAbs<10^60)(ha:a.natAbs<10^60)(hb:b.natAbs<10^60)(hc:c.natAbs<10^60):(A2y x a b c).length<=400:=by
 have l0:Str.length Str.empty=0:=rfl;have l1:Str.length (Str.ofString ":")=1:=by decide
 have l2:Str.length (Str.ofString ">")=1:=by decide
 have l3:=W3 hx;have l4:=W3 ha;have l5:=W3 hb;have l6:=W3 hc;unfold A2y;simp only[A8h,l0,l1,l2];omega
theorem B3k {m:Nat}{st:Int}{g:Tb}{kws:Kw}(ok:KOk m st g kws){x:Int}(hx:x∈D9 kws):∃w,K8 kws x=some w/\x.natAbs<10^60/\((w.1:Nat):Int).natAbs<10^60/\((w.2.1:Nat):Int).natAbs<10^60/\w.2.2.natAbs<10^60:=by
 obtain⟨w,hw⟩:=A6h hx;obtain⟨⟨a,b⟩,c⟩:=ok.way _ (A8k hw);have h1:w.1<m:=c.st;have h2:w.2.1<m:=c.en;have h3:-∅<=w.2.2:=c.lo;have h4:w.2.2<=∅:=c.hi;have h5:=ok.m2;have key:∀{n:Int},n.natAbs<=∅->n.natAbs<10^60:=λh=>A0i h (DD);exact⟨w,hw,key OO,key OO,key OO,key OO⟩
theorem D99:FK P w base 3 T.aN (A0u T.aa B3j C55):=by
 refine T.aN.F.ok D5b (λJ H J J h=>?_) (λJ J J J H J Q J hr h=>?_)
 ·obtain⟨F,p,d,l,k,os,rfl,_⟩:=h;rfl
 ·obtain⟨F,p,d,l,k,os,rfl,hF,kp,el,⟨rfl,ok,lr⟩,told⟩:=h;have kp0:=kp;obtain⟨⟨dx,g,l1,ug,ul,e1,g1,e2,t2,g3,e3,t3⟩,kvs,e4,kv⟩:=kp;refine⟨_,(C1 (E3 (pcF T.ay (B8o T) hr (A1 (pmG (pv 0) T.ac T.bG (B8z T) hr) A3 C0)))),?_⟩
  try dsimp only[G5,Cx.nox]
  refine⟨_,rfl,p,dx,_,rfl,e1,K7 KK,F,p,d,k,[],[],rfl,hF,kp0,.nil,rfl,λr v k' H1 po kp1 tv fr ap=>?_⟩;obtain⟨rfl,rfl⟩:=po;obtain⟨l2,u2,rfl,_,el2,tu⟩:=M2 tv;cases A4h tu;have tb:=lr.tab;have ll:=tb.len;refine⟨l2,_,rfl,el2,A4i tb ok.s1,by rw[B6];have:=ok.m2;omega,λH' s'=>told _ _ H' ⟨rfl,A6m _⟩ (kp1.same s') λb o e n1 n2=>s' _ _ (fr _ _ e n1 n2)⟩
theorem E0a:FK P w base 3 T.aX (A0u T.aa B3j C56):=by
 refine T.aX.F.ok D5d (λJ H J J h=>?_) (λJ J J s H J Q J hr h=>?_)
 ·obtain⟨F,p,d,l,k,os,rfl,_⟩:=h;rfl
 ·obtain⟨F,p,d,l,k,os,rfl,hF,kp,el,⟨rfl,ok,lr⟩,told⟩:=h;have kp0:=kp;obtain⟨⟨dx,g,l1,ug,ul,e1,g1,e2,t2,g3,e3,t3⟩,kvs,e4,kv⟩:=kp;have fk:=ok.few;have lk:(D9 k.kws).length<64:=by unfold D9;rw[B6];omega
  refine⟨_,(C1 (E3 (pcF T.be (B8n T) hr (A1 (F0 A1s (U6 (A1 F6 A3 E6)) (S1 (M7.new (N:=["keeper","values"]) (osc:=B1 B2q) KK) rfl (W7 (pmG (pv 0) T.ac T.cI (C5y T) hr)) (λJ=>W8) (λJ=>(pcF T.cx (D6i T) hr (A1 (pv 2) A3 A0))))) A3 E9)))),?_⟩
  try dsimp only[G5,Cx.nox]
  refine⟨SZ (n:=1),λp1 n1=>?_⟩;have s1:=Same.upd (o:=.lst [V.str (Str.ofString "ways")]) n1;have e5:upd H p1 (.lst [V.str (Str.ofString "ways")]) p1=some (.lst [V.str (Str.ofString "ways")]):=B3;obtain⟨H1,hH1⟩:∃H1,H1=upd H p1 (.lst [V.str (Str.ofString "ways")]):=⟨_,rfl⟩;rw[<-hH1] at s1 e5 ⊢;refine⟨_,rfl,p,dx,_,rfl,s1 _ _ e1,K7 KK,F,p,d,k,[],[],rfl,(λb hb=>hF b (s1.early hb)),kp0.same s1,.nil,⟨rfl,lk⟩,λr v k' H2 po kp2 tv fr ap=>?_⟩;obtain⟨rfl,rfl⟩:=po;obtain⟨l2,u2,rfl,_,el2,tu⟩:=M2 tv;have tl:=tu.len;have fr1:=fr _ _ e5 (M8 (kp0.same s1) e5).1 (M8 (kp0.same s1) e5).2;refine⟨l2,rfl,⟨_,SqL.of el2⟩,?_⟩;have hsl:(srt (D9 k'.kws)).length<64:=by rw[(i8 _).length_eq];exact lk
  refine D98 ((srt (D9 k'.kws)).map λx=>A2y x ((((K8 k'.kws x).getD (0,0,0)).1:Nat):Int) ((((K8 k'.kws x).getD (0,0,0)).2.1:Nat):Int) ((K8 k'.kws x).getD (0,0,0)).2.2) (by rw[tl,B6];unfold A0s;rw[B6]) (by rw[tl];unfold A0s;rw[B6,sizeLine_eq];omega) (λHx s=>SqL.of (s _ _ el2)) (λi x w hx hw Hx s ca R hR=>?_) λH3 s3 p2 n2=>?_
  ·rw[P6] at hw;obtain⟨y,hy,rfl⟩:=A28.mp hw;obtain⟨dd,hdd,tx⟩:=B26 tu hx;unfold A0s at hdd;rw[P6,hy] at hdd;cases hdd;obtain⟨w0,hw0,b1,b2,b3,b4⟩:=B3k ok ((i8 _).mem_iff.mp (R6 hy));dsimp only at tx hR;rw[hw0] at tx hR;obtain⟨a,us,rfl,_,ea,tus⟩:=Y0 tx;obtain⟨v1,v2,v3,v4,rfl,t1,t2,t3,t4⟩:=B81 tus;cases t1;cases t2;cases t3;cases t4;exact⟨_,rfl,a,_,_,_,_,rfl,s _ _ ea,b1,b2,b3,b4,hR⟩
  have k3:=s3.tr (Same.upd (o:=.lst (((srt (D9 k'.kws)).map λx=>A2y x ((((K8 k'.kws x).getD (0,0,0)).1:Nat):Int) ((((K8 k'.kws x).getD (0,0,0)).2.1:Nat):Int) ((K8 k'.kws x).getD (0,0,0)).2.2).map V.str)) n2);refine⟨p1,p2,_,_,rfl,rfl,k3 _ _ fr1,B3,J1 (by simp;omega) (show 100<=sizeLine by rw[sizeLine_eq];decide),λp3 n3=>?_⟩;refine⟨p3,("ways" : Str)::(srt (D9 k'.kws)).map λx=>A2y x ((((K8 k'.kws x).getD (0,0,0)).1:Nat):Int) ((((K8 k'.kws x).getD (0,0,0)).2.1:Nat):Int) ((K8 k'.kws x).getD (0,0,0)).2.2,rfl,B3,λw hw=>?_,by simp;omega,λH' s'=>?_⟩
  ·rcases G1.mp hw with rfl | hw
   ·decide
   ·obtain⟨x,hx,rfl⟩:=M9.mp hw;obtain⟨w0,hw0,b1,b2,b3,b4⟩:=B3k ok ((i8 _).mem_iff.mp hx);rw[hw0];exact C57 b1 b2 b3 b4
  ·have sA:=k3.tr ((Same.upd n3).tr s');exact told _ _ H' ⟨rfl,rfl⟩ (kp2.same sA) λb o e m1 m2=>sA _ _ (fr _ _ (s1 _ _ e) m1 m2)
def E0b (C:Addr):Sp:=λvs H Q J=>∃(F:Addr->Prop)(p d l:Addr)(k:Kst)(os:Tb),vs=[.ref p,.ref l]/\(∀b,H b=none->F b)/\E7 F C H p d k/\H l=some (.lst (os.map oV))/\KOk k.m k.st k.g k.kws/\F9 k.m k.st os/\∀H',E7 F C H' p d k->Frp p d H H'->Q (.ref l) H'
theorem C58:FK P w base 4 T.bM (E0b T.aa):=by
 refine T.bM.F.ok D44 (λJ H J J h=>?_) (λJ J J J H J Q J hr h=>?_)
 ·obtain⟨F,p,d,l,k,os,rfl,_⟩:=h;rfl
 ·obtain⟨F,p,d,l,k,os,rfl,hF,kp,el,ok,tb,told⟩:=h;have kp0:=kp;obtain⟨⟨dx,g,l1,ug,ul,e1,g1,e2,t2,g3,e3,t3⟩,kvs,e4,kv⟩:=kp;have fk:=ok.few;have lk:(D9 k.kws).length<64:=by unfold D9;rw[B6];omega
  refine⟨_,(B5 (K5 (J6 (T0 (U4 (pcF T.au (B3e T) hr (A1 (C7 U7 (pmG (pv 0) T.ac T.am (A22 T) hr) (cII T.g_MANY)) (A1 (pmG (pv 0) T.ac T.aI (B3i T) hr) (A1 (pv 1) A3 A0) C0) B0))))
   (C1 W9)
   K2))
   (C1 (E3 (pv 1)))),?_⟩
  try dsimp only[G5,Cx.nox]
  refine⟨fun σ' H'=>σ'=[some (.ref p),some (.ref l)]/\E7 F T.aa H' p d k/\Frp p d H H',?_,?_⟩
  ·refine⟨_,rfl,p,dx,_,rfl,e1,K7 KK,F,p,d,k,[],[],rfl,hF,kp0,.nil,⟨rfl,lk⟩,λr v k1 H1 po kp1 tv fr ap=>?_⟩;obtain⟨rfl,rfl⟩:=po;obtain⟨a,us,rfl,_,ea,tu⟩:=Y0 tv;obtain⟨v1,v2,rfl,t1,t2⟩:=X9 tu;cases t1;have kp1':=kp1;obtain⟨⟨dx1,g',l',ug',ul',f1,_⟩,_⟩:=kp1;refine⟨a,_,_,_,rfl,rfl,SqT.of ea,rfl,_,rfl,p,dx1,_,rfl,f1,K7 KK,F,p,d,k1,[],[],rfl,(λb hb=>hF b (A0t kp1' fr hb)),kp1',.nil,rfl,λr v k2 H2 po kp2 tv2 fr2 ap2=>?_⟩;obtain⟨rfl,rfl⟩:=po;cases tv2;have nl:=M8 kp0 el;have el2:=fr2 _ _ (fr _ _ el nl.1 nl.2) nl.1 nl.2;have m2:=ok.m2;refine⟨_,rfl,V1 (E:=E0) (λd=>d=.bool true) (.cons (.int _) (.cons (.int _) (.cons (.lst trivial el2 (A1h os)) .nil))) ⟨os,k2.m,k2.st,rfl,OO,tb,rfl⟩ λd' v1 H3 hd t5 s3=>?_⟩;subst hd;cases t5;exact⟨_,rfl,E4 ⟨rfl,kp2.same s3,λb o e n1 n2=>s3 _ _ (fr2 _ _ (fr _ _ e n1 n2) n1 n2)⟩⟩
  ·rintro σ' H' ⟨rfl,kp',fr'⟩;exact⟨_,rfl,told H' kp' fr'⟩
def C59 (k:Kst)(os:List (Option Int)):Prop:=KOk k.m k.st k.g k.kws/\F9 k.m k.st os
def C6a (k:Kst)(os:List (Option Int))(k':Kst)(t:Str):Prop:=k'=k/\∃t0,Q8 k.m (wsF k.kws) k.st os t0/\t=tbW t0
theorem E0c:FK P w base 10 T.az (A0u T.aa C59 C6a):=by
 refine T.az.F.ok D5c (λJ H J J h=>?_) (λJ J J J H J Q J hr h=>?_)
 ·obtain⟨F,p,d,l,k,os,rfl,_⟩:=h;rfl
 ·obtain⟨F,p,d,l,k,os,rfl,hF,kp,el,⟨ok,tb⟩,told⟩:=h;have kp0:=kp;obtain⟨⟨dx,g,l1,ug,ul,e1,g1,e2,t2,g3,e3,t3⟩,kvs,e4,kv⟩:=kp;have nl:=M8 kp0 el;refine⟨_,(C1 (E3 (pcF T.ay (B8o T) hr (A1 (pmF (pv 0) T.ac T.bH (C50 T) hr (A1 (pcF T.bM (C58 T) hr (A1 (pv 0) (A1 (pv 1) A3 A0) A0)) A3 C0) (hst:=C0)) A3 C0)))),?_⟩
  try dsimp only[G5,Cx.nox]
  refine⟨_,rfl,p,dx,_,rfl,e1,K7 KK,_,rfl,_,rfl,F,p,d,l,k,os,rfl,hF,kp0,el,ok,tb,λH1 kp1 fr=>?_⟩;have el1:=fr _ _ el nl.1 nl.2;refine⟨F,p,d,k,_,_,rfl,(λb hb=>hF b (A0t kp1 fr hb)),kp1,.cons (.lst trivial el1 (A1h os)) .nil,⟨os,rfl,tb,ok⟩,λr v k2 H2 po kp2 tv fr2 ap=>?_⟩;obtain⟨rfl,b0,t0,hb0,ht,rfl⟩:=po;cases B0k (PyData.list.inj (a9.inj hb0).1);obtain⟨l2,u2,rfl,_,el2,tu⟩:=M2 tv;cases A4h tu;have m2:=ok.m2;have tl:=ht.tab.len;refine⟨l2,_,rfl,el2,A4i ht.tab ok.s1,by rw[B6];omega,λH' s'=>told _ _ H' ⟨rfl,t0,ht,A6m _⟩ (kp2.same s') λb o e n1 n2=>s' _ _ (fr2 _ _ (fr _ _ e n1 n2) n1 n2)⟩
def C6b (k:Kst)(os:List (Option Int)):Prop:=KOk k.m k.st k.g k.kws/\F9 k.m k.st os/\F9 k.m ∅ os
def ovW:OV->Str
 | .no=> "-"
 | .any=> "any"
 | .num x=>itx x
def ovV:OV->V
 | .no=>.non
 | .any=>.str "any"
 | .num x=>.int x
theorem C6c:∀o:OV,wrT (ovV o)=ovW o
 | .no=>rfl
 | .any=>rfl
 | .num _=>rfl
theorem B86 {F:Addr->Prop}{H:Hp}:∀{t:List OV}{us:List V},B4 F H us (t.map ovD)->us=t.map ovV
 | [],_,h=>by cases h;rfl
 | o::t,_,h=>by
  cases h with
  | cons x r=>
   rw[B86 r,K9];cases o with
   | no=>cases x;rfl
   | any=>cases x;rfl
   | num n=>cases x;rfl
theorem C6d {m:Nat}{ws:List Wy}{b t:Tb}{G M:Int}(o:Opn m ws b G M t)(hG:G<=∅)(ok:K0 m ws):∀u∈(t.map λo=>opV (G+mtI m M) o).map ovV,A8g u:=by
 intro u hu;rw[N6] at hu;obtain⟨q,hq,rfl⟩:=M9.mp hu;have m1:=(B0j ok o.hM).2;have m0:=(B0j ok o.hM).1;have g0:=o.g0;cases q with
 | none=>trivial
 | some n=>
  obtain⟨p,hp⟩:=C7j hq;have:=o.ht.tab.bd p n (by unfold gt;rw[hp];rfl);show A8g (ovV (opV (G+mtI m M) (some n)));by_cases c:G+mtI m M<n
  ·rw[D9j c];show Str.length "any" <=60;decide
  ·rw[D9k c];show n.natAbs<10^60;exact A0i (show n.natAbs<=100000000000000000000 by omega) (DD)
def A8p (m:Nat)(ws:List Wy)(b:Tb)(vs:List OV):Prop:=∃G M t0,A23 b G/\Opn m ws b G M t0/\vs=t0.map λo=>opV (G+mtI m M) o
def C6e (k:Kst)(os:List (Option Int))(k':Kst)(t:Str):Prop:=k'=k/\∃vs,A8p k.m (wsF k.kws) os vs/\t=Z6 (vs.map ovW)
theorem E0d:FK P w base 10 T.bj (A0u T.aa C6b C6e):=by
 refine T.bj.F.ok C38 (λvs H J J h=>?_) (λJ J J J H vs Q J hr h=>?_)
 ·obtain⟨F,p,d,l,k,os,rfl,_⟩:=h;rfl
 ·obtain⟨F,p,d,l,k,os,rfl,hF,kp,el,⟨ok,tb,tb18⟩,told⟩:=h;have kp0:=kp;obtain⟨⟨dx,g,l1,ug,ul,e1,g1,e2,t2,g3,e3,t3⟩,kvs,e4,kv⟩:=kp;have nl:=M8 kp0 el;have fk:=ok.few;have lk:(D9 k.kws).length<64:=by unfold D9;rw[B6];omega
  refine⟨_,(B5 (pS (i:=2) C38.nd (pcF T.bM (C58 T) hr (A1 (pv 0) (A1 (pv 1) A3 A0) A0)))
   (B5 (K5 (J6 (T0 (U4 (pcF T.au (B3e T) hr (A1 (J2 Z1 rfl T.bq V9 (A1 (pv 2) A3 A0)) (A1 (F0 U5 A7 A7) (A1 (pv 2) A3 A0) E9) C0))))
   (C1 W9)
   K2))
   (C1 (E3 (pcF T.ay (B8o T) hr (A1 (pcF T.aU (C5x T) hr (A1 (pmG (pv 0) T.ac T.am (A22 T) hr) (A1 (pv 2) A3 A0) C0)) A3 C0)))))),?_⟩
  try dsimp only[G5,Cx.nox]
  refine⟨_,rfl,_,rfl,F,p,d,l,k,os,rfl,hF,kp0,el,ok,tb,λH1 kp1 fr=>?_⟩;have el1:=fr _ _ el nl.1 nl.2;dsimp only[G3,J5];have m2:=ok.m2;have tl:=tb.len;refine⟨fun σ' H'=>σ'=[some (.ref p),some (.ref l),some (.ref l)]/\Same H1 H',?_,?_⟩
  ·refine⟨_,rfl,l,_,rfl,.inl (SqL.of el1),_,_,rfl,rfl,⟨DD,DD,DD⟩,_,rfl,?_⟩;refine V1 (E:=E0) (λd=>d=.bool true) (.cons (.int _) (.cons (.int _) (.cons (.lst trivial el1 (A1h os)) .nil))) ⟨os,k.m,∅,by rw[B6,tl];rfl,OO,tb18,rfl⟩ λd' v1 H3 hd t5 s3=>?_;subst hd;cases t5;exact⟨_,rfl,E4 ⟨rfl,s3⟩⟩
  ·rintro σ' H2 ⟨rfl,s2⟩;have kp2:=kp1.same s2;have kp2':=kp2;obtain⟨⟨dx1,g',l',ug',ul',f1,_⟩,_⟩:=kp2;have fr2:Frp p d H H2:=λb o e n1 n2=>s2 _ _ (fr _ _ e n1 n2);refine⟨_,rfl,p,dx1,_,rfl,f1,K7 KK,F,p,d,k,[],[],rfl,(λb hb=>hF b (A0t kp2' fr2 hb)),kp2',.nil,⟨rfl,lk⟩,λr v k3 H3 po kp3 tv fr3 ap=>?_⟩;obtain⟨rfl,rfl⟩:=po;have el3:=fr3 _ _ (s2 _ _ el1) nl.1 nl.2;refine⟨_,rfl,V1 (E:=E0) (λd=>∃vs,A8p k3.m (wsF k3.kws) os vs/\d=.list (vs.map ovD)) (.cons tv.any (.cons (B8w (.lst trivial el3 (A1h os))) .nil)) ⟨k3.m,wsF k3.kws,os,rfl,ok.land,tb18,λG M t0 hG ho=>⟨_,⟨G,M,t0,hG,ho,rfl⟩,by rw[N6];rfl⟩⟩ λd' v1 H4 hd t5 s4=>?_⟩;obtain⟨vs,hv,rfl⟩:=hd;obtain⟨l2,u2,rfl,_,el2,tu⟩:=M2 t5;cases B86 tu;obtain⟨G,M,t0,hG,ho,rfl⟩:=id hv;refine⟨l2,_,rfl,el2,C6d ho (hG.hi tb18 DD) ok.land,by rw[B6,B6,ho.ht.tab.len];omega,λH' s'=>told _ _ H' ⟨rfl,_,hv,?_⟩ ((kp3.same s4).same s') λb o e n1 n2=>s' _ _ (s4 _ _ (fr3 _ _ (fr2 _ _ e n1 n2) n1 n2))⟩;rw[N6];congr 1;exact B0z λo J=>C6c o
def E0e (C:Addr):Sp:=λvs H Q J=>∃(F:Addr->Prop)(p d:Addr)(k:Kst)(b:Sp2)(most:Int),vs=[.ref p,.int ((b.1:Nat):Int),.int b.2,.int most]/\(∀b,H b=none->F b)/\E7 F C H p d k/\KOk k.m k.st k.g k.kws/\b.1<k.m/\0<=b.2/\b.2<=most/\
 ∀t H',H' t=some (.tup [.int ((b.1:Nat):Int),.int b.2])->E7 F C H' p d k->Frp p d H H'->Q (.ref t) H'
theorem C6f:FK P w base 4 T.aK (E0e T.aa):=by
 refine T.aK.F.ok D45 (λJ H J J h=>?_) (λJ J J s H J Q J hr h=>?_)
 ·obtain⟨F,p,d,k,b,most,rfl,_⟩:=h;rfl
 ·obtain⟨F,p,d,k,b,most,rfl,hF,kp,ok,hb,b0,b1,told⟩:=h;have kp0:=kp;obtain⟨⟨dx,g,l1,ug,ul,e1,g1,e2,t2,g3,e3,t3⟩,kvs,e4,kv⟩:=kp;have fk:=ok.few;have lk:(D9 k.kws).length<64:=by unfold D9;rw[B6];omega
  refine⟨_,(B5 (K5 (J6 (PW.pt (A3d (T0 (U4 (pcF T.av (B8k T) hr (A1 (C7 U7 (pmG (pv 0) T.ac T.am (A22 T) hr) (cII T.g_MANY)) (A1 (pv 1) A3 A0) B0)))) (A3c (T0 (U4 (pcF T.bg (C5e T) hr (A1 (pv 3) (A1 (pv 2) A3 A0) A0)))))))
   (C1 W9)
   K2))
   (C1 (E3 (o7 (A1 (pv 1) (A1 (pv 2) A3 A0) A0))))),?_⟩
  try dsimp only[G5,Cx.nox]
  refine⟨fun σ' H'=>σ'=[some (.ref p),some (.int ((b.1:Nat):Int)),some (.int b.2),some (.int most)]/\E7 F T.aa H' p d k/\Frp p d H H',?_,?_⟩
  ·refine⟨_,rfl,p,dx,_,rfl,e1,K7 KK,F,p,d,k,[],[],rfl,hF,kp0,.nil,⟨rfl,lk⟩,λr v k1 H1 po kp1 tv fr ap=>?_⟩;obtain⟨rfl,rfl⟩:=po;obtain⟨a,us,rfl,_,ea,tu⟩:=Y0 tv;obtain⟨v1,v2,rfl,t1,t2⟩:=X9 tu;cases t1;refine⟨a,_,_,_,rfl,rfl,SqT.of ea,rfl,_,rfl,?_⟩;refine V1 (E:=E0) (λd=>d=.bool true) (.cons (.int _) (.cons (.int _) .nil)) ⟨_,_,rfl,by rw[decide_eq_true (show (0:Int)<=((b.1:Nat):Int)/\((b.1:Nat):Int)<((k1.m:Nat):Int) by omega)]⟩ λd' v3 H3 hd t5 s3=>?_;subst hd;cases t5;refine⟨_,rfl,?_⟩;refine E4 ⟨_,rfl,_,rfl,V1 (E:=E0) (λd=>d=.bool true) (.cons (.int _) (.cons (.int _) .nil)) ⟨_,_,rfl,b0,b1,rfl⟩ λd' v4 H4 hd t6 s4=>?_⟩;subst hd;cases t6;exact⟨_,rfl,E4 ⟨rfl,(kp1.same s3).same s4,λb' o e n1 n2=>s4 _ _ (s3 _ _ (fr _ _ e n1 n2))⟩⟩
  ·rintro σ' H' ⟨rfl,kp',fr'⟩;refine⟨_,rfl,_,rfl,SZ (n:=2),λt ht=>?_⟩;have s:=Same.upd (o:=.tup [.int ((b.1:Nat):Int),.int b.2]) ht;exact told t _ B3 (kp'.same s) λb' o e n1 n2=>s _ _ (fr' _ _ e n1 n2)
theorem B3l {a b:Sp2}(h:O9 a=O9 b):a=b:=by
 obtain⟨x,y⟩:=a;obtain⟨x',y'⟩:=b;have h:=PyData.tuple.inj h;obtain⟨h1,h⟩:=a9.inj h;have h2:=PyData.int.inj (a9.inj h).1;have h1:((x:Nat):Int)=((x':Nat):Int):=PyData.int.inj h1;rw[show x=x' by omega,show y=y' from h2]
theorem C6g {m:Nat}{ws:List Wy}{b g:Sp2}{n:Int}(ok:K0 m ws)(ob:A17 m b)(og:A17 m g)(h:A6l m ws b g (some n)):n.natAbs<10^60:=by
 obtain⟨M,hM,h⟩:=h;rcases h with ⟨z,_⟩ | ⟨S,e,s0,s1,_⟩
 ·cases z
 ·cases e;have:=B0j ok hM;have b0:=ob.2;have g0:=og.2;have h1:0<=n:=A01 b0.1 (A01 (by unfold mxI;split <;> omega) s0);have h2:n<=100000000000000000000:=A01 s1 (by unfold mxI;split <;> omega);exact A0i (show n.natAbs<=100000000000000000000 by omega) (DD)
theorem B3m {F:Addr->Prop}{C:Addr}{H:Hp}{p d b:Addr}{k:Kst}(kp:E7 F C H p d k)(h:Q1 H b):b≠p/\b≠d:=by
 obtain⟨⟨dx,g,l,ug,ul,e1,_⟩,kvs,e4,_⟩:=kp;constructor
 ·intro z;subst z;rcases h with h | ⟨xs,h⟩ <;> rw[h] at e1 <;> cases e1
 ·intro z;subst z;rcases h with h | ⟨xs,h⟩ <;> rw[h] at e4 <;> cases e4
def lsW:Option Int->Str
 | none=> "none"
 | some n=>itx n
def C6h (k:Kst)(os:List (Option Int)):Prop:=KOk k.m k.st k.g k.kws/\∃b g:Sp2,os=[some ((b.1:Nat):Int),some b.2,some ((g.1:Nat):Int),some g.2]/\A17 k.m b/\A17 k.m g
def C6i (k:Kst)(os:List (Option Int))(k':Kst)(t:Str):Prop:=k'=k/\∃(b g:Sp2)(o:Option Int),os=[some ((b.1:Nat):Int),some b.2,some ((g.1:Nat):Int),some g.2]/\A6l k.m (wsF k.kws) b g o/\t=lsW o
theorem E0f:FK P w base 12 T.aO (A0u T.aa C6h C6i):=by
 refine T.aO.F.ok B22 (λJ H Q J h=>?_) (λJ J J J H J Q J hr h=>?_)
 ·obtain⟨F,p,d,l,k,os,rfl,_⟩:=h;rfl
 ·obtain⟨F,p,d,l,k,os,rfl,hF,kp,el,⟨ok,b,g,rfl,ob,og⟩,told⟩:=h;have kp0:=kp;have nl:=M8 kp0 el;refine⟨_,(B5 (pS (i:=2) B22.nd (pcF T.aK (C6f T) hr (A1 (pv 0) (A1 (C7 F1 (pv 1) A7) (A1 (C7 F1 (pv 1) A7) (A1 (F0 U5 A7 A7) A3 E9) B0) B0) A0)))
   (B5 (pS (i:=3) B22.nd (pcF T.aK (C6f T) hr (A1 (pv 0) (A1 (C7 F1 (pv 1) A7) (A1 (C7 F1 (pv 1) A7) (A1 (F0 U5 A7 A7) A3 E9) B0) B0) A0)))
   (B5 (pS (i:=4) B22.nd (pmF (pv 0) T.ac T.aJ (C51 T) hr (A1 (pv 2) (A1 (pv 3) A3 A0) A0) (hst:=A0)))
   (C1 (E3 (A62 (K6 m9 (pv 4) m7 (D1 _)) F6 (T2 A2h rfl T.cZ A06 (A1 (pv 4) A3 A0)))))))),?_⟩
  try dsimp only[G5,Cx.nox]
  refine⟨_,rfl,_,rfl,l,_,0,_,rfl,rfl,SqL.of el,rfl,_,rfl,l,_,1,_,rfl,rfl,SqL.of el,rfl,_,_,rfl,rfl,⟨DD,DD,DD⟩,F,p,d,k,b,_,rfl,hF,kp0,ok,ob.1,ob.2.1,A01 ob.2.2 DD,λt1 H1 et1 kp1 fr1=>?_⟩;dsimp only[G3,J5];have el1:=fr1 _ _ el nl.1 nl.2;refine⟨_,rfl,_,rfl,l,_,2,_,rfl,rfl,SqL.of el1,rfl,_,rfl,l,_,3,_,rfl,rfl,SqL.of el1,rfl,_,_,rfl,rfl,⟨DD,DD,DD⟩,F,p,d,k,g,_,rfl,(λb hb=>hF b (A0t kp1 fr1 hb)),kp1,ok,og.1,og.2.1,A01 og.2.2 DD,λt2 H2 et2 kp2 fr2=>?_⟩;dsimp only[G3,J5];have et1':=fr2 _ _ et1 (P3 kp1 et1).1 (P3 kp1 et1).2;have fr12:Frp p d H H2:=λb o e n1 n2=>fr2 _ _ (fr1 _ _ e n1 n2) n1 n2;have kp2':=kp2;obtain⟨⟨dx1,g',l',ug',ul',f1,_⟩,_⟩:=kp2;refine⟨_,rfl,p,dx1,_,rfl,f1,K7 KK,_,rfl,_,rfl,F,p,d,k,_,_,rfl,(λb hb=>hF b (A0t kp2' fr12 hb)),kp2',.cons (.tup trivial et1' (.cons (.int _) (.cons (.int _) .nil))) (.cons (.tup trivial et2 (.cons (.int _) (.cons (.int _) .nil))) .nil),⟨b,g,rfl,ob,og,ok⟩,λr v H3 po kp3 tv fr3=>?_⟩;dsimp only[G3,J5];obtain⟨b',g2,o,e,ls,rfl⟩:=po;obtain⟨eb,e⟩:=a9.inj e;have eg:=B3l (a9.inj e).1;have eb:=B3l eb;rw[<-eb,<-eg] at ls;have tl:∀t,t=lsW o->Q (.str t) H3:=λt e=>told k t H3 ⟨rfl,b,g,o,rfl,ls,e⟩ kp3 λb o e n1 n2=>fr3 _ _ (fr12 _ _ e n1 n2) n1 n2;refine⟨_,rfl,rfl,?_⟩;cases o with
  | none=>cases tv;exact⟨_,rfl,G4 (tl _ rfl)⟩
  | some n=>cases tv;exact⟨_,rfl,E4 ⟨_,rfl,n,rfl,A1b (C6g ok.land ob og ls),tl _ rfl⟩⟩
def PrS (k:Kst)(os:List (Option Int))(b g:Sp2)(most:Nat):Prop:=os=[some ((b.1:Nat):Int),some b.2,some ((g.1:Nat):Int),some g.2,some ((most:Nat):Int)]
def C6j (k:Kst)(os:List (Option Int)):Prop:=KOk k.m k.st k.g k.kws/\∃(b g:Sp2)(most:Nat),PrS k os b g most/\A17 k.m b/\A17 k.m g/\b.2<=k.st/\g.2<=k.st/\most<=200
def soW:PyData->Str
 | .tuple [.str x,.list ns,_]=>itx (ns.length:Nat)
 | _=> "not"
def C6k (k:Kst)(os:List (Option Int))(k':Kst)(t:Str):Prop:=k'=k/\∃(b g:Sp2)(most:Nat)(d:PyData),PrS k os b g most/\A8n k.m (wsF k.kws) k.st b g most d/\t=soW d
theorem E0g:FK P w base 12 T.aY (A0u T.aa C6j C6k):=by
 refine T.aY.F.ok A92 (λJ H Q J h=>?_) (λJ J J J H J Q J hr h=>?_)
 ·obtain⟨F,p,d,l,k,os,rfl,_⟩:=h;rfl
 ·obtain⟨F,p,d,l,k,os,rfl,hF,kp,el,⟨ok,b,g,most,rfl,ob,og,bs,gs,hm⟩,told⟩:=h;have kp0:=kp;obtain⟨⟨dx,g9,l1,ug,ul,e1,g1,e2,t2,g3,e3,t3⟩,kvs,e4,kv⟩:=kp;have nl:=M8 kp0 el;have fk:=ok.few;have lk:(D9 k.kws).length<64:=by unfold D9;rw[B6];omega
  refine⟨_,(B5 (pS (i:=2) A92.nd (J2 (A1q rfl) rfl T.dv A1u (A1 (pmG (pv 0) T.ac T.aI (B3i T) hr) (A1 (F0 U5 A7 A7) A3 E9) C0)))
   (B5 (pS (i:=3) A92.nd (pcF T.aK (C6f T) hr (A1 (pv 0) (A1 (C7 F1 (pv 1) A7) (A1 (C7 F1 (pv 1) A7) (A1 (pv 2) A3 A0) B0) B0) A0)))
   (B5 (pS (i:=4) A92.nd (pcF T.aK (C6f T) hr (A1 (pv 0) (A1 (C7 F1 (pv 1) A7) (A1 (C7 F1 (pv 1) A7) (A1 (pv 2) A3 A0) B0) B0) A0)))
   (B5 (K5 (J6 (T0 (B06 V6 V6 A7 (C7 F1 (pv 1) A7) (cII T.g_MOST_SOON)))
   (C1 W9)
   K2))
   (B5 (pS (i:=5) A92.nd (pcF T.bL (C5w T) hr (A1 (pmG (pv 0) T.ac T.am (A22 T) hr) (A1 (pmG (pv 0) T.ac T.aI (B3i T) hr) (A1 (pv 3) (A1 (pv 4) (A1 (C7 F1 (pv 1) A7) A3 B0) A0) A0) C0) C0)))
   (C1 (E3 (A62 (K6 Q4 (C7 U7 (pv 5) A7) F6 (D1 _)) (T2 A2h rfl T.cZ A06 (A1 (J2 Z1 rfl T.bq V9 (A1 (C7 U7 (pv 5) A7) A3 B0)) A3 C0)) F6)))))))),?_⟩
  try dsimp only[G5,Cx.nox]
  refine⟨_,rfl,p,dx,_,rfl,e1,K7 KK,F,p,d,k,[],[],rfl,hF,kp0,.nil,rfl,λr v k1 H1 po kp1 tv1 fr1 ap1=>?_⟩;obtain⟨rfl,rfl⟩:=po;cases tv1;have el1:=fr1 _ _ el nl.1 nl.2;have hb2:b.2<=(if 10^(18:Int).toNat<k1.st then 10^(18:Int).toNat else k1.st):=by
   have:=ob.2.2;split
   ·exact A01 this (DD)
   ·exact bs
  have hg2:g.2<=(if 10^(18:Int).toNat<k1.st then 10^(18:Int).toNat else k1.st):=by
   have:=og.2.2;split
   ·exact A01 this (DD)
   ·exact gs
  refine⟨_,_,rfl,rfl,⟨DD,DD,DD⟩,_,_,rfl,?_⟩;dsimp only[G3,J5];refine⟨_,rfl,_,rfl,l,_,0,_,rfl,rfl,SqL.of el1,rfl,_,rfl,l,_,1,_,rfl,rfl,SqL.of el1,rfl,_,rfl,F,p,d,k1,b,_,rfl,(λb hb=>hF b (A0t kp1 fr1 hb)),kp1,ok,ob.1,ob.2.1,hb2,λt1 H2 et1 kp2 fr2=>?_⟩;dsimp only[G3,J5];have el2:=fr2 _ _ el1 nl.1 nl.2;have fr12:Frp p d H H2:=λb o e n1 n2=>fr2 _ _ (fr1 _ _ e n1 n2) n1 n2;refine⟨_,rfl,_,rfl,l,_,2,_,rfl,rfl,SqL.of el2,rfl,_,rfl,l,_,3,_,rfl,rfl,SqL.of el2,rfl,_,rfl,F,p,d,k1,g,_,rfl,(λb hb=>hF b (A0t kp2 fr12 hb)),kp2,ok,og.1,og.2.1,hg2,λt2 H3 et2 kp3 fr3=>?_⟩;dsimp only[G3,J5];have el3:=fr3 _ _ el2 nl.1 nl.2;have fr13:Frp p d H H3:=λb o e n1 n2=>fr3 _ _ (fr12 _ _ e n1 n2) n1 n2;have et13:=fr3 _ _ et1 (P3 kp2 et1).1 (P3 kp2 et1).2;refine⟨fun σ' H'=>σ'=[some (.ref p),some (.ref l),some (.int (if 10^(18:Int).toNat<k1.st then 10^(18:Int).toNat else k1.st)),some (.ref t1),some (.ref t2),none]/\H3=H',?_,?_⟩
  ·refine⟨_,rfl,l,_,4,_,rfl,rfl,SqL.of el3,rfl,_,_,rfl,rfl,_,rfl,?_⟩;rw[decide_eq_true (show (0:Int)<=((most:Nat):Int) by omega)];refine G4 ⟨_,_,rfl,rfl,_,rfl,?_⟩;rw[decide_eq_true (show ((most:Nat):Int)<=200 by omega)];exact E4 ⟨rfl,rfl⟩
  rintro σ' _ ⟨rfl,rfl⟩;have kp3':=kp3;obtain⟨⟨dx3,g3',l3',ug3,ul3,f3,_⟩,_⟩:=kp3;refine⟨_,rfl,p,dx3,_,rfl,f3,K7 KK,F,p,d,k1,[],[],rfl,(λb hb=>hF b (A0t kp3' fr13 hb)),kp3',.nil,⟨rfl,lk⟩,λr v k4 H4 po kp4 tv4 fr4 ap4=>?_⟩;obtain⟨rfl,rfl⟩:=po;have fr14:Frp p d H H4:=λb o e n1 n2=>fr4 _ _ (fr13 _ _ e n1 n2) n1 n2;have kp4':=kp4;obtain⟨⟨dx4,g4',l4',ug4,ul4,f4,_⟩,_⟩:=kp4;refine⟨_,rfl,p,dx4,_,rfl,f4,K7 KK,F,p,d,k4,[],[],rfl,(λb hb=>hF b (A0t kp4' fr14 hb)),kp4',.nil,rfl,λr v5 k5 H5 po kp5 tv5 fr5 ap5=>?_⟩;obtain⟨rfl,rfl⟩:=po;cases tv5;have fr15:Frp p d H H5:=λb o e n1 n2=>fr5 _ _ (fr14 _ _ e n1 n2) n1 n2;have el5:=fr5 _ _ (fr4 _ _ el3 nl.1 nl.2) nl.1 nl.2;have up:∀{b:Addr}{xs:List V},H3 b=some (.tup xs)->H5 b=some (.tup xs):=λe=>fr5 _ _ (fr4 _ _ e (P3 kp3' e).1 (P3 kp3' e).2) (P3 kp3' e).1 (P3 kp3' e).2;have tv45:ThV TT0 H5 v (J0 k5.m (wsF k5.kws)):=tv4.mv λb o g e=>⟨trivial,fr5 _ _ e (B3m kp3' g).1 (B3m kp3' g).2⟩;refine⟨_,rfl,_,rfl,_,rfl,l,_,4,_,rfl,rfl,SqL.of el5,rfl,V1 (E:=E0) (λd=>A8n k5.m (wsF k5.kws) k5.st b g most d) (.cons tv45 (.cons (.int _) (.cons (.tup trivial (up et13) (.cons (.int _) (.cons (.int _) .nil))) (.cons (.tup trivial (up et2) (.cons (.int _) (.cons (.int _) .nil))) (.cons (.int _) .nil))))) ⟨k5.m,wsF k5.kws,k5.st,b,g,most,rfl,ok.land,ob.1,og.1,OO,λd hd=>hd⟩ λd6 v6 H6 hd t6 s6=>?_⟩;dsimp only[G3,J5];have tl:∀t,t=soW d6->Q (.str t) H6:=λt e=>told k5 t H6 ⟨rfl,b,g,most,d6,rfl,hd,e⟩ (kp5.same s6) λb o e n1 n2=>s6 _ _ (fr15 _ _ e n1 n2);rcases id hd with ⟨rfl,_⟩ | ⟨L,ns,lv,rfl,hL,_,_,hns,_⟩
  ·obtain⟨a6,u6,rfl,_,e6,t6⟩:=Y0 t6;obtain⟨v1,v2,rfl,x1,x2⟩:=X9 t6;cases x1;exact⟨_,rfl,a6,_,_,_,rfl,rfl,SqT.of e6,rfl,rfl,_,rfl,E4 (tl _ rfl)⟩
  ·obtain⟨a6,u6,rfl,_,e6,t6⟩:=Y0 t6;obtain⟨v1,v2,v3,rfl,x1,x2,x3⟩:=B85 t6;cases x1;obtain⟨ln,un,rfl,_,en,xn⟩:=M2 x2;refine⟨_,rfl,a6,_,_,_,rfl,rfl,SqT.of e6,rfl,rfl,_,rfl,G4 ?_⟩;have lun:un.length=ns.length:=by rw[xn.len];unfold F3;rw[B6]
   refine⟨_,rfl,a6,_,_,_,rfl,rfl,SqT.of e6,rfl,ln,_,rfl,.inl (SqL.of en),_,rfl,A1b ?_,tl _ ?_⟩
   ·rw[lun];exact A0i (show ((ns.length:Nat):Int).natAbs<=200 by omega) (DD)
   ·rw[lun];show itx (ns.length:Nat)=itx ((F3 ns).length:Nat);unfold F3;rw[B6]
def noT (m:Nat):Tb:=F2 m none
theorem C6l (m:Nat)(st:Int):F9 m st (noT m):=⟨a8,λp y e=>by
 unfold gt noT at e;rw[B9j] at e;split at e <;> cases e⟩
def E0h (C:Addr):Sp:=λvs H Q J=>∃(m:Nat)(st:Int),vs=[.int ((m:Nat):Int),.int st]/\1<=m/\m<=12/\0<=st/\st<=100000000000000000000/\
 ∀p d low H',V2 m st (noT m) [] low->H p=none->H d=none->E7 (λb=>H b=none) C H' p d ⟨m,st,noT m,[],low⟩->Same H H'->Q (.ref p) H'
def Tbl (w:Str):Bool:=decide (w = "aim")||decide (w = "highest")||decide (w = "any")
def NmB (w:Str):Option Nat:=(([("land",2),("lay",4),("lift",1),("turn",2),("refill",1),("least",0),("ways",0),("store",4),("soon",5)]:List (Str×Nat)).find? λq=>decide (q.1=w)).map (·.2)
def i9 (x:Str)(w0:Str)(os:Tb):Prop:=x.length<=1000000/\cp x=jn (w0::os.map lvW)/\32∉cp w0/\(∀n,some n∈os->n.natAbs<10^60)/\os.length<=400/\((Tbl w0=true/\os≠[])\/(Tbl w0=false/\NmB w0=some os.length/\∀o∈os,o≠none))
def E0i:Sp:=λvs H Q J=>∃x w0 os,vs=[.str x]/\i9 x w0 os/\∀l H',H l=none->H' l=some (.lst ((w0::os.map lvW).map V.str))->Same H H'->Q (.ref l) H'
def E0j:Sp:=λvs H Q J=>∃l x w0 os,vs=[.ref l]/\i9 x w0 os/\H l=some (.lst ((w0::os.map lvW).map V.str))/\∀l' H',H l'=none->H' l'=some (.lst (os.map oV))->Same H H'->Q (.ref l') H'
theorem C6m {x w0:Str}{os:Tb}(h:i9 x w0 os):Txt.split x " " = w0::os.map lvW:=by
 obtain⟨_,h1,h2,h3,_⟩:=h;refine D3h (by simp) (λw hw=>?_) h1;rcases G1.mp hw with rfl | hw
 ·exact h2
 ·obtain⟨o,ho,rfl⟩:=M9.mp hw;cases o with
  | none=>decide
  | some n=>exact D3l (A8a (h3 n ho))
theorem E0k (m:Nat):(F2 m [V.non]).flatten=(noT m).map oV:=by
 unfold noT;rw[C7k]
 induction m with
 | zero=>rfl
 | succ n ih=>rw[A00,A4n,ih,A00];rfl
theorem B87 {K:A8}{a0:Addr}{xs:List V}{nn j:Nat}{σ:Lake.St}{te:CA->TE}{H1:Hp}{Q:List V->Hp->Prop}(ws:List V)(hl:xs.length=ws.length)(hz:xs.length<sizeLine)(hk:∀H,Same H1 H->SqL K H a0 xs)
  (hs:∀(i:Nat)(x w:V),xs[i]?=some x->ws[i]?=some w->∀H,Same H1 H->∀(a:CA)(R:V->Hp->Prop),(∀H',Same H H'->R w H')->te a ((S4 nn j σ).set j (some x)) H R)
  (hd:∀H,Same H1 H->Q ws H):A3j σ nn j (λJ=>o8) te (Itl K a0) H1 Q:=by
 refine A7d (λi ys Hn=>Same H1 Hn/\ys=ws.take i) hz ⟨λJ J z=>z,rfl⟩ ?_ ?_ ?_
 ·rintro i ys Hn _ ⟨s,rfl⟩;exact⟨by rw[Z9];exact B9y _ _,hk _ s⟩
 ·rintro i x ys Hn hx ⟨s,rfl⟩ ca;obtain⟨hi,_⟩:=A0h.mp hx;obtain⟨w,hw⟩:∃w,ws[i]?=some w:=⟨_,P7 OO⟩;unfold o8;refine G4 (hs i x w hx hw Hn s ca _ λH' s'=>⟨s.tr s',?_⟩);rw[A27,hw];rfl
 ·rintro ys Hn ⟨s,rfl⟩;rw[hl,A4r];exact hd Hn s
theorem C6n (x:V)(xs:List V):A04 (x::xs) (some 1) none=xs:=by
 unfold A04 HT.sIx;simp
abbrev nmT:List (Str×Nat):=[("land",2),("lay",4),("lift",1),("turn",2),("refill",1),("least",0),("ways",0),("store",4),("soon",5)]
theorem C6o (w:Str):∀l:List (Str×Nat),S6 ((l.map λq=>(q.1,V.int ((q.2:Nat):Int))).map A33) (Sum.inr w:Key)=((l.find? λq=>decide (q.1=w)).map (·.2)).map λn=>V.int ((n:Nat):Int)
 | []=>rfl
 | q::r=>by
  have ih:=C6o w r;unfold S6 at ih ⊢;rw[K9,K9,A4q,A4q];by_cases e:q.1=w
  ·subst e;rw[show decide ((A33 (q.1,V.int ((q.2:Nat):Int))).1=(Sum.inr q.1:Key))=true from decide_eq_true rfl,show decide (q.1=q.1)=true from decide_eq_true rfl];rfl
  ·rw[show decide ((A33 (q.1,V.int ((q.2:Nat):Int))).1=(Sum.inr w:Key))=false from decide_eq_false λz=>e (Sum.inr.inj z),show decide (q.1=w)=false from decide_eq_false e];exact ih
theorem C6p (w:Str):inV (.str w) [V.str "aim",V.str "highest",V.str "any"]=Tbl w:=by
 unfold inV Tbl;simp only[A4m,List.any_nil,Bool.or_false,eqV];rw[Bool.or_assoc];congr 1
 ·rw[A25,beq_iff_eq,decide_eq_true_eq];exact eq_comm
 ·congr 1 <;> (rw[A25,beq_iff_eq,decide_eq_true_eq];exact eq_comm)
theorem E0l:FK P w base 12 T.ci (E0h T.aa):=by
 have gA:=@C5n P w K mg base T;have gB:=T.de.b;refine T.ci.F.ok D43 (λJ H J J h=>?_) (λJ J J J H J Q J hr h=>?_)
 ·obtain⟨m,st,rfl,_⟩:=h;rfl
 ·obtain⟨m,st,rfl,m1,m2,st0,st1,told⟩:=h;refine⟨_,(B5 (K5 (J6 (PW.pt (A3d (T0 (B06 V6 V6 A7 (pv 0) (cII T.g_MOST_PLACES))) (A3c (T0 (U4 (pcF T.bf (C5d T) hr (A1 (pv 1) A3 A0)))))))
   (C1 W9)
   K2))
   (C1 (E3 (C0s T.fF gA (hr.mono DD) rfl T.fE gB .nil A4 (A1 (pv 0) (A1 (pv 1) (A1 (F0 C08 (U6 (A1 m7 A3 E6)) (pv 0)) A3 E9) A0) A0))))),?_⟩
  try dsimp only[G5,Cx.nox]
  refine⟨fun σ' H'=>σ'=[some (.int ((m:Nat):Int)),some (.int st)]/\Same H H',?_,?_⟩
  ·refine⟨_,rfl,_,_,rfl,rfl,_,rfl,?_⟩;rw[decide_eq_true (show (1:Int)<=((m:Nat):Int) by omega)];refine G4 ⟨_,_,rfl,rfl,_,rfl,?_⟩;rw[decide_eq_true (show ((m:Nat):Int)<=12 by omega)];refine E4 ⟨_,rfl,V1 (E:=E0) (λd=>d=.bool true) (.cons (.int _) .nil) ⟨_,rfl,st0,st1,rfl⟩ λd' v1 H3 hd t5 s3=>?_⟩;subst hd;cases t5;exact⟨_,rfl,E4 ⟨rfl,s3⟩⟩
  ·rintro σ' H1 ⟨rfl,s1⟩;refine⟨_,rfl,_,rfl,SZ (n:=1),λl1 n1=>?_⟩;have k1:=Same.upd (o:=.lst [V.non]) n1;refine⟨_,rfl,l1,_,_,rfl,rfl,B3,OO,OO,?_,λl2 n2=>?_⟩
   ·rw[sizeLine_eq,show ((m:Nat):Int).toNat=m by simp];show 1*m<=_;omega
   rw[show ((m:Nat):Int).toNat=m by simp,E0k];have k2:=k1.tr (Same.upd (o:=.lst ((noT m).map oV)) n2);have e2:upd (upd H1 l1 (.lst [V.non])) l2 (.lst ((noT m).map oV)) l2=some (.lst ((noT m).map oV)):=B3;obtain⟨H2,hH2⟩:∃H2,H2=upd (upd H1 l1 (.lst [V.non])) l2 (.lst ((noT m).map oV)):=⟨_,rfl⟩;rw[<-hH2] at k2 e2 ⊢;intro q dx hq hdx nq;have sA:=Same.upd (o:=.own q) hdx;have hq':upd H2 dx (.own q) q=none:=by rw[B7 (λz=>nq z.symm)];exact hq
   have sB:=Same.upd (o:=.ins T.aa dx []) hq';have sAB:=sA.tr sB;have ok:KOk m st (noT m) []:=⟨m1,m2,st0,st1,C6l m st,List.nodup_nil,P5 _,λq hq=>by cases hq⟩;refine⟨q,dx,m,st,noT m,.ref l2,rfl,B3,.lst trivial (sAB _ _ e2) (A1h _),ok,λd' low H' lr nd kp fr=>⟨rfl,?_⟩⟩;have sH:Same H2 H':=λb o e=>fr _ _ (sAB _ _ e) λz=>by rw[z,hq] at e;cases e
   have sK:=s1.tr k2;exact told q d' low H' lr (sK.early hq) (sK.early (sAB.early nd)) (A21 kp λb xs h J=>sK.early (sAB.early h)) (sK.tr sH)
theorem E0m(D:A9y w T):FK P w base 1 T.cy E0i:=by
 refine T.cy.F.ok B8e (λJ H J J h=>?_) (λJ J J J H J Q J hr h=>?_)
 ·obtain⟨x,w0,os,rfl,_⟩:=h;rfl
 ·obtain⟨x,w0,os,rfl,R,told⟩:=h;refine⟨_,(B5 (K5 (J6 (T0 (U4 (J2 C9n rfl T.ck A9b (A1 (pv 0) (A1 (A80 (v:=V.ty "str") rfl T.cZ A06 rfl) A3 A0) A0))))
   (C1 W9)
   K2))
   (B5 (pS (i:=1) B8e.nd (Z2 A6y B3y PySem.F.type_str_split C3d (pv 0) (A1 F6 A3 E6)))
   (B5 (pS (i:=2) B8e.nd (F0 A65 (J2 Z1 rfl T.bq V9 (A1 (pv 1) A3 A0)) A7))
   (B5 (K5 (J6 (PW.pt (A61 (K6 A85 (D3c (C4 (v:=V.ref T.bU) rfl T.gf rfl) (C7 F1 (pv 1) A7) ⟨rfl,rfl,rfl,rfl⟩) (pv 2) (D1 _)) (A60 (PW.pt (A3d (K6 C05 (C7 F1 (pv 1) A7) (C4 (v:=V.ref T.bP) rfl T.fG rfl) (by with_unfolding_all rfl)) (A3c (K6 Q4 (pv 2) A7 (D1 _))))))))
   (C1 W9)
   K2))
   (C1 (E3 (pv 1))))))),?_⟩
  try dsimp only[G5,Cx.nox]
  have hs:=C6m R;obtain⟨hx,h1,h2,h3,h4,h5⟩:=R;have sz:∀{n:Nat},n<=1000->n<=sizeLine:=λh=>J1 h (by rw[sizeLine_eq];decide);refine⟨fun σ' H'=>σ'=[some (.str x),none,none]/\H=H',⟨_,rfl,_,_,_,_,true,rfl,rfl,.str x,D0z (.str x) "str" rfl,_,rfl,E4 ⟨rfl,rfl⟩⟩,?_⟩;rintro σ' _ ⟨rfl,rfl⟩;refine⟨_,rfl,rfl,x,_,rfl,rfl,DD,hx,λl nl=>?_⟩;rw[hs];have s1:=Same.upd (o:=.lst ((w0::os.map lvW).map V.str)) nl;have el:upd H l (.lst ((w0::os.map lvW).map V.str)) l=some (.lst ((w0::os.map lvW).map V.str)):=B3;obtain⟨H1,hH1⟩:∃H1,H1=upd H l (.lst ((w0::os.map lvW).map V.str)):=⟨_,rfl⟩;rw[<-hH1] at s1 el ⊢;dsimp only[G3,J5];refine⟨_,rfl,l,_,rfl,.inl (SqL.of el),_,_,rfl,rfl,?_⟩;dsimp only[G3,J5];refine⟨fun σ' H'=>(∃v,σ'=[some (.str x),some (.ref l),v])/\H1=H',?_,?_⟩
  ·have at0:atI ((w0::os.map lvW).map V.str) 0=some (V.str w0):=A9k;have hb:(((((w0::os.map lvW).map V.str).length:Nat):Int)-1)=((os.length:Nat):Int):=by simp
   rw[hb];refine⟨_,_,rfl,D.kd_NUMBERED.at DD,_,rfl,l,_,_,_,rfl,rfl,SqL.of el,at0,Sum.inr w0,rfl,?_⟩;refine⟨_,rfl,?_⟩;dsimp only;have enm:S6 (List.map A33 [("land",V.int 2),("lay",V.int 4),("lift",V.int 1),("turn",V.int 2),("refill",V.int 1),("least",V.int 0),("ways",V.int 0),("store",V.int 4),("soon",V.int 5)]) (Sum.inr w0:Key)=((nmT.find? λq=>decide (q.1=w0)).map (·.2)).map λn=>V.int ((n:Nat):Int):=C6o w0 nmT;rw[enm];rcases h5 with ⟨tb,hne⟩ | ⟨tb,hn,_⟩
   ·have hno:(nmT.find? λq=>decide (q.1=w0))=none:=by
     unfold Tbl at tb;rw[A8v,A8v,decide_eq_true_eq,decide_eq_true_eq,decide_eq_true_eq] at tb;rcases tb with (rfl | rfl) | rfl <;> decide
    rw[hno];refine⟨rfl,_,rfl,G4 ⟨_,rfl,l,_,_,_,rfl,rfl,SqL.of el,at0,T.bP,_,rfl,.inr (T.kt_TABLED.at _),rfl,DD,_,rfl,?_⟩⟩;rw[C6p,tb];refine E4 ⟨_,rfl,rfl,_,rfl,?_⟩;rw[show decide (V.int ((os.length:Nat):Int)=V.int 0)=false from decide_eq_false λz=>hne (A29 (by have:=V.int.inj z;omega))];exact E4 ⟨⟨_,rfl⟩,rfl⟩
   ·rw[show ((nmT.find? λq=>decide (q.1=w0)).map (·.2))=some os.length from hn];refine⟨rfl,_,rfl,?_⟩;rw[show (!decide ((Option.map (λn=>V.int ((n:Nat):Int)) (some os.length)).getD V.non=V.int ((os.length:Nat):Int)))=false from by rw[Bool.not_eq_false'];exact decide_eq_true rfl];exact E4 (E4 ⟨⟨_,rfl⟩,rfl⟩)
  ·rintro σ' _ ⟨⟨v,rfl⟩,rfl⟩;exact⟨_,rfl,told l H1 nl el s1⟩
theorem E0n:FK P w base 5 T.cg E0j:=by
 refine T.cg.F.ok D42 (λJ H J J h=>?_) (λJ J J s H J Q J hr h=>?_)
 ·obtain⟨l,x,w0,os,rfl,_⟩:=h;rfl
 ·obtain⟨l,x,w0,os,rfl,R,el,told⟩:=h;refine⟨_,(B5 (K5 (J6 (K6 C9a (C7 F1 (pv 0) A7) (C4 (v:=V.ref T.bP) rfl T.fG rfl) (by with_unfolding_all rfl))
   (C1 (E3 (S1 (M7.new (N:=["words"]) (osc:=B1 A9v) KK) rfl (W7 (A4y A68 (pv 0) (A67 A7) A66)) (λJ=>W8) (λJ=>(pcF T.cw (D6e T) hr (A1 (pv 1) A3 A0))))))
   K2))
   (C1 (E3 (S1 (M7.new (N:=["words"]) (osc:=B1 A9v) KK) rfl (W7 (A4y A68 (pv 0) (A67 A7) A66)) (λJ=>W8) (λJ=>(pcF T.aW (C4i T) hr (A1 (pv 1) A3 A0))))))),?_⟩
  try dsimp only[G5,Cx.nox]
  obtain⟨hx,h1,h2,h3,h4,h5⟩:=R;have at0:atI ((w0::os.map lvW).map V.str) 0=some (V.str w0):=A9k;have hcut:A04 ((w0::os.map lvW).map V.str) (some 1) none=os.map λo=>V.str (lvW o):=by
   rw[K9,C6n,N6];rfl
  have sz:os.length<sizeLine:=A0i h4 (by rw[sizeLine_eq];decide);refine⟨fun σ' H'=>σ'=[some (.ref l)]/\H=H'/\Tbl w0=false,?_,?_⟩
  ·refine⟨_,rfl,l,_,_,_,rfl,rfl,SqL.of el,at0,T.bP,_,rfl,.inr (T.kt_TABLED.at _),rfl,DD,_,rfl,?_⟩;rw[show (if false=true then !inV (V.str w0) [V.str "aim",V.str "highest",V.str "any"] else inV (V.str w0) [V.str "aim",V.str "highest",V.str "any"])=Tbl w0 from C6p w0];cases e:Tbl w0 with
   | false=>exact E4 ⟨rfl,rfl,rfl⟩
   | true=>
    refine G4 ⟨_,rfl,_,rfl,l,_,rfl,SqL.of el,λl2 n2=>?_⟩;rw[hcut];have s2:=Same.upd (o:=.lst (os.map λo=>V.str (lvW o))) n2;have e2:upd H l2 (.lst (os.map λo=>V.str (lvW o))) l2=some (.lst (os.map λo=>V.str (lvW o))):=B3;obtain⟨H2,hH2⟩:∃H2,H2=upd H l2 (.lst (os.map λo=>V.str (lvW o))):=⟨_,rfl⟩;rw[<-hH2] at s2 e2 ⊢;refine⟨l2,rfl,⟨_,SqL.of e2⟩,?_⟩;refine B87 (os.map oV) (by rw[B6,B6]) (by rw[B6];exact sz) (λHx s=>SqL.of (s _ _ e2)) (λi y v hy hv Hx s ca R hR=>?_) λH3 s3 l3 n3=>?_
    ·rw[P6] at hy hv;obtain⟨o,ho,rfl⟩:=A28.mp hy;rw[ho] at hv;cases hv;refine⟨_,rfl,_,o,rfl,rfl,λn hn=>h3 n (by rw[<-hn];exact R6 ho),λH' s'=>?_⟩;have:=hR H' s';cases o <;> exact this
    ·exact told l3 _ (s2.early (s3.early n3)) B3 (s2.tr (s3.tr (Same.upd n3)))
  ·rintro σ' _ ⟨rfl,rfl,e⟩;have h6:∀o∈os,o≠none:=by
    rcases h5 with ⟨z,_⟩ | ⟨_,_,z⟩
    ·rw[e] at z;cases z
    ·exact z
   refine⟨_,rfl,_,rfl,l,_,rfl,SqL.of el,λl2 n2=>?_⟩;rw[hcut];have s2:=Same.upd (o:=.lst (os.map λo=>V.str (lvW o))) n2;have e2:upd H l2 (.lst (os.map λo=>V.str (lvW o))) l2=some (.lst (os.map λo=>V.str (lvW o))):=B3;obtain⟨H2,hH2⟩:∃H2,H2=upd H l2 (.lst (os.map λo=>V.str (lvW o))):=⟨_,rfl⟩;rw[<-hH2] at s2 e2 ⊢;refine⟨l2,rfl,⟨_,SqL.of e2⟩,?_⟩;refine B87 (os.map oV) (by rw[B6,B6]) (by rw[B6];exact sz) (λHx s=>SqL.of (s _ _ e2)) (λi y v hy hv Hx s ca R hR=>?_) λH3 s3 l3 n3=>?_
   ·rw[P6] at hy hv;obtain⟨o,ho,rfl⟩:=A28.mp hy;rw[ho] at hv;cases hv;have hm:=R6 ho;cases o with
    | none=>exact absurd rfl (h6 _ hm)
    | some n=>have h60:=h3 n hm;refine⟨_,rfl,itx n,rfl,by have:=W3 h60;omega,A8a h60,λH' s'=>?_⟩;rw[B55 h60];exact hR H' s'
   ·exact told l3 _ (s2.early (s3.early n3)) B3 (s2.tr (s3.tr (Same.upd n3)))
def A8q (Cd:Addr)(H:Hp)(q:Addr)(v:V):Prop:=∃dx,H q=some (.ins Cd dx [("keeper",v)])
inductive V3 {K:A8}{mg:Str->Option Value}(T:Txt K mg):Str->Addr->(Kst->List (Option Int)->Prop)->(Kst->List (Option Int)->Kst->Str->Prop)->Prop
 | lay:V3 T "lay" T.dJ.a (A1i A4a) (Z7 A4a)
 | lift:V3 T "lift" T.cU.a (A1i A4b) (Z7 A4b)
 | turn:V3 T "turn" T.cV.a (A1i A4c) (Z7 A4c)
 | refill:V3 T "refill" T.cj.a (A1i A4d) (Z7 A4d)
 | aim:V3 T "aim" T.dM.a (A1i A4e) (Z7 A4e)
 | least:V3 T "least" T.aN.a B3j C55
 | highest:V3 T "highest" T.az.a C59 C6a
 | ways:V3 T "ways" T.aX.a B3j C56
 | store:V3 T "store" T.aO.a C6h C6i
 | soon:V3 T "soon" T.aY.a C6j C6k
 | any:V3 T "any" T.bj.a C6b C6e
def B88 {K:A8}{mg:Str->Option Value}(T:Txt K mg)(a:Addr)(sp:Sp):Prop:=∃w0 pre post,V3 T w0 a pre post/\sp=A0u T.aa pre post
theorem V3.ne {K:A8}{mg:Str->Option Value}{T:Txt K mg}{w0:Str}{a:Addr}{pre:Kst->List (Option Int)->Prop}{post:Kst->List (Option Int)->Kst->Str->Prop}(h:V3 T w0 a pre post):w0≠ "land" :=by cases h <;> decide
theorem V3.val {K:A8}{mg:Str->Option Value}{T:Txt K mg}{w0:Str}{a:Addr}{pre:Kst->List (Option Int)->Prop}{post:Kst->List (Option Int)->Kst->Str->Prop}(h:V3 T w0 a pre post) :
  S6 (List.map A33 [("lay",V.ref T.dJ.a),("lift",V.ref T.cU.a),("turn",V.ref T.cV.a),("refill",V.ref T.cj.a),("aim",V.ref T.dM.a),("least",V.ref T.aN.a),("highest",V.ref T.az.a),("ways",V.ref T.aX.a),("store",V.ref T.aO.a),("soon",V.ref T.aY.a),("any",V.ref T.bj.a)]) (Sum.inr w0:Key)=some (.ref a):=by
 cases h <;> rfl
theorem E0o {a b c d e f g h i j k:V}:(List.map (λx:Str×V=>x.1) [("lay",a),("lift",b),("turn",c),("refill",d),("aim",e),("least",f),("highest",g),("ways",h),("store",i),("soon",j),("any",k)]).Nodup:=by
 show (["lay","lift","turn","refill","aim","least","highest","ways","store","soon","any"]:List Str).Nodup;decide
def E0p (C:Addr):Sp:=λvs H Q J=>∃q dx,vs=[.ref q]/\H q=some (.ins C dx [])/\Q .non (upd H q (.ins C dx [("keeper",.non)]))
def B89 {K:A8}{mg:Str->Option Value}(T:Txt K mg):Sp:=λvs H Q J=>∃q v x w0 os,vs=[.ref q,.str x]/\A8q T.af H q v/\i9 x w0 os/\
 ((∃(m:Nat)(st:Int),w0 = "land" /\os=[some ((m:Nat):Int),some st]/\1<=m/\m<=12/\0<=st/\st<=100000000000000000000/\
   ∀p d low H',V2 m st (noT m) [] low->H p=none->H d=none->E7 (λb=>H b=none) T.aa H' p d ⟨m,st,noT m,[],low⟩->A8q T.af H' q (.ref p)->(∀b o,H b=some o->b≠q->H' b=some o)->Q (.str "ok") H')\/
  ∃a pre post F p d k,v=.ref p/\V3 T w0 a pre post/\(∀b,H b=none->F b)/\E7 F T.aa H p d k/\pre k os/\
   ∀k' t H',post k os k' t->E7 F T.aa H' p d k'->(∀b o,H b=some o->b≠p->b≠d->H' b=some o)->Q (.str t) H')
theorem E7.ui {F:Addr->Prop}{C C' p d q dx':Addr}{H:Hp}{k:Kst}{fs fs':List (Str×V)}(h:E7 F C H p d k)(e:H q=some (.ins C' dx' fs))(ne:p≠q):E7 F C (upd H q (.ins C' dx' fs')) p d k:=by
 obtain⟨⟨dx,g,l,ug,ul,e1,g1,e2,t2,g3,e3,t3⟩,kv0,e4,kv⟩:=h;have nn:∀{b:Addr}{o:HO},H b=some o->(∀a b c,o≠.ins a b c)->upd H q (.ins C' dx' fs') b=some o:=λ{b o} eb n=>by
  rw[B7 (λz=>by rw[z,e] at eb;cases eb;exact n _ _ _ rfl)];exact eb
 exact⟨⟨dx,g,l,ug,ul,by rw[B7 ne];exact e1,g1,nn e2 (λJ J J z=>nomatch z),M4 t2,g3,nn e3 (λJ J J z=>nomatch z),M4 t3⟩,kv0,nn e4 (λJ J J z=>nomatch z),kv.mv λb xs eb=>nn eb (λJ J J z=>nomatch z)⟩
theorem B88.fn:∀a sp,B88 T a sp->FnB P w K mg base CX0 12 a sp:=by
 rintro a sp ⟨w0,pre,post,h,rfl⟩;cases h with
 | lay=>exact⟨12,_,_,DD,D92 T,T.dJ.F.kp,T.dJ.b⟩
 | lift=>exact⟨12,_,_,DD,D93 T,T.cU.F.kp,T.cU.b⟩
 | turn=>exact⟨12,_,_,DD,D94 T,T.cV.F.kp,T.cV.b⟩
 | refill=>exact⟨12,_,_,DD,D95 T,T.cj.F.kp,T.cj.b⟩
 | aim=>exact⟨12,_,_,DD,D97 T,T.dM.F.kp,T.dM.b⟩
 | least=>exact⟨3,_,_,DD,D99 T,T.aN.F.kp,T.aN.b⟩
 | highest=>exact⟨10,_,_,DD,E0c T,T.az.F.kp,T.az.b⟩
 | ways=>exact⟨3,_,_,DD,E0a T,T.aX.F.kp,T.aX.b⟩
 | store=>exact⟨12,_,_,DD,E0f T,T.aO.F.kp,T.aO.b⟩
 | soon=>exact⟨12,_,_,DD,E0g T,T.aY.F.kp,T.aY.b⟩
 | any=>exact⟨10,_,_,DD,E0d T,T.bj.F.kp,T.bj.b⟩
theorem E0q:FM P w mg base 1 T.dG (E0p T.af):=by
 refine T.dG.F.ok D5e (λJ H J J h=>?_) (λJ J J J H J Q J hr h=>?_)
 ·obtain⟨q,dx,rfl,_⟩:=h;rfl
 ·obtain⟨q,dx,rfl,e,told⟩:=h;refine⟨_,(C1 (A1r (pv 0) m7 rfl)),?_⟩
  try dsimp only[G5,Cx.nox]
  exact⟨_,rfl,q,_,dx,_,rfl,e,T.br,T.dO,by show 0<1000;decide,told⟩
theorem B9a(D:A9y w T):FM P w mg base 13 T.bb (B89 T):=by
 have GV:=@B88.fn P w K mg base T;refine T.bb.F.ok B8f (λJ H J J h=>?_) (λJ J J J H J Q J hr h=>?_)
 ·obtain⟨q,v,x,w0,os,rfl,_⟩:=h;rfl
 ·obtain⟨q,v,x,w0,os,rfl,⟨dx,eq⟩,R,told⟩:=h;refine⟨_,(B5 (pS (i:=2) B8f.nd (pcF T.cy (E0m T D) hr (A1 (pv 1) A3 A0)))
   (B5 (pS (i:=3) B8f.nd (pcF T.cg (E0n T) hr (A1 (pv 2) A3 A0)))
   (B5 (K5 (J6 (K6 Q4 (C7 F1 (pv 2) A7) F6 (D1 _))
   (B5 (A1r (pv 0) (pcF T.ci (E0l T) hr (A1 (C7 F1 (pv 3) A7) (A1 (C7 F1 (pv 3) A7) A3 B0) B0)) rfl)
   (C1 (E3 F6)))
   K2))
   (B5 (K5 (J6 (K6 m9 (Q5 (pv 0) rfl) m7 (D1 _))
   (C1 W9)
   K2))
   (C1 (E3 (D3e (D3b (C4 (v:=V.ref T.cu) rfl T.gC rfl) (C7 F1 (pv 2) A7) (λJ J=>rfl)) (hr.mono DD) GV A4 (A1 (Q5 (pv 0) rfl) (A1 (pv 3) A3 A0) O2)))))))),?_⟩
  try dsimp only[G5,Cx.nox]
  refine⟨_,rfl,x,w0,os,rfl,R,λl H1 n1 e1 s1=>?_⟩;dsimp only[G3,J5];refine⟨_,rfl,l,x,w0,os,rfl,R,e1,λl' H2 n2 e2 s2=>?_⟩;dsimp only[G3,J5];have e1':=s2 _ _ e1;have s12:=s1.tr s2;have at0:atI ((w0::os.map lvW).map V.str) 0=some (V.str w0):=A9k;rcases told with ⟨m,st,rfl,rfl,m1,m2,st0,st1,told⟩ | ⟨a,pre,post,F,p,d,k,rfl,an,hF,kp,hpre,told⟩
  ·refine⟨λJ J=>False,?_,λJ J z=>z.elim⟩;refine⟨_,rfl,l,_,_,_,rfl,rfl,SqL.of e1',at0,?_⟩;refine⟨rfl,_,rfl,?_⟩;rw[decide_eq_true rfl];refine G4 ⟨_,rfl,l',_,0,_,rfl,rfl,SqL.of e2,rfl,_,rfl,l',_,1,_,rfl,rfl,SqL.of e2,rfl,m,st,rfl,m1,m2,st0,st1,λp d low H3 lr np nd kp fr=>?_⟩;have e3:=fr _ _ (s12 _ _ eq);have pq:p≠q:=λz=>by rw[z,s12 _ _ eq] at np;cases np
   refine⟨_,rfl,q,_,dx,_,rfl,e3,T.br,T.dO,by show 1<1000;decide,?_⟩;refine told p d low _ lr (s12.early np) (s12.early nd) ?_ ⟨dx,B3⟩ λb o e n=>by rw[B7 n];exact fr _ _ (s12 _ _ e)
   exact E7.ui (A21 kp λb xs h J=>s12.early h) e3 pq
  ·refine⟨fun σ' H'=>σ'=[some (.ref q),some (.str x),some (.ref l),some (.ref l')]/\H2=H',?_,?_⟩
   ·refine⟨_,rfl,l,_,_,_,rfl,rfl,SqL.of e1',at0,?_⟩;refine⟨rfl,_,rfl,?_⟩;rw[show decide (V.str w0=V.str "land")=false from decide_eq_false λz=>an.ne (V.str.inj z)];exact E4 ⟨rfl,rfl⟩
   rintro σ' _ ⟨rfl,rfl⟩;refine⟨fun σ' H'=>σ'=[some (.ref q),some (.str x),some (.ref l),some (.ref l')]/\H2=H',?_,?_⟩
   ·refine⟨_,rfl,q,_,dx,_,_,rfl,s12 _ _ eq,T.br,T.dO,rfl,rfl,_,rfl,E4 ⟨rfl,rfl⟩⟩
   rintro σ' _ ⟨rfl,rfl⟩;refine⟨_,rfl,l,_,_,_,rfl,rfl,SqL.of e1',at0,_,_,_,_,rfl,D.kd_ANSWERS.at E0o,rfl,an.val,a,_,rfl,⟨w0,pre,post,an,rfl⟩,?_⟩;refine⟨_,rfl,q,_,dx,_,_,rfl,s12 _ _ eq,T.br,T.dO,rfl,_,rfl,?_⟩;exact⟨F,p,d,l',k,os,rfl,λb h=>hF b (s12.early h),kp.same s12,e2,hpre,λk' t H' po kp' fr'=>told k' t H' po kp' λb o e=>fr' b o (s12 _ _ e)⟩
theorem C6q:FK P w base 1 T.cW C4k:=by
 refine T.cW.F.ok D5j (λJ H J J h=>?_) (λJ J J J H J Q J hr h=>?_)
 ·obtain⟨v,rfl,_⟩:=h;rfl
 ·obtain⟨v,rfl,hw,told⟩:=h;refine⟨_,(B5 (K5 (J6 (K6 m9 (pv 0) m7 (D1 _))
   (C1 (E3 F6))
   K2))
   (C1 (E3 (T2 C3g rfl T.cZ A06 (A1 (pv 0) A3 A0))))),?_⟩
  try dsimp only[G5,Cx.nox]
  have told0:=told H λJ J z=>z;refine⟨fun σ' H'=>σ'=[some v]/\H=H'/\v≠.non,?_,?_⟩
  ·refine⟨_,rfl,rfl,_,rfl,?_⟩;by_cases c:v=.non
   ·subst c;exact G4 told0
   ·rw[decide_eq_false c];exact E4 ⟨rfl,rfl,c⟩
  ·rintro σ' _ ⟨rfl,rfl,c⟩;cases v with
   | non=>exact absurd rfl c
   | int n=>exact⟨_,rfl,.inl ⟨n,rfl,A1b hw,told0⟩⟩
   | str y=>exact⟨_,rfl,.inr ⟨_,rfl,told0⟩⟩
   | bl b=>exact hw.elim
   | byt b=>exact hw.elim
   | flt b=>exact hw.elim
   | ref a=>exact hw.elim
   | ty n=>exact hw.elim
theorem C6r:FK P w base 2 T.bQ C4l:=by
 refine T.bQ.F.ok D5k (λJ H J J h=>?_) (λJ J J s H J Q J hr h=>?_)
 ·obtain⟨l,us,rfl,_⟩:=h;rfl
 ·obtain⟨l,us,rfl,el,hw,hl,told⟩:=h;refine⟨_,(C1 (E3 (Z2 A6y B30 B31 A9r F6 (A1 (S1 (M7.new (N:=["_law_levels"]) (osc:=B1 B2t) KK) rfl (W7 (pv 0)) (λJ=>W8) (λJ=>(pcF T.cW (C6q T) hr (A1 (pv 1) A3 A0)))) A3 b7)))),?_⟩
  try dsimp only[G5,Cx.nox]
  refine⟨rfl,_,rfl,l,rfl,⟨us,SqL.of el⟩,?_⟩;refine A6f wrT (A0i hl (by rw[sizeLine_eq];decide)) (λHx s=>SqL.of (s _ _ el)) (λx hx Hx s ca R hR=>⟨_,rfl,x,rfl,hw x hx,hR⟩) λHx s p hp=>?_;have sp:=Same.upd (o:=.lst (us.map λx=>V.str (wrT x))) hp;have ev:(us.map wrT).map V.str=us.map λx=>V.str (wrT x):=by rw[N6];rfl
  refine⟨_,p,us.map wrT,rfl,rfl,SqL.of (B3.trans (by rw[ev])),A96 (λv hv=>?_) (by rw[B6];omega),?_⟩
  ·obtain⟨u,hu,rfl⟩:=M9.mp hv;exact C4j (hw u hu)
  ·rw[tj];exact told _ (s.tr sp)
theorem E0r:FK P w base 2 T.dZ B8m:=by
 refine T.dZ.F.ok B8h (λJ H J J h=>?_) (λJ J J s H J Q J hr h=>?_)
 ·obtain⟨v,a,b,rfl,_⟩:=h;rfl
 ·obtain⟨v,a,b,rfl,tv,ha,hb,la,lb,told⟩:=h;refine⟨_,(B5 (V4 (pv 0) (A4s (n:=2) rfl (T1 (O8 (i:=1) B8h.nd) (T1 (O8 (i:=2) B8h.nd) A3e))))
   (C1 (E3 (Z2 A6y B30 B31 A9r F6 (A1 (F0 A1s (F0 A1s (F0 A1s (U6 (A1 F6 A3 E6)) (S1 (M7.new (N:=["_law_told_here","_law_fell","_law_rose"]) (osc:=B1 A9x) KK) rfl (W7 (pv 1)) (λJ=>W8) (λJ=>(T2 A2h rfl T.cZ A06 (A1 (pv 3) A3 A0))))) (U6 (A1 F6 A3 E6))) (S1 (M7.new (N:=["_law_told_here","_law_fell","_law_rose"]) (osc:=B1 A9x) KK) rfl (W7 (pv 2)) (λJ=>W8) (λJ=>(T2 A2h rfl T.cZ A06 (A1 (pv 3) A3 A0))))) A3 E9))))),?_⟩
  try dsimp only[G5,Cx.nox]
  obtain⟨p,us,rfl,_,ep,tu⟩:=Y0 tv;obtain⟨v1,v2,rfl,t1,t2⟩:=X9 tu;obtain⟨la1,ua,rfl,_,ea,tua⟩:=M2 t1;obtain⟨lb1,ub,rfl,_,eb,tub⟩:=M2 t2;have hua:ua=a.map λn:Nat=>V.int (n:Int):=A97 tua;have hub:ub=b.map λn:Nat=>V.int (n:Int):=A97 tub;subst hua hub;have fI:∀(xs:List Nat),(∀n∈xs,n<12)->∀x∈xs.map (λn:Nat=>V.int (n:Int)),∃n:Nat,n<12/\x=V.int (n:Int):=λxs h x hx=>by
   obtain⟨n,hn,rfl⟩:=M9.mp hx;exact⟨n,h n hn,rfl⟩
  have sz:∀{n:Nat},n<=1000->n<=sizeLine:=λh=>J1 h (by rw[sizeLine_eq];decide);refine⟨_,rfl,p,_,rfl,SqT.of ep,rfl,?_⟩;refine⟨_,_,rfl,_,_,rfl,rfl,?_⟩;dsimp only[G3,J5];refine⟨rfl,?_⟩;refine⟨sz DD,λp1 n1=>?_⟩;have s1:=Same.upd (o:=.lst [V.str (Str.ofString "fell")]) n1;have e1:upd H p1 (.lst [V.str (Str.ofString "fell")]) p1=some (.lst [V.str (Str.ofString "fell")]):=B3;generalize upd H p1 (.lst [V.str (Str.ofString "fell")])=H1 at s1 e1 ⊢;refine⟨_,rfl,la1,rfl,⟨_,SqL.of (s1 _ _ ea)⟩,?_⟩;refine A6f wrT (by rw[B6,sizeLine_eq];omega) (λHx s=>SqL.of (s _ _ (s1 _ _ ea))) (λx hx Hx s ca R hR=>?_) λH2 s2 p2 n2=>?_
  ·obtain⟨n,hn,rfl⟩:=fI a ha x hx;exact⟨_,rfl,_,rfl,A1b (show ((n:Nat):Int).natAbs<10^60 from Q7 hn DD),hR _ λJ J z=>z⟩
  have s3:=s2.tr (Same.upd (o:=.lst ((a.map λn:Nat=>V.int (n:Int)).map λx=>V.str (wrT x))) n2);have e3:upd H2 p2 (.lst ((a.map λn:Nat=>V.int (n:Int)).map λx=>V.str (wrT x))) p2=some (.lst (a.map λn:Nat=>V.str (itx (n:Int)))):=B3.trans (by rw[N6];rfl);generalize upd H2 p2 (.lst ((a.map λn:Nat=>V.int (n:Int)).map λx=>V.str (wrT x)))=H3 at s3 e3 ⊢;refine⟨p1,p2,_,_,rfl,rfl,s3 _ _ e1,e3,sz (by simp;omega),λp4 n4=>?_⟩;have k4:=Same.upd (o:=.lst ([V.str (Str.ofString "fell")]++a.map λn:Nat=>V.str (itx (n:Int)))) n4;have e4:upd H3 p4 (.lst ([V.str (Str.ofString "fell")]++a.map λn:Nat=>V.str (itx (n:Int)))) p4=some (.lst ([V.str (Str.ofString "fell")]++a.map λn:Nat=>V.str (itx (n:Int)))):=B3;generalize upd H3 p4 (.lst ([V.str (Str.ofString "fell")]++a.map λn:Nat=>V.str (itx (n:Int))))=H4 at k4 e4 ⊢;refine⟨sz DD,λp5 n5=>?_⟩;have k5:=Same.upd (o:=.lst [V.str (Str.ofString "rose")]) n5;refine⟨p4,p5,_,_,rfl,rfl,k5 _ _ e4,B3,sz (by simp;omega),λp6 n6=>?_⟩;have k6:=k5.tr (Same.upd (o:=.lst (([V.str (Str.ofString "fell")]++a.map λn:Nat=>V.str (itx (n:Int)))++[V.str (Str.ofString "rose")])) n6);have e6:upd (upd H4 p5 (.lst [V.str (Str.ofString "rose")])) p6 (.lst (([V.str (Str.ofString "fell")]++a.map λn:Nat=>V.str (itx (n:Int)))++[V.str (Str.ofString "rose")])) p6=some (.lst (([V.str (Str.ofString "fell")]++a.map λn:Nat=>V.str (itx (n:Int)))++[V.str (Str.ofString "rose")])):=B3;generalize upd (upd H4 p5 (.lst [V.str (Str.ofString "rose")])) p6 (.lst (([V.str (Str.ofString "fell")]++a.map λn:Nat=>V.str (itx (n:Int)))++[V.str (Str.ofString "rose")]))=H6 at k6 e6 ⊢;have s6:=(s1.tr s3).tr (k4.tr k6);have eb6:=s6 _ _ eb;refine⟨_,rfl,lb1,rfl,⟨_,SqL.of eb6⟩,?_⟩;refine A6f wrT (by rw[B6,sizeLine_eq];omega) (λHx s=>SqL.of (s _ _ eb6)) (λx hx Hx s ca R hR=>?_) λH7 s7 p7 n7=>?_
  ·obtain⟨n,hn,rfl⟩:=fI b hb x hx;exact⟨_,rfl,_,rfl,A1b (show ((n:Nat):Int).natAbs<10^60 from Q7 hn DD),hR _ λJ J z=>z⟩
  have s8:=s7.tr (Same.upd (o:=.lst ((b.map λn:Nat=>V.int (n:Int)).map λx=>V.str (wrT x))) n7);have e8:upd H7 p7 (.lst ((b.map λn:Nat=>V.int (n:Int)).map λx=>V.str (wrT x))) p7=some (.lst (b.map λn:Nat=>V.str (itx (n:Int)))):=B3.trans (by rw[N6];rfl);generalize upd H7 p7 (.lst ((b.map λn:Nat=>V.int (n:Int)).map λx=>V.str (wrT x)))=H8 at s8 e8 ⊢;refine⟨p6,p7,_,_,rfl,rfl,s8 _ _ e6,e8,sz (by simp;omega),λp9 n9=>?_⟩;refine⟨_,p9,(("fell" : Str)::a.map (λn:Nat=>itx (n:Int)))++(("rose" : Str)::b.map λn:Nat=>itx (n:Int)),rfl,rfl,SqL.of (B3.trans (by rw[Q3,K9,K9,N6,N6,m5];rfl)),A96 (λw hw=>?_) (by simp;omega),?_⟩
  ·rcases A1j.mp hw with hw | hw
   ·rcases G1.mp hw with rfl | hw
    ·decide
    ·obtain⟨n,hn,rfl⟩:=M9.mp hw;have:=W3 (show ((n:Nat):Int).natAbs<10^60 from Q7 (ha n hn) DD);omega
   ·rcases G1.mp hw with rfl | hw
    ·decide
    ·obtain⟨n,hn,rfl⟩:=M9.mp hw;have:=W3 (show ((n:Nat):Int).natAbs<10^60 from Q7 (hb n hn) DD);omega
  ·rw[tj];exact told _ (s6.tr (s8.tr (Same.upd n9)))
theorem A0v {H:Hp}{hd hl b:Addr}{xs:List V}(h:Hd H hd hl)(e:H b=some (.tup xs)):b≠hd:=λz=>by
 obtain⟨_,_,_,_,_,_,_,_,y⟩:=h;rw[z,y] at e;cases e
theorem B0m {es:List Expr}{env:Env} {a p}:starEach (.JoinedStr a p::es) env=(false,eval (.JoinedStr a p) env)::starEach es env:=by rfl
theorem T4 {hd hl:Addr}{n:Int}{Hx:Hp}{Qv:VK}(n0:0<n)(n1:n<100000000000000000000000000000000000000)(hx:Hd Hx hd hl)(q:∀r Hy,0<=r->r<n->Kp hd Hx Hy->Hd Hy hd hl->Qv (.int r) Hy):spD [.hd,.sh] C4b [.ref hd,.int n] Hx Qv E0:=
 B8l (E:=E0) (λd=>∃r:Int,(0<=r/\r<n)/\d=.int r) hx (.cons (.int _) .nil) ⟨n,rfl,n0,OO,λr r0 r1=>⟨r,⟨r0,r1⟩,rfl⟩⟩ λd v Hy hd' tv ky hy=>by
  obtain⟨r,⟨r0,r1⟩,rfl⟩:=hd';cases tv;exact q r Hy r0 r1 (λb o e n=>ky b o e λq hq=>by cases hq;exact n) hy
def spW (b g:Sp2):Str:=Str.empty++itx ((b.1:Nat):Int)++ " " ++itx b.2++ " " ++itx ((g.1:Nat):Int)++ " " ++itx g.2
def SpB (m:Nat)(top:Int)(b:Sp2):Prop:=b.1<m/\0<=b.2/\b.2<=top
def E0s:Sp:=λvs H Q J=>∃(hd hl:Addr)(m:Nat)(top:Int),vs=[.ref hd,.int ((m:Nat):Int),.int top]/\Hd H hd hl/\(1<=m/\m<=12)/\(0<=top/\top<=∅)/\
 ∀t tb tg b g H',SpB m top b->SpB m top g->H' t=some (.tup [.ref tb,.ref tg,.str (spW b g)])->H' tb=some (.tup [.int ((b.1:Nat):Int),.int b.2])->H' tg=some (.tup [.int ((g.1:Nat):Int),.int g.2])->Kp hd H H'->Hd H' hd hl->Q (.ref t) H'
theorem E0t:FK P w base 4 T.cQ E0s:=by
 refine T.cQ.F.ok B8j (λJ H J J h=>?_) (λJ J J J H J Q J hr h=>?_)
 ·obtain⟨hd,hl,m,top,rfl,_⟩:=h;rfl
 ·obtain⟨hd,hl,m,top,rfl,hh,⟨m1,m2⟩,⟨t0,t1⟩,told⟩:=h;refine⟨_,(B5 (pS (i:=3) B8j.nd (o7 (A1 (pcF T.ae (A36 T) hr (A1 (pv 0) (A1 (pv 1) A3 A0) A0)) (A1 (pcF T.ae (A36 T) hr (A1 (pv 0) (A1 (F0 N3 (pv 2) A7) A3 E9) A0)) A3 C0) C0)))
   (B5 (pS (i:=4) B8j.nd (o7 (A1 (pcF T.ae (A36 T) hr (A1 (pv 0) (A1 (pv 1) A3 A0) A0)) (A1 (C7 F1 (U6 (A1 A7 (A1 (pcF T.ae (A36 T) hr (A1 (pv 0) (A1 (F0 N3 (pv 2) A7) A3 E9) A0)) A3 C0) E6)) (pcF T.ae (A36 T) hr (A1 (pv 0) (A1 A7 A3 E6) A0))) A3 B0) C0)))
   (C1 (E3 (o7 (A1 (pv 3) (A1 (pv 4) (A1 (A2v (K1 (S2 (C7 U7 (pv 3) A7)) (K1 F6 (K1 (S2 (C7 U7 (pv 3) A7)) (K1 F6 (K1 (S2 (C7 U7 (pv 4) A7)) (K1 F6 (K1 (S2 (C7 U7 (pv 4) A7)) A2u)))))))) A3 B0m) A0) A0)))))),?_⟩
  try dsimp only[G5,Cx.nox]
  refine⟨_,rfl,_,rfl,T4 OO OO hh λb1 H1 a0 a1 k1 h1=>?_⟩;refine⟨_,rfl,_,rfl,_,_,rfl,rfl,T4 OO OO h1 λb2 H2 c0 c1 k2 h2=>?_⟩;refine⟨SZ (n:=2),λtb nb=>?_⟩;have s3:=Same.upd (o:=.tup [.int b1,.int b2]) nb;have e3:upd H2 tb (.tup [.int b1,.int b2]) tb=some (.tup [.int b1,.int b2]):=B3;generalize upd H2 tb (.tup [.int b1,.int b2])=H3 at s3 e3 ⊢;have h3:=h2.same s3;have k3:Kp hd H H3:=(k1.trans k2).trans s3.kp;dsimp only[G3,J5];refine⟨_,rfl,_,rfl,T4 OO OO h3 λg1 H4 d0 d1 k4 h4=>?_⟩;refine⟨_,rfl,_,rfl,_,_,rfl,rfl,T4 OO OO h4 λg2 H5 f0 f1 k5 h5=>⟨SZ (n:=2),λl nl=>?_⟩⟩;have s6:=Same.upd (o:=.lst [.int 0,.int g2]) nl;have e6:upd H5 l (.lst [.int 0,.int g2]) l=some (.lst [.int 0,.int g2]):=B3;generalize upd H5 l (.lst [.int 0,.int g2])=H6 at s6 e6 ⊢;have h6:=h5.same s6;have nl6:l≠hd:=λz=>by
   obtain⟨_,_,_,_,_,_,_,_,e⟩:=h5;rw[z,e] at nl;cases nl
  refine⟨_,rfl,T4 DD DD h6 λu H7 u0 u1 k7 h7=>?_⟩;obtain⟨g3,hg3,j0,j1⟩:∃g3,atI [V.int 0,.int g2] u=some (.int g3)/\0<=g3/\g3<=top:=by
   rcases (show u=0\/u=1 by omega) with rfl | rfl
   ·exact⟨0,rfl,OO,OO⟩
   ·exact⟨g2,rfl,f0,OO⟩
  refine⟨l,_,_,_,rfl,rfl,SqL.of (k7 _ _ e6 nl6),hg3,?_⟩;refine⟨SZ (n:=2),λtg ng=>?_⟩;have k67:Kp hd H3 H7:=((k4.trans k5).trans s6.kp).trans k7;have s8:=Same.upd (o:=.tup [.int g1,.int g3]) ng;have e8:upd H7 tg (.tup [.int g1,.int g3]) tg=some (.tup [.int g1,.int g3]):=B3;generalize upd H7 tg (.tup [.int g1,.int g3])=H8 at s8 e8 ⊢;have h8:=h7.same s8;have e38:H8 tb=some (.tup [.int b1,.int b2]):=s8 _ _ (k67 _ _ e3 (A0v h3 e3));dsimp only[G3,J5];obtain⟨b1',rfl,hb1⟩:=B3h a0 a1;obtain⟨g1',rfl,hg1⟩:=B3h d0 d1;have n60:∀{n:Int},0<=n->n<=∅->n.natAbs<10^60:=λx y=>A0i (show _<=∅ by omega) (DD);refine⟨_,rfl,_,rfl,?_⟩;have l0:Str.length Str.empty<=0:=E8 _;refine S7 (n:=((b1':Nat):Int)) (k:=0) (n60 OO OO) l0 DD (λl1=>?_) λR r=>⟨_,rfl,tb,_,_,_,rfl,rfl,SqT.of e38,rfl,r⟩;refine U2 (n':=1) DD l1 DD λl2=>?_;refine S7 (n:=b2) (n60 OO OO) l2 DD (λl3=>?_) λR r=>⟨_,rfl,tb,_,_,_,rfl,rfl,SqT.of e38,rfl,r⟩;refine U2 (n':=1) DD l3 DD λl4=>?_;refine S7 (n:=((g1':Nat):Int)) (n60 OO OO) l4 DD (λl5=>?_) λR r=>⟨_,rfl,tg,_,_,_,rfl,rfl,SqT.of e8,rfl,r⟩;refine U2 (n':=1) DD l5 DD λl6=>?_;refine S7 (n:=g3) (n60 OO OO) l6 DD (λl7=>?_) λR r=>⟨_,rfl,tg,_,_,_,rfl,rfl,SqT.of e8,rfl,r⟩;refine⟨J1 l7 (by rw[sizeLine_eq];decide),?_⟩;refine⟨SZ (n:=3),λt nt=>?_⟩;have s9:=Same.upd (o:=.tup [.ref tb,.ref tg,.str (spW (b1',b2) (g1',g3))]) nt;exact told t tb tg (b1',b2) (g1',g3) _ ⟨hb1,c0,by show b2<=top;omega⟩ ⟨hg1,j0,j1⟩ B3 (s9 _ _ e38) (s9 _ _ e8) ((k3.trans k67).trans (s8.tr s9).kp) (h8.same s9)
def K3.wd:K3->Str
 | .lay _ _=> "lay"
 | .lift _=> "lift"
 | .turn _ _=> "turn"
 | .refill _=> "refill"
 | .aim _=> "aim"
def E0u (C:Addr):Sp:=λvs H Q J=>∃(F:Addr->Prop)(p d tl:Addr)(k:Kst)(x:Str)(dd:K3),vs=[.ref p,.str x,.ref tl]/\(∀b,H b=none->F b)/\E7 F C H p d k/\i9 x dd.wd dd.os/\(∀g,dd=.aim g->H tl=some (.lst (g.map oV)))/\KOk k.m k.st k.g k.kws/\V2 k.m k.st k.g k.kws k.low/\A39 k dd/\
 ∀b v H',V2 (G9 k dd).m (G9 k dd).st (G9 k dd).g (G9 k dd).kws b->E7 F C H' p d { G9 k dd with low:=b }->ThV TT0 H' v (.tuple [.list (F3 (Y6 b k.low)),.list (F3 (Y6 k.low b))])->(∀b o,H b=some o->b≠p->b≠d->H' b=some o)->Q v H'
theorem E0v:FK P w base 12 T.ee (E0u T.aa):=by
 refine T.ee.F.ok B8i (λJ H Q J h=>?_) (λJ J J s H J Q J hr h=>?_)
 ·obtain⟨F,p,d,tl,k,x,dd,rfl,_⟩:=h;rfl
 ·obtain⟨F,p,d,tl,k,x,dd,rfl,hF,kp,R,hg,ok,lr,dok,told⟩:=h;have kp0:=kp;obtain⟨⟨dx,g,l1,ug,ul,e1,g1,e2,t2,g3,e3,t3⟩,kvs,e4,kv⟩:=kp;refine⟨_,(B5 (pS (i:=3) B8i.nd (Z2 A6y B3y PySem.F.type_str_split C3d (pv 1) (A1 F6 A3 E6)))
   (B5 (K5 (J6 (K6 Q4 (C7 F1 (pv 3) A7) F6 (D1 _))
   (C1 (E3 (pmF (pv 0) T.ac T.dt (C5m T) hr (A1 (T2 A3h rfl T.cE A1t (A1 (pv 2) A3 A0)) A3 C0) (hst:=C0))))
   K2))
   (B5 (A9a (i:=4) B8i.nd rfl (B2 rfl) (M7.new (N:=["_law_keeper","_law_row_here","_law_table_here","_law_words","_law_numbers"]) (osc:=B1 B2u) KK) rfl (W7 (A4y A68 (pv 3) (A67 A7) A66)) (λJ=>W8) (λJ=>(T2 C3e rfl T.fY A9c (A1 (pv 5) A3 A0))))
   (B5 (K5 (J6 (K6 Q4 (C7 F1 (pv 3) A7) F6 (D1 _))
   (C1 (E3 (pmF (pv 0) T.ac T.dr (C5i T) hr (A1 (C7 F1 (pv 4) A7) (A1 (C7 F1 (pv 4) A7) (A1 (C7 F1 (pv 4) A7) (A1 (C7 F1 (pv 4) A7) A3 B0) B0) B0) B0) (hst:=B0))))
   K2))
   (B5 (K5 (J6 (K6 Q4 (C7 F1 (pv 3) A7) F6 (D1 _))
   (C1 (E3 (pmF (pv 0) T.ac T.cG (C5j T) hr (A1 (C7 F1 (pv 4) A7) A3 B0) (hst:=B0))))
   K2))
   (B5 (K5 (J6 (K6 Q4 (C7 F1 (pv 3) A7) F6 (D1 _))
   (C1 (E3 (pmF (pv 0) T.ac T.cH (C5k T) hr (A1 (C7 F1 (pv 4) A7) (A1 (C7 F1 (pv 4) A7) A3 B0) B0) (hst:=B0))))
   K2))
   (C1 (E3 (pmF (pv 0) T.ac T.bR (C5l T) hr (A1 (C7 F1 (pv 4) A7) A3 B0) (hst:=B0)))))))))),?_⟩
  try dsimp only[G5,Cx.nox]
  have hs:=C6m R;obtain⟨hx,q1,q2,q3,q4,q5⟩:=R;have sz:∀{n:Nat},n<=1000->n<=sizeLine:=λh=>J1 h (by rw[sizeLine_eq];decide);refine⟨_,rfl,rfl,x,_,rfl,rfl,DD,hx,λl nl=>?_⟩;rw[hs];have s1:=Same.upd (o:=.lst ((dd.wd::dd.os.map lvW).map V.str)) nl;have el:upd H l (.lst ((dd.wd::dd.os.map lvW).map V.str)) l=some (.lst ((dd.wd::dd.os.map lvW).map V.str)):=B3;generalize upd H l (.lst ((dd.wd::dd.os.map lvW).map V.str))=H1 at s1 el ⊢;dsimp only[G3,J5];have at0:atI ((dd.wd::dd.os.map lvW).map V.str) 0=some (V.str dd.wd):=A9k;refine⟨fun σ' H'=>σ'=[some (.ref p),some (.str x),some (.ref tl),some (.ref l),none]/\H1=H'/\dd.wd≠ "aim",?_,?_⟩
  ·refine⟨_,rfl,l,_,_,_,rfl,rfl,SqL.of el,at0,rfl,_,rfl,?_⟩;by_cases c:dd.wd = "aim"
   ·rw[decide_eq_true (congrArg V.str c)];cases dd with
    | aim g0=>have eg:=s1 _ _ (hg g0 rfl);refine G4 ⟨_,rfl,p,dx,_,rfl,s1 _ _ e1,K7 KK,_,rfl,tl,_,rfl,.inl (SqL.of eg),λl2 n2=>?_⟩;have s2:=s1.tr (Same.upd (o:=.lst (g0.map oV)) n2);refine⟨F,p,d,k,_,_,rfl,(λb hb=>hF b (s2.early hb)),kp0.same s2,.cons (.lst trivial B3 (A1h g0)) .nil,⟨_,⟨_,rfl⟩,rfl,ok,lr.tab.len,dok⟩,λr v k' H3 po kp1 tv fr ap=>?_⟩;obtain⟨_,⟨g0',rfl⟩,e0,b,lb,rfl,rfl⟩:=po;cases B0k (PyData.list.inj (a9.inj e0).1);exact told b v H3 lb kp1 tv.any λb o e n1 n2=>fr _ _ (s2 _ _ e) n1 n2
    | _=>exact absurd c (by dsimp only[K3.wd];decide)
   ·rw[decide_eq_false λz=>c (V.str.inj z)];exact E4 ⟨rfl,rfl,c⟩
  rintro σ' _ ⟨rfl,rfl,c1⟩;have hnn:∀o∈dd.os,o≠none:=by
   rcases q5 with ⟨z,_⟩ | ⟨_,_,z⟩
   ·cases dd with
    | aim g0=>exact absurd rfl c1
    | _=>exact absurd z (by dsimp only[K3.wd];decide)
   ·exact z
  have hcut:A04 ((dd.wd::dd.os.map lvW).map V.str) (some 1) none=dd.os.map λo=>V.str (lvW o):=by
   rw[K9,C6n,N6];rfl
  have szo:dd.os.length<sizeLine:=A0i q4 (by rw[sizeLine_eq];decide);refine⟨_,rfl,_,rfl,l,_,rfl,SqL.of el,λl2 n2=>?_⟩;rw[hcut];have s2:=Same.upd (o:=.lst (dd.os.map λo=>V.str (lvW o))) n2;have e2:upd H1 l2 (.lst (dd.os.map λo=>V.str (lvW o))) l2=some (.lst (dd.os.map λo=>V.str (lvW o))):=B3;generalize upd H1 l2 (.lst (dd.os.map λo=>V.str (lvW o)))=H2 at s2 e2 ⊢;refine⟨l2,rfl,⟨_,SqL.of e2⟩,?_⟩;refine B87 (dd.os.map oV) (by rw[B6,B6]) (by rw[B6];exact szo) (λHx s=>SqL.of (s _ _ e2)) (λi y v hy hv Hx s ca R hR=>?_) λH3 s3 l3 n3=>?_
  ·rw[P6] at hy hv;obtain⟨o,ho,rfl⟩:=A28.mp hy;rw[ho] at hv;cases hv;have hm:=R6 ho;cases o with
   | none=>exact absurd rfl (hnn _ hm)
   | some n=>have h60:=q3 n hm;obtain⟨e,le⟩:=B52 (A8a h60);rw[B55 h60] at e;exact⟨_,rfl,itx n,n,rfl,e,OO,hR _ λJ J z=>z⟩
  have s4:=s2.tr (s3.tr (Same.upd (o:=.lst (dd.os.map oV)) n3));have e4':upd H3 l3 (.lst (dd.os.map oV)) l3=some (.lst (dd.os.map oV)):=B3;generalize upd H3 l3 (.lst (dd.os.map oV))=H4 at s4 e4' ⊢;dsimp only[J5];have el4:=s4 _ _ el;have s5:=s1.tr s4;have kp5:=kp0.same s5;have e15:=s5 _ _ e1;have hF5:∀b,H4 b=none->F b:=λb hb=>hF b (s5.early hb);have tst:∀(w0:Str)(Qx:Bool->Hp->Prop),Qx (decide (dd.wd=w0)) H4->A86 (tOp rEq (tOp (B4g K) (Y9 3) (tC (V.int 0))) (tC (V.str w0))) [some (.ref p),some (.str x),some (.ref tl),some (.ref l),some (.ref l3)] H4 Qx:=λw0 Qx h=>by
   refine⟨_,rfl,l,_,_,_,rfl,rfl,SqL.of el4,at0,rfl,_,rfl,?_⟩;rw[show decide (V.str dd.wd=V.str w0)=decide (dd.wd=w0) from by rw[decide_eq_decide];exact⟨V.str.inj,congrArg V.str⟩];exact h
  have fin:∀{D:K3->Prop}{r:PyData}{v:V}{k':Kst}{H5:Hp},(∃dd',D dd'/\dd.args=dd'.args/\B3f (G9 k dd') k.low r k')->(∀dd',D dd'->dd.args=dd'.args->dd'=dd)->E7 F T.aa H5 p d k'->ThV TT0 H5 v r->(∀b o,H4 b=some o->b≠p->b≠d->H5 b=some o)->Q v H5:=λpo inj kp1 tv fr=>by
   obtain⟨dd',hd',e0,b,lb,rfl,rfl⟩:=po;obtain rfl:=inj dd' hd' e0;exact told b _ _ lb kp1 tv λb o e n1 n2=>fr _ _ (s5 _ _ e) n1 n2
  refine⟨fun σ' H'=>σ'=[some (.ref p),some (.str x),some (.ref tl),some (.ref l),some (.ref l3)]/\H4=H'/\dd.wd≠ "lay",?_,?_⟩
  ·refine tst "lay" _ ?_;by_cases c:dd.wd = "lay"
   ·rw[decide_eq_true c];cases dd with
    | lay x0 w0=>refine G4 ⟨_,rfl,p,dx,_,rfl,e15,K7 KK,_,rfl,l3,_,0,_,rfl,rfl,SqL.of e4',rfl,_,rfl,l3,_,1,_,rfl,rfl,SqL.of e4',rfl,_,rfl,l3,_,2,_,rfl,rfl,SqL.of e4',rfl,_,rfl,l3,_,3,_,rfl,rfl,SqL.of e4',rfl,F,p,d,k,_,_,rfl,hF5,kp5,.cons (.int _) (.cons (.int _) (.cons (.int _) (.cons (.int _) .nil))),⟨_,⟨_,_,rfl⟩,rfl,ok,lr.tab.len,dok⟩,λr v k' H5 po kp1 tv fr ap=>?_⟩;exact fin po (λdd' h e=>by obtain⟨x',w',rfl⟩:=h;obtain⟨rfl,rfl⟩:=C52 e;rfl) kp1 tv.any fr
    | _=>exact absurd c (by dsimp only[K3.wd];decide)
   ·rw[decide_eq_false c];exact E4 ⟨rfl,rfl,c⟩
  rintro σ' _ ⟨rfl,rfl,c2⟩;refine⟨fun σ' H'=>σ'=[some (.ref p),some (.str x),some (.ref tl),some (.ref l),some (.ref l3)]/\H4=H'/\dd.wd≠ "lift",?_,?_⟩
  ·refine tst "lift" _ ?_;by_cases c:dd.wd = "lift"
   ·rw[decide_eq_true c];cases dd with
    | lift x0=>refine G4 ⟨_,rfl,p,dx,_,rfl,e15,K7 KK,_,rfl,l3,_,0,_,rfl,rfl,SqL.of e4',rfl,F,p,d,k,_,_,rfl,hF5,kp5,.cons (.int _) .nil,⟨_,⟨_,rfl⟩,rfl,ok,lr.tab.len,dok⟩,λr v k' H5 po kp1 tv fr ap=>?_⟩;exact fin po (λdd' h e=>by obtain⟨x',rfl⟩:=h;cases e;rfl) kp1 tv.any fr
    | _=>exact absurd c (by dsimp only[K3.wd];decide)
   ·rw[decide_eq_false c];exact E4 ⟨rfl,rfl,c⟩
  rintro σ' _ ⟨rfl,rfl,c3⟩;refine⟨fun σ' H'=>σ'=[some (.ref p),some (.str x),some (.ref tl),some (.ref l),some (.ref l3)]/\H4=H'/\dd.wd≠ "turn",?_,?_⟩
  ·refine tst "turn" _ ?_;by_cases c:dd.wd = "turn"
   ·rw[decide_eq_true c];cases dd with
    | turn x0 c0=>refine G4 ⟨_,rfl,p,dx,_,rfl,e15,K7 KK,_,rfl,l3,_,0,_,rfl,rfl,SqL.of e4',rfl,_,rfl,l3,_,1,_,rfl,rfl,SqL.of e4',rfl,F,p,d,k,_,_,rfl,hF5,kp5,.cons (.int _) (.cons (.int _) .nil),⟨_,⟨_,_,rfl⟩,rfl,ok,lr.tab.len,dok⟩,λr v k' H5 po kp1 tv fr ap=>?_⟩;exact fin po (λdd' h e=>by obtain⟨x',c',rfl⟩:=h;cases e;rfl) kp1 tv.any fr
    | _=>exact absurd c (by dsimp only[K3.wd];decide)
   ·rw[decide_eq_false c];exact E4 ⟨rfl,rfl,c⟩
  rintro σ' _ ⟨rfl,rfl,c4⟩;cases dd with
  | refill x0=>refine⟨_,rfl,p,dx,_,rfl,e15,K7 KK,_,rfl,l3,_,0,_,rfl,rfl,SqL.of e4',rfl,F,p,d,k,_,_,rfl,hF5,kp5,.cons (.int _) .nil,⟨_,⟨_,rfl⟩,rfl,ok,lr.tab.len,dok⟩,λr v k' H5 po kp1 tv fr ap=>?_⟩;exact fin po (λdd' h e=>by obtain⟨x',rfl⟩:=h;cases e;rfl) kp1 tv.any fr
  | lay _ _=>exact absurd rfl c2
  | lift _=>exact absurd rfl c3
  | turn _ _=>exact absurd rfl c4
  | aim _=>exact absurd rfl c1
theorem B3n:∀ws:List Str,(∀w∈ws,w.length<=61)->(jn ws).length<=ws.length*62
 | [],_=>by show 0<=_;omega
 | [w],h=>by
  rw[g7,<-V0];have:=h w D6;show _<=1*62;omega
 | w::v::r,h=>by
  have h1:=h w D6;have h2:=B3n (v::r) λu hu=>h u (C8 _ hu);rw[t8,S8,K4,<-V0,K4 (a:=w)];omega
theorem A18 {x w0:Str}{os:Tb}(e:cp x=jn (w0::os.map lvW))(hl:w0.length<=10)(hw:32∉cp w0)(h3:∀n,some n∈os->n.natAbs<10^60)(h4:os.length<=400)(h5:(Tbl w0=true/\os≠[])\/(Tbl w0=false/\NmB w0=some os.length/\∀o∈os,o≠none)):i9 x w0 os:=by
 refine⟨?_,e,hw,h3,h4,h5⟩;rw[V0,e];have:=B3n (w0::os.map lvW) λw hw=>by
  rcases G1.mp hw with rfl | hw
  ·omega
  ·obtain⟨o,ho,rfl⟩:=M9.mp hw;cases o with
   | none=>show Str.length "-" <=61;decide
   | some n=>exact W3 (h3 n ho)
 rw[K4,B6] at this;omega
theorem A6n:cp (Str.ofString " ")=[32]:=by decide
theorem jn2 (w:Str)(r:List Str)(h:r≠[]):jn (w::r)=cp w++32::jn r:=by
 cases r with
 | nil=>exact absurd rfl h
 | cons v r=>exact t8 w v r
theorem B9b (ws:List Str):cp (Z6 ws)=jn ws:=B51 ws
def ddW:K3->Str
 | .lay x w=>Str.empty++ "lay " ++itx x++ " " ++itx ((w.1:Nat):Int)++ " " ++itx ((w.2.1:Nat):Int)++ " " ++itx w.2.2
 | .lift x=>Str.empty++ "lift " ++itx x
 | .turn x c=>Str.empty++ "turn " ++itx x++ " " ++itx c
 | .refill s=>Str.empty++ "refill " ++itx s
 | .aim g=> "aim " ++Z6 (g.map lvW)
theorem i60 {n:Int}(h0:-100000000000000000000<=n)(h:n<=100000000000000000000):n.natAbs<10^60:=A0i (show n.natAbs<=100000000000000000000 by omega) (DD)
theorem B9c {m:Nat}{st:Int}{t:Tb}(h:F9 m st t)(h1:st<=100000000000000000000):∀n,some n∈t->n.natAbs<10^60:=λn ho=>by
 obtain⟨p,hp⟩:=C7j ho;have:=h.bd p n (by unfold gt;rw[hp];rfl);exact i60 OO (OO)
theorem E0w {m:Nat}{st:Int}{t:Tb}(h:F9 m st t)(m1:1<=m):t≠[]:=λz=>by
 have:=h.len;rw[z] at this;have:(0:Nat)=m:=this;omega
theorem B9d {w0:Str}{x0:Str}{m:Nat}{st:Int}{t:Tb}(tb:Tbl w0=true)(hx:cp x0=cp w0++[32])(hl:w0.length<=10)(hw:32∉cp w0)(h:F9 m st t)(h1:st<=100000000000000000000)(m1:1<=m)(m2:m<=12):i9 (x0++Z6 (t.map lvW)) w0 t:=by
 have ne:=E0w h m1;refine A18 ?_ hl hw (B9c h h1) (by have:=h.len;omega) (.inl ⟨tb,ne⟩);rw[A1c,B9b,hx,jn2 _ _ (λz=>ne (B9w.mp z)),m5];rfl
theorem cp_e:cp Str.empty=[]:=rfl
theorem C6s {k:Kst}{dd:K3}(ok:KOk k.m k.st k.g k.kws)(h:A39 k dd):i9 (ddW dd) dd.wd dd.os:=by
 have m1:=ok.m1;have m2:=ok.m2;have s1:=ok.s1;cases dd with
 | lay x w=>
  obtain⟨⟨a,b⟩,_,c,_⟩:=h;have h1:=c.st;have h2:=c.en;have h3:=c.lo;have h4:=c.hi;refine A18 ?_ (by show Str.length "lay" <=10;decide) (by show 32∉cp "lay";decide) (λn hn=>?_) (by show 4<=400;decide) (.inr ⟨by show Tbl "lay" = false;decide,by show NmB "lay" = some 4;decide,λo ho=>?_⟩)
  ·show cp (Str.empty++ "lay " ++itx x++ " " ++itx ((w.1:Nat):Int)++ " " ++itx ((w.2.1:Nat):Int)++ " " ++itx w.2.2)=jn [("lay" : Str),itx x,itx ((w.1:Nat):Int),itx ((w.2.1:Nat):Int),itx w.2.2];simp only[A1c,A6n,cp_e,t8,g7,m5,O1,T6];rfl
  ·simp only[K3.os,G1,Option.some.injEq,W5,or_false] at hn;rcases hn with rfl | rfl | rfl | rfl <;> exact i60 OO (OO)
  ·simp only[K3.os,G1,W5,or_false] at ho;rcases ho with rfl | rfl | rfl | rfl <;> exact λz=>by cases z
 | lift x=>
  obtain⟨⟨a,b⟩,_⟩:=h;refine A18 ?_ (by show Str.length "lift" <=10;decide) (by show 32∉cp "lift";decide) (λn hn=>?_) (by show 1<=400;decide) (.inr ⟨by show Tbl "lift" = false;decide,by show NmB "lift" = some 1;decide,λo ho=>?_⟩)
  ·show cp (Str.empty++ "lift " ++itx x)=jn [("lift" : Str),itx x];simp only[A1c,A6n,cp_e,t8,g7,m5,O1,T6];rfl
  ·simp only[K3.os,G1,Option.some.injEq,W5,or_false] at hn;subst hn;exact i60 OO (OO)
  ·simp only[K3.os,G1,W5,or_false] at ho;subst ho;exact λz=>by cases z
 | turn x c=>
  obtain⟨⟨⟨a,b⟩,_⟩,c0,c1⟩:=h;refine A18 ?_ (by show Str.length "turn" <=10;decide) (by show 32∉cp "turn";decide) (λn hn=>?_) (by show 2<=400;decide) (.inr ⟨by show Tbl "turn" = false;decide,by show NmB "turn" = some 2;decide,λo ho=>?_⟩)
  ·show cp (Str.empty++ "turn " ++itx x++ " " ++itx c)=jn [("turn" : Str),itx x,itx c];simp only[A1c,A6n,cp_e,t8,g7,m5,O1,T6];rfl
  ·simp only[K3.os,G1,Option.some.injEq,W5,or_false] at hn;rcases hn with rfl | rfl <;> exact i60 OO (OO)
  ·simp only[K3.os,G1,W5,or_false] at ho;rcases ho with rfl | rfl <;> exact λz=>by cases z
 | refill s=>
  obtain⟨⟨a,b⟩,_⟩:=h;refine A18 ?_ (by show Str.length "refill" <=10;decide) (by show 32∉cp "refill";decide) (λn hn=>?_) (by show 1<=400;decide) (.inr ⟨by show Tbl "refill" = false;decide,by show NmB "refill" = some 1;decide,λo ho=>?_⟩)
  ·show cp (Str.empty++ "refill " ++itx s)=jn [("refill" : Str),itx s];simp only[A1c,A6n,cp_e,t8,g7,m5,O1,T6];rfl
  ·simp only[K3.os,G1,Option.some.injEq,W5,or_false] at hn;subst hn;exact i60 OO (OO)
  ·simp only[K3.os,G1,W5,or_false] at ho;subst ho;exact λz=>by cases z
 | aim g=>exact B9d (w0:= "aim") (x0:= "aim ") DD DD DD DD h ok.s1 m1 m2
theorem C6t:i9 "least" "least" []:=A18 (by rw[A4l,g7]) DD DD (λn h=>nomatch h) DD (.inr ⟨DD,DD,λo h=>nomatch h⟩)
theorem E0x:i9 "ways" "ways" []:=A18 (by rw[A4l,g7]) DD DD (λn h=>nomatch h) DD (.inr ⟨DD,DD,λo h=>nomatch h⟩)
theorem E0y {m:Nat}{st:Int}(m2:m<=12)(s0:0<=st)(s1:st<=100000000000000000000):i9 (Str.empty++ "land " ++itx ((m:Nat):Int)++ " " ++itx st) "land" [some ((m:Nat):Int),some st]:=by
 refine A18 ?_ DD DD (λn hn=>?_) (by show 2<=400;decide) (.inr ⟨DD,by show NmB "land" = some 2;decide,λo ho=>?_⟩)
 ·show _=jn [("land" : Str),itx ((m:Nat):Int),itx st];simp only[A1c,A6n,cp_e,t8,g7,m5,O1,T6];rfl
 ·simp only[G1,Option.some.injEq,W5,or_false] at hn;rcases hn with rfl | rfl <;> exact i60 OO (OO)
 ·simp only[G1,W5,or_false] at ho;rcases ho with rfl | rfl <;> exact λz=>by cases z
theorem E0z {m:Nat}{top:Int}{b g:Sp2}(m2:m<=12)(t1:top<=100000000000000000000)(hb:SpB m top b)(hg:SpB m top g):i9 ("store " ++spW b g) "store" [some ((b.1:Nat):Int),some b.2,some ((g.1:Nat):Int),some g.2]:=by
 obtain⟨b1,b2,b3⟩:=hb;obtain⟨g1,g2,g3⟩:=hg;refine A18 ?_ DD DD (λn hn=>?_) (by show 4<=400;decide) (.inr ⟨DD,by show NmB "store" = some 4;decide,λo ho=>?_⟩)
 ·show _=jn [("store" : Str),itx ((b.1:Nat):Int),itx b.2,itx ((g.1:Nat):Int),itx g.2];unfold spW;simp only[A1c,A6n,cp_e,t8,g7,m5,O1,T6];rfl
 ·simp only[G1,Option.some.injEq,W5,or_false] at hn;rcases hn with rfl | rfl | rfl | rfl <;> exact i60 OO (OO)
 ·simp only[G1,W5,or_false] at ho;rcases ho with rfl | rfl | rfl | rfl <;> exact λz=>by cases z
theorem E00 {m most:Nat}{top:Int}{b g:Sp2}(m2:m<=12)(t1:top<=100000000000000000000)(hb:SpB m top b)(hg:SpB m top g)(hm:most<=200):i9 (Str.empty++ "soon " ++spW b g++ " " ++itx ((most:Nat):Int)) "soon" [some ((b.1:Nat):Int),some b.2,some ((g.1:Nat):Int),some g.2,some ((most:Nat):Int)]:=by
 obtain⟨b1,b2,b3⟩:=hb;obtain⟨g1,g2,g3⟩:=hg;refine A18 ?_ DD DD (λn hn=>?_) (by show 5<=400;decide) (.inr ⟨DD,by show NmB "soon" = some 5;decide,λo ho=>?_⟩)
 ·show _=jn [("soon" : Str),itx ((b.1:Nat):Int),itx b.2,itx ((g.1:Nat):Int),itx g.2,itx ((most:Nat):Int)];unfold spW;simp only[A1c,A6n,cp_e,t8,g7,m5,O1,T6];rfl
 ·simp only[G1,Option.some.injEq,W5,or_false] at hn;rcases hn with rfl | rfl | rfl | rfl | rfl <;> exact i60 OO (OO)
 ·simp only[G1,W5,or_false] at ho;rcases ho with rfl | rfl | rfl | rfl | rfl <;> exact λz=>by cases z
def Y7 (n:Nat)(d:PyData):Prop:=d.canLay0=true/\d.depth<=n
theorem Y7.all {n:Nat}:∀{ds:List PyData},(∀d∈ds,Y7 n d)->PyData.canLayAll0 ds=true/\PyData.depthAll ds<=n
 | [],_=>⟨rfl,P5 _⟩
 | d::ds,h=>by
  obtain⟨a,b⟩:=Y7.all λx hx=>h x (C8 _ hx);obtain⟨a1,b1⟩:=h d D6;constructor
  ·show (PyData.canLay0 d&&PyData.canLayAll0 ds)=true;rw[a,a1];rfl
  ·show max (PyData.depth d) (PyData.depthAll ds)<=n;omega
theorem Y7.lst {n:Nat}{ds:List PyData}(h:∀d∈ds,Y7 n d):Y7 (n+1) (.list ds):=by
 obtain⟨a,b⟩:=Y7.all h;refine⟨by rw[PyData.canLay0];exact a,?_⟩;show PyData.depthAll ds+1<=n+1;omega
theorem Y7.dep {n:Nat}{a:PyData}(h:Y7 n a)(l:n<=64)(b:PyData):min a.depth b.depth<=64:=by have:=h.2;omega
theorem Y7.same {n:Nat}{a:PyData}(h:Y7 n a):PyData.eqv a a=true:=PySem.SeqAt.eqv_refl _ h.1
def W4 (x0:Int)(j:Nat):Int:=(x0-1+((j:Nat):Int)) % ∅ + 1
theorem E01 (x0:Int)(j:Nat):W4 x0 (j+1)=W4 x0 j % ∅ + 1:=by unfold W4;omega
theorem E02 (x0:Int)(j:Nat):A16 (W4 x0 j):=by unfold W4 A16;omega
theorem E03 {x0:Int}(h:A16 x0):W4 x0 0=x0:=by unfold A16 at h;unfold W4;omega
theorem E04 {x0:Int}{i j:Nat}(hi:i<=1000)(hj:j<=1000)(h:W4 x0 i=W4 x0 j):i=j:=by unfold W4 at h;omega
theorem C6u {α:Type}[BEq α][LawfulBEq α]:∀{l k:List α},l.Nodup->(∀x∈l,x∈k)->l.length<=k.length
 | [],_,_,_=>P5 _
 | x::t,k,nd,h=>by
  have hx:=h x D6;obtain⟨nx,nt⟩:=B3r.mp nd;have:=C6u (k:=k.erase x) nt λy hy=>(List.mem_erase_of_ne (λz=>nx (by rw[<-z];exact hy))).mpr (h y (C8 _ hy));rw[List.length_erase_of_mem hx] at this;have:0<k.length:=List.length_pos_of_mem hx;rw[K4];omega
theorem E05 {x0:Int}{ks:List Int}{j:Nat}(hj:j<=1000)(h:∀i,i<j->W4 x0 i∈ks):j<=ks.length:=by
 have:=C6u (l:=(T5 j).map (W4 x0)) (k:=ks) ?_ λx hx=>?_
 ·rw[B6,w4] at this;exact this
 ·refine List.pairwise_map.mpr ?_;refine List.Pairwise.imp_of_mem (λ{a b} ha hb n z=>?_) (List.nodup_range (n:=j));exact n (E04 (by have:=A0x.mp ha;omega) (by have:=A0x.mp hb;omega) z)
 ·obtain⟨i,hi,rfl⟩:=M9.mp hx;exact h i (A0x.mp hi)
structure j9 (F:Addr->Prop)(H:Hp)(kl dc:Addr)(st:Int)(g:Tb)(kws:Kw):Prop where
 ob:∃gl,H kl=some (.lst [.ref dc,.int st,.ref gl])/\F kl/\F gl/\gl≠kl/\H gl=some (.lst (g.map oV))
 dc:∃kvs,H dc=some (.dK kvs)/\P2 H kvs kws
def E06:Sp:=λvs H Q J=>∃(F:Addr->Prop)(hd hl kl dc:Addr)(k:Kst)(sc:Int),vs=[.ref hd,.int ((k.m:Nat):Int),.int sc,.ref kl]/\Hd H hd hl/\(∀b,F b->b≠hd)/\j9 F H kl dc k.st k.g k.kws/\KOk k.m k.st k.g k.kws/\k.st<=∅/\(0<=sc/\sc<=∅)/\
 ∀dd H',A39 k dd->(G9 k dd).st<=∅->j9 (λb=>F b\/H b=none) H' kl dc (G9 k dd).st (G9 k dd).g (G9 k dd).kws->(∀b o,H b=some o->b≠hd->b≠kl->b≠dc->H' b=some o)->Hd H' hd hl->Q (.str (ddW dd)) H'
theorem C6v {F:Addr->Prop}{H:Hp}:∀xs:List Int,B4 F H (xs.map V.int) (xs.map PyData.int)
 | []=>.nil
 | x::xs=>.cons (.int _) (C6v xs)
theorem Y7.ints (ns:List Int):Y7 1 (.list (ns.map PyData.int)):=Y7.lst λd hd=>by
 obtain⟨n,_,rfl⟩:=M9.mp hd;exact⟨rfl,P5 _⟩
theorem E07 {c:TT}{t u:TS}{D:A0j}{σ:St}{H:Hp}(good:Bool->Hp->Prop)(h:∀Qx:Bool->Hp->Prop,(∀b H2,good b H2->Qx b H2)->c σ H Qx)(h2:∀b H2,good b H2->if b=true then t D σ H2 else u D σ H2):B94 c t u D σ H:=h _ h2
theorem E08 {F:Addr->Prop}{ms:List Md}{sp:DSp}{vs:List V}{ds:List PyData}{H:Hp}{Q:VK}{E:XK}{hd hl:Addr}(hF:(∀b,H b=none->F b)/\∀b xs,H b=some (.tup xs)->F b)(nh:¬ F hd)(Qd:PyData->Prop)(d:Hd H hd hl)(ar:d8 F (some (hd,hl)) H ms vs ds)(h:sp (.none::ds) Qd)(k:∀d v H',Qd d->ThV F H' v d->Kq (some (hd,hl)) H H'->Hd H' hd hl->Q v H'):spD (.hd::ms) sp (.ref hd::vs) H Q E:=
 ⟨F,some (hd,hl),.none::ds,Qd,hF,λq hq=>by cases hq;exact nh,λq hq=>by cases hq;exact d,.cons ⟨_,rfl,rfl⟩ ar,h,λd v H' a b c z=>k d v H' a b c (z _ rfl)⟩
theorem C6w {hd hl:Addr}{sc:Int}{Hx:Hp}{Qv:VK}(hsc:0<=sc/\sc<=∅)(hx:Hd Hx hd hl)(q:∀r Hy,-∅<=r->r<=∅->Kp hd Hx Hy->Hd Hy hd hl->Qv (.int r) Hy):spD [.hd,.sh] C5o [.ref hd,.int sc] Hx Qv E0:=
 B8l (E:=E0) (λd=>∃r:Int,(-∅<=r/\r<=∅)/\d=.int r) hx (.cons (.int _) .nil) ⟨_,sc,rfl,hsc.1,hsc.2,λr r0 r1=>⟨r,⟨OO,OO⟩,rfl⟩⟩ λd v Hy hd' tv ky hy=>by
  obtain⟨r,⟨r0,r1⟩,rfl⟩:=hd';cases tv;exact q r Hy r0 r1 (λb o e n=>ky b o e λq hq=>by cases hq;exact n) hy
theorem E09 {F:Addr->Prop}{H:Hp}{vs:List V}{d1 d2 d3:PyData}(t:B4 F H vs [d1,d2,d3]):∃v1 v2 v3,vs=[v1,v2,v3]/\ThV F H v1 d1/\ThV F H v2 d2/\ThV F H v3 d3:=by
 cases t with
 | cons a t=>cases t with
  | cons b t=>cases t with
   | cons c t=>cases t;exact⟨_,_,_,rfl,a,b,c⟩
theorem E1a:FK P w base 6 T.dY E06:=by
 have ai:=@A36 P w K mg base T;refine T.dY.F.ok i7 (λJ H Q J h=>?_) (λJ J J s H J Q J hr h=>?_)
 ·obtain⟨F,hd,hl,kl,dc,k,sc,rfl,_⟩:=h;rfl
 ·obtain⟨F,hd,hl,kl,dc,k,sc,rfl,hh,hF,⟨⟨gl,e1,f1,f2,nkg,e2⟩,kvs,e3,kv⟩,ok,hst,hsc,told⟩:=h;refine⟨_,(B5 (V4 (pv 3) (D3t (n:=3) rfl (T1 (O8 (i:=4) i7.nd) (T1 (O8 (i:=5) i7.nd) (T1 (O8 (i:=6) i7.nd) A3e)))))
   (B5 (pS (i:=7) i7.nd (J2 (B5x rfl) rfl T.fh B4p (A1 (pv 4) A3 A0)))
   (B5 (pS (i:=8) i7.nd (pcF T.ae ai hr (A1 (pv 0) (A1 A7 A3 E6) A0)))
   (B5 (K5 (J6 (PW.pt (A3d (PW.pt (A61 (K6 x6 (pv 8) A7 (D1 _)) (A60 (K6 x6 (J2 C3a rfl T.bq V9 (A1 (pv 4) A3 A0)) A7 (D1 _))))) (A3c (PW.pt (A61 (K6 (B4o (X3 hr)) (pv 7) (U6 A3) (D1 _)) (A60 (K6 x6 (pv 8) A7 (D1 _))))))))
   (B5 (pS (i:=9) i7.nd (F0 N3 A7 (pcF T.ae ai hr (A1 (pv 0) (A1 (C7 F1 (U6 (A1 A7 (A1 (F0 U5 A7 A7) A3 E9) E6)) (pcF T.ae ai hr (A1 (pv 0) (A1 A7 A3 E6) A0))) A3 B0) A0))))
   (B5 (A4t m6 (B36 (C26 (u1 (X3 hr)) (pv 9) (pv 4)))
   (C1 (pS (i:=9) i7.nd (F0 N3 (F0 A2f (pv 9) (F0 U5 A7 A7)) A7))))
   (B5 (pS (i:=10) i7.nd (o7 (A1 (pcF T.ae ai hr (A1 (pv 0) (A1 (pv 1) A3 A0) A0)) (A1 (pcF T.ae ai hr (A1 (pv 0) (A1 (pv 1) A3 A0) A0)) (A1 (pcF T.cz (D85 T) hr (A1 (pv 0) (A1 (pv 2) A3 A0) A0)) A3 C0) C0) C0)))
   (B5 (B17 (u1 (X3 hr)) (pv 4) (pv 9) (pv 10) rfl)
   (C1 (E3 (A2v (K1 F6 (K1 (S2 (pv 9)) (K1 F6 (K1 (S2 (C7 U7 (pv 10) A7)) (K1 F6 (K1 (S2 (C7 U7 (pv 10) A7)) (K1 F6 (K1 (S2 (C7 U7 (pv 10) A7)) A2u)))))))))))))))
   K2))
   (B5 (K5 (J6 (K6 x6 (pv 8) A7 (D1 _))
   (B5 (pS (i:=9) i7.nd (C7 F1 (pv 7) (pcF T.ae ai hr (A1 (pv 0) (A1 (J2 Z1 rfl T.bq V9 (A1 (pv 7) A3 A0)) A3 C0) A0))))
   (B5 (K5 (J6 (K6 Q4 (pv 8) A7 (D1 _))
   (B5 (A0k (C28 (pv 4) (pv 9) ⟨rfl,rfl,rfl,rfl⟩))
   (C1 (E3 (A2v (K1 F6 (K1 (S2 (pv 9)) A2u))))))
   K2))
   (B5 (V4 (B16 (u1 (X3 hr)) (pv 4) (pv 9) (λJ J=>rfl)) (A4s (n:=3) rfl (T1 (O8 (i:=11) i7.nd) (T1 (O8 (i:=12) i7.nd) (T1 (O8 (i:=13) i7.nd) A3e)))))
   (B5 (pS (i:=13) i7.nd (pcF T.cz (D85 T) hr (A1 (pv 0) (A1 (pv 2) A3 A0) A0)))
   (B5 (B17 (u1 (X3 hr)) (pv 4) (pv 9) (o7 (A1 (pv 11) (A1 (pv 12) (A1 (pv 13) A3 A0) A0) A0)) rfl)
   (C1 (E3 (A2v (K1 F6 (K1 (S2 (pv 9)) (K1 F6 (K1 (S2 (pv 13)) A2u))))))))))))
   K2))
   (B5 (K5 (J6 (K6 Q4 (pv 8) A7 (D1 _))
   (B5 (pS (i:=14) i7.nd (J2 (C98 rfl) rfl T.eE A41 (A1 (F0 A1s (U6 (A1 A7 A3 E6)) (S1 (M7.new (N:=["_law_hand_here","_law_many","_law_scale_here","_law_kept","_law_ways","_law_store","_law_goal","_law_there","_law_way","_law_label","_law_one","_law_start","_law_end","_law_change_here","_law_least_one"]) (osc:=B1 A9w) KK) rfl (W7 (pv 6)) (λJ=>(B1f (K6 A2g (pv 15) m7 (D1 _)))) (λJ=>(pv 15)))) A3 E9)))
   (B5 (V4 (J2 (A1q rfl) rfl T.dv A1u (A1 (F0 U5 A7 A7) (A1 (F0 N3 (pv 14) (pcF T.ae ai hr (A1 (pv 0) (A1 (C7 F1 (U6 (A1 A7 (A1 (F0 N3 (pv 2) A7) (A1 (F0 N3 (F0 A03 A7 (pv 2)) A7) A3 E9) E9) E6)) (pcF T.ae ai hr (A1 (pv 0) (A1 A7 A3 E6) A0))) A3 B0) A0))) A3 E9) E9)) (m8 (pv 3) A7 Z0))
   (C1 (E3 (A2v (K1 F6 (K1 (S2 (C7 F1 (pv 3) A7)) A2u)))))))
   K2))
   (B5 (V4 (pcF T.cD (C5q T) hr (A1 (pv 0) (A1 (pv 1) (A1 (J2 (A1q rfl) rfl T.dv A1u (A1 (pv 5) (A1 (F0 U5 A7 A7) A3 E9) A0)) A3 C0) A0) A0)) (m8 (pv 3) A7 Z0))
   (C1 (E3 (F0 B18 F6 (Z2 A6y B30 B31 A9r F6 (A1 (S1 (M7.new (N:=["_law_hand_here","_law_many","_law_scale_here","_law_kept","_law_ways","_law_store","_law_goal","_law_there","_law_way","_law_label","_law_one","_law_start","_law_end","_law_change_here","_law_least_one"]) (osc:=B1 A9w) KK) rfl (W7 (C7 F1 (pv 3) A7)) (λJ=>W8) (λJ=>(pcF T.cW (C6q T) hr (A1 (pv 15) A3 A0)))) A3 b7)))))))))))),?_⟩
  try dsimp only[G5,Cx.nox]
  have few:=ok.few;have m1:=ok.m1;have m2:=ok.m2;have s1k:=ok.s1;have s0k:=ok.s0;have lk:(D9 k.kws).length<64:=by unfold D9;rw[B6];omega
  have nek:=hF _ f1;have neg:=hF _ f2;have ndc:dc≠hd:=λz=>by
   obtain⟨_,_,_,_,_,_,_,_,e⟩:=hh;rw[z,e] at e3;cases e3
  have ndk:dc≠kl:=λz=>by rw[z,e1] at e3;cases e3
  have ndg:dc≠gl:=λz=>by rw[z,e2] at e3;cases e3
  have finD:∀(dd:K3)(Hx:Hp)(kvs':List (Key×V)),A39 k dd->(G9 k dd).st=k.st->(G9 k dd).g=k.g->Kp hd H Hx->Hd Hx hd hl->P2 Hx kvs' (G9 k dd).kws->Q (.str (ddW dd)) (upd Hx dc (.dK kvs')):=λdd Hx kvs' dok es eg kx hx kv'=>by
   have e3':=kx _ _ e3 ndc;have e1':upd Hx dc (.dK kvs') kl=some (.lst [.ref dc,.int k.st,.ref gl]):=by rw[B7 (Ne.symm ndk)];exact kx _ _ e1 nek
   have e2':upd Hx dc (.dK kvs') gl=some (.lst (k.g.map oV)):=by rw[B7 (Ne.symm ndg)];exact kx _ _ e2 neg
   have hx':Hd (upd Hx dc (.dK kvs')) hd hl:=by
    obtain⟨ns,q,b,c,u,v,h1,h2,h3⟩:=hx;exact⟨ns,q,b,c,u,v,by rw[B7 (λz=>by rw[z,e3'] at h1;cases h1)];exact h1,h2,by rw[B7 (Ne.symm ndc)];exact h3⟩
   refine told dd _ dok (by rw[es];exact hst) ?_ (λb o e n1 n2 n3=>by rw[B7 n3];exact kx _ _ e n1) hx';rw[es,eg];exact⟨⟨gl,e1',.inl f1,.inl f2,nkg,e2'⟩,kvs',B3,kv'.mv λb xs e=>by rw[B7 (λz=>by rw[z,e3'] at e;cases e)];exact e⟩
  refine A14 λW hW=>?_;refine⟨_,rfl,kl,_,rfl,SqL.of e1,rfl,_,_,rfl,_,_,rfl,_,_,rfl,rfl,?_⟩;dsimp only[G3,J5];refine Q0 W hW λW hW=>?_;refine⟨_,rfl,dc,kvs,_,rfl,e3,kv.keys,lk,λl1 ms hl1 hp hs=>?_⟩;have ems:=B8y hp hs;subst ems;obtain⟨H1,hH1⟩:∃H1,H1=upd H l1 (.lst ((srt (D9 k.kws)).map V.int)):=⟨_,rfl⟩;rw[<-hH1];have s1:Same H H1:=by rw[hH1];exact Same.upd hl1
  have el1:H1 l1=some (.lst ((srt (D9 k.kws)).map V.int)):=by rw[hH1];exact B3
  have h1:=hh.same s1;have nl1:l1≠hd:=λz=>by
   obtain⟨_,_,_,_,_,_,_,_,e⟩:=hh;rw[z,e] at hl1;cases hl1
  clear hH1 hp hs;have lsr:(srt (D9 k.kws)).length=k.kws.length:=by rw[(i8 _).length_eq];unfold D9;rw[B6]
  dsimp only[G3,J5];refine Q0 W hW λW hW=>?_;refine⟨_,rfl,T4 DD DD h1 λu H2 u0 u8 k2 h2=>?_⟩;have k02:Kp hd H H2:=s1.kp.trans k2;have el2:=k2 _ _ el1 nl1;clear s1 k2 el1 h1;dsimp only[G3,J5];refine Q0 W hW λW hW=>?_;refine⟨fun σ' H'=>σ'=[some (.ref hd),some (.int ((k.m:Nat):Int)),some (.int sc),some (.ref kl),some (.ref dc),some (.int k.st),some (.ref gl),some (.ref l1),some (.int u),none,none,none,none,none,none]/\Same H2 H'/\(u<6->srt (D9 k.kws)≠[]),?_,?_⟩
  ·refine E07 (λb Hz=>Same H2 Hz/\(b=true->k.kws.length<40)/\(b=false->u<6->srt (D9 k.kws)≠[])) (λQx hQ=>?_) (λb Hz hb=>?_)
   ·-- the test
    have tl:∀Hz,Same H2 Hz->ThV TT0 Hz (.ref l1) (.list ((srt (D9 k.kws)).map PyData.int)):=λHz s2=>.lst trivial (s2 _ _ el2) (C6v _);have snd:(¬ (u<4/\k.kws.length<40))->B91 (A86 (tOp (B1g K false) (Y9 7) (C0n T8))) (A86 (tOp (rI0 λi j=>V.bl (decide (i<j))) (Y9 8) (tC (V.int 6)))) [some (.ref hd),some (.int ((k.m:Nat):Int)),some (.int sc),some (.ref kl),some (.ref dc),some (.int k.st),some (.ref gl),some (.ref l1),some (.int u),none,none,none,none,none,none] H2 Qx:=λhn=>by
     refine⟨_,rfl,SZ (n:=0),λt ht=>?_⟩;have s2:Same H2 (upd H2 t (.lst [])):=Same.upd ht;have L1:=Y7.ints (srt (D9 k.kws));have L0:Y7 1 (.list []):=Y7.lst λd hd=>by cases hd
     refine⟨_,_,ThV.dat (tl _ s2) L1.1,ThV.dat (F:=TT0) (.lst trivial B3 .nil) L0.1,L1.1,L0.1,L1.dep DD _,_,rfl,?_⟩;cases e:srt (D9 k.kws) with
     | nil=>
      rw[A4l,L0.same];refine G4 ⟨_,rfl,_,_,rfl,rfl,_,rfl,?_⟩;have z0:k.kws.length=0:=by rw[<-lsr,e];rfl
      by_cases c6:u<6
      ·rw[decide_eq_true c6];exact hQ true _ ⟨s2,λJ=>OO,λz=>by cases z⟩
      ·rw[decide_eq_false c6];exact hQ false _ ⟨s2,(λz=>by cases z),λJ z=>absurd z c6⟩
     | cons x xs=>rw[show PyData.eqv (.list ((x::xs).map PyData.int)) (.list [])=false from rfl];exact E4 (hQ false _ ⟨s2,(λz=>by cases z),λJ J z=>by rw[e] at z;cases z⟩)
    refine⟨_,rfl,_,_,rfl,rfl,_,rfl,?_⟩;by_cases c4:u<4
    ·rw[decide_eq_true c4];refine G4 ⟨_,rfl,dc,kvs,rfl,k02 _ _ e3 ndc,_,_,rfl,rfl,_,rfl,?_⟩;rw[kv.len];by_cases c8:k.kws.length<40
     ·rw[decide_eq_true (show ((k.kws.length:Nat):Int)<40 by omega)];exact G4 (hQ true H2 ⟨λJ J e=>e,λJ=>c8,λz=>by cases z⟩)
     ·rw[decide_eq_false (show ¬ ((k.kws.length:Nat):Int)<40 by omega)];exact E4 (snd λz=>c8 z.2)
    ·rw[decide_eq_false c4];exact E4 (E4 (snd λz=>c4 z.1))
   ·obtain⟨s2,g1,g2⟩:=hb;cases b with
    | false=>exact E4 ⟨rfl,s2,g2 rfl⟩
    | true=>
    refine G4 ?_;have c8:=g1 rfl;have h3:=h2.same s2;have k3:Kp hd H Hz:=k02.trans s2.kp;clear g1 g2 k02;refine⟨_,rfl,_,_,rfl,rfl,⟨DD,DD,DD⟩,SZ (n:=2),λlx hlx=>?_⟩;have s5:Same Hz _:=Same.upd (o:=.lst [.int 20,.int (10^W6 18)]) hlx;refine⟨_,rfl,T4 DD DD (h3.same s5) λr3 H4 r30 r31 k4 h4=>?_⟩;have elx:=k4 _ _ (B3 (H:=Hz) (a:=lx)) (λz=>by
     obtain⟨_,_,_,_,_,_,_,_,e⟩:=h3;rw[z,e] at hlx;cases hlx)
    obtain⟨nb,hnb,nb0,nb1⟩:∃nb:Int,atI [V.int 20,V.int (10^W6 18)] r3=some (V.int nb)/\1<=nb/\nb<=∅:=by
     rcases lt2 r30 r31 with rfl | rfl
     ·exact⟨_,rfl,DD,DD⟩
     ·exact⟨_,rfl,DD,DD⟩
    refine⟨lx,_,_,_,rfl,rfl,SqL.of elx,hnb,T4 OO OO h4 λr4 H5 r40 r41 k5 h5=>?_⟩;have k05:Kp hd H H5:=((k3.trans s5.kp).trans k4).trans k5;clear k5 k4 k3 s5 elx hlx h4 h3 s2;refine⟨_,_,rfl,rfl,?_⟩;dsimp only[G3,J5];have lx0:A16 (1+r4):=⟨OO,OO⟩;have e35:=k05 _ _ e3 ndc;have kv5:=kv.mv λb xs e=>k05 _ _ e (A0v hh e);refine⟨λn σ Hn=>∃j:Nat,j+n=k.kws.length/\σ=[some (.ref hd),some (.int ((k.m:Nat):Int)),some (.int sc),some (.ref kl),some (.ref dc),some (.int k.st),some (.ref gl),some (.ref l1),some (.int u),some (.int (W4 (1+r4) j)),none,none,none,none,none]/\Hn=H5/\∀i,i<j->W4 (1+r4) i∈D9 k.kws,?_,?_⟩
    ·exact⟨k.kws.length,0,OO,by (rw[E03 lx0];rfl),rfl,λi hi=>absurd hi (Nat.not_lt_zero _)⟩
    rintro n σ Hn ⟨j,hj,rfl,rfl,hall⟩;refine⟨_,rfl,_,rfl,dc,_,rfl,Y3.k (k:=Sum.inl (W4 (1+r4) j)) e35,_,rfl,?_⟩;rcases kv5.val (W4 (1+r4) j) with ⟨hv,hn⟩ | ⟨v0,w0,hv,hw,_⟩
    ·rw[hv];refine E4 ?_;have lok:=E02 (1+r4) j;obtain⟨x,hx⟩:∃x,x=W4 (1+r4) j:=⟨_,rfl⟩;rw[<-hx] at lok hn ⊢;refine⟨_,rfl,_,rfl,T4 OO OO h5 λa1 H6 a10 a11 k6 h6=>⟨_,rfl,_,rfl,T4 OO OO h6 λb1 H7 b10 b11 k7 h7=>⟨_,rfl,_,rfl,C6w hsc h7 λc H8 c0 c1 k8 h8=>⟨SZ (n:=3),λt nt=>?_⟩⟩⟩⟩;obtain⟨a2,rfl,ha2⟩:=B3h a10 a11;obtain⟨b2,rfl,hb2⟩:=B3h b10 b11;have k08:Kp hd H H8:=((k05.trans k6).trans k7).trans k8;have s9:=Same.upd (o:=.tup [.int ((a2:Nat):Int),.int ((b2:Nat):Int),.int c]) nt;have e9:upd H8 t (.tup [.int ((a2:Nat):Int),.int ((b2:Nat):Int),.int c]) t=some (.tup [.int ((a2:Nat):Int),.int ((b2:Nat):Int),.int c]):=B3;generalize upd H8 t (.tup [.int ((a2:Nat):Int),.int ((b2:Nat):Int),.int c])=H9 at s9 e9 ⊢;have k09:Kp hd H H9:=k08.trans s9.kp;have h9:=h8.same s9;have e39:=k09 _ _ e3 ndc;dsimp only[G3,J5];refine⟨_,rfl,_,rfl,_,rfl,dc,_,rfl,A32.k (k:=Sum.inl x) e39 (by rw[kv.len,sizeLine_eq];omega),?_⟩;have ntd:t≠dc:=λz=>by rw[z,e39] at e9;cases e9
     have fn:=finD (.lay x (a2,b2,c)) H9 (U1 kvs (Sum.inl x) (.ref t)) ⟨lok,hn,⟨ha2,hb2,c0,c1⟩,OO⟩ rfl rfl k09 h9 ((kv.mv λb xs e=>k09 _ _ e (A0v hh e)).put (.tup trivial e9 (.cons (.int _) (.cons (.int _) (.cons (.int _) .nil)))));have et:upd H9 dc (.dK (U1 kvs (Sum.inl x) (.ref t))) t=some (.tup [.int ((a2:Nat):Int),.int ((b2:Nat):Int),.int c]):=by rw[B7 ntd];exact e9
     obtain⟨HA,hHA⟩:∃HA,HA=upd H9 dc (.dK (U1 kvs (Sum.inl x) (.ref t))):=⟨_,rfl⟩;rw[<-hHA] at fn et;rw[show upd H9 dc (.dK (U1 kvs (Sum.inl x) (V.ref t)))=HA from hHA.symm];have l0:Str.length Str.empty<=0:=E8 _;obtain⟨lo1,lo2⟩:=lok;refine U2 (k:=0) (n':=4) DD l0 DD λj1=>?_;refine S7 (n:=x) (i60 OO OO) j1 DD (λj2=>?_) λR r=>⟨_,rfl,r⟩;refine U2 (n':=1) DD j2 DD λj3=>?_;refine S7 (n:=((a2:Nat):Int)) (i60 OO OO) j3 DD (λj4=>?_) λR r=>⟨_,rfl,t,_,_,_,rfl,rfl,SqT.of et,rfl,r⟩;refine U2 (n':=1) DD j4 DD λj5=>?_;refine S7 (n:=((b2:Nat):Int)) (i60 OO OO) j5 DD (λj6=>?_) λR r=>⟨_,rfl,t,_,_,_,rfl,rfl,SqT.of et,rfl,r⟩;refine U2 (n':=1) DD j6 DD λj7=>?_;refine S7 (n:=c) (i60 OO OO) j7 DD (λj8=>?_) λR r=>⟨_,rfl,t,_,_,_,rfl,rfl,SqT.of et,rfl,r⟩;exact⟨J1 j8 (by rw[sizeLine_eq];decide),fn⟩
    ·rw[hv];refine G4 ?_;refine⟨_,fun σ' H2 h=>h,?_⟩;have hin:W4 (1+r4) j∈D9 k.kws:=M9.mpr ⟨_,A8k hw,rfl⟩;have hall':∀i,i<j+1->W4 (1+r4) i∈D9 k.kws:=λi hi=>by
      rcases Nat.lt_or_ge i j with z | z
      ·exact hall i z
      ·rw[show i=j by omega];exact hin
     have hle:=E05 (j:=j+1) OO hall';rw[show (D9 k.kws).length=k.kws.length by unfold D9;rw[B6]] at hle;refine⟨_,rfl,_,_,rfl,rfl,⟨DD,DD,DD⟩,_,_,rfl,rfl,(show (0:Int)<10^W6 18 by decide),_,_,rfl,rfl,?_⟩;exact⟨n-1,OO,j+1,OO,by rw[E01];rfl,rfl,hall'⟩
  rintro σ' H3 ⟨rfl,s2,g2⟩;have h3:=h2.same s2;have k03:Kp hd H H3:=k02.trans s2.kp;have el3:=s2 _ _ el2;clear k02 s2 h2 el2;have lpos:u<6->0<(srt (D9 k.kws)).length:=λz=>C69.mpr (g2 z);have pick:∀r:Int,0<=r->r<(((srt (D9 k.kws)).map V.int).length:Nat)->∃x,atI ((srt (D9 k.kws)).map V.int) r=some (.int x)/\A16 x/\∃w,K8 k.kws x=some w:=λr r0 r1=>by
   rw[B6] at r1;have hr1:r.toNat<(srt (D9 k.kws)).length:=by omega
   have hm:=(i8 (D9 k.kws)).mem_iff.mp (List.getElem_mem hr1);obtain⟨w,hw⟩:=A6h hm;refine⟨(srt (D9 k.kws))[r.toNat],?_,(ok.way _ (A8k hw)).1,w,hw⟩;have:=A2j (xs:=(srt (D9 k.kws)).map V.int) (j:=r.toNat) (v:=.int ((srt (D9 k.kws))[r.toNat])) (by rw[P6,P7 hr1];rfl);rw[Int.toNat_of_nonneg r0] at this;exact this
  clear g2;refine Q0 W hW λW hW=>?_;refine⟨fun σ' H'=>σ'=[some (.ref hd),some (.int ((k.m:Nat):Int)),some (.int sc),some (.ref kl),some (.ref dc),some (.int k.st),some (.ref gl),some (.ref l1),some (.int u),none,none,none,none,none,none]/\H3=H'/\6<=u,?_,?_⟩
  ·refine⟨_,rfl,_,_,rfl,rfl,_,rfl,?_⟩;by_cases c6:u<6
   ·rw[decide_eq_true c6];have lp:=lpos c6;refine G4 ⟨_,rfl,_,rfl,_,rfl,l1,_,rfl,.inl (SqL.of el3),T4 (by rw[B6];omega) (by rw[B6];omega) h3 λr H4 r0 r1 k4 h4=>?_⟩;obtain⟨x,hx,lx,w0,hw⟩:=pick r r0 r1;refine⟨l1,_,_,_,rfl,rfl,SqL.of (k4 _ _ el3 nl1),hx,?_⟩;dsimp only[G3,J5];have k04:Kp hd H H4:=k03.trans k4;have e34:=k04 _ _ e3 ndc;have kv4:=kv.mv λb xs e=>k04 _ _ e (A0v hh e);obtain⟨lo1,lo2⟩:=lx;have l0:Str.length Str.empty<=0:=E8 _;obtain⟨v0,hv,tv0⟩:∃v0,S6 kvs (Sum.inl x:Key)=some v0/\ThV TT0 H4 v0 (N9 w0):=by
     rcases kv4.val x with ⟨_,z⟩ | ⟨v0,w1,hv,hw1,t⟩
     ·rw[hw] at z;cases z
     ·rw[hw] at hw1;cases hw1;exact⟨v0,hv,t⟩
    refine⟨fun σ' H'=>σ'=[some (.ref hd),some (.int ((k.m:Nat):Int)),some (.int sc),some (.ref kl),some (.ref dc),some (.int k.st),some (.ref gl),some (.ref l1),some (.int u),some (.int x),none,none,none,none,none]/\H4=H'/\u≠5,?_,?_⟩
    ·refine⟨_,rfl,rfl,_,rfl,?_⟩;by_cases c5:u=5
     ·subst c5;rw[show decide (V.int 5=V.int 5)=true from decide_eq_true rfl];refine G4 ⟨_,rfl,dc,rfl,.inl ⟨_,.inl e34⟩,_,rfl,kvs,.inl x,v0,e34,rfl,hv,?_⟩;have fn:=finD (.lift x) H4 (A12 kvs (Sum.inl x)) ⟨⟨lo1,lo2⟩,w0,hw⟩ rfl rfl k04 h4 (kv4.drop x);refine U2 (k:=0) (n':=5) DD l0 DD λj1=>?_;refine S7 (n:=x) (i60 OO OO) j1 DD (λj2=>?_) λR r=>⟨_,rfl,r⟩;exact⟨J1 j2 (by rw[sizeLine_eq];decide),fn⟩
     ·rw[decide_eq_false λz=>c5 (V.int.inj z)];exact E4 ⟨rfl,rfl,c5⟩
    rintro σ' _ ⟨rfl,rfl,c5⟩;obtain⟨t0,us,rfl,_,e0,tu⟩:=Y0 tv0;obtain⟨v1,v2,v3,rfl,t1,t2,t3⟩:=E09 tu;cases t1;cases t2;cases t3;have dg:Y3 H4 dc (.int x) (some (.ref t0)):=by rw[<-hv];exact Y3.k (k:=Sum.inl x) e34
    refine⟨_,rfl,_,rfl,dc,_,rfl,dg,t0,_,rfl,SqT.of e0,rfl,_,_,rfl,_,_,rfl,_,_,rfl,rfl,?_⟩;dsimp only[G3,J5];refine⟨_,rfl,_,rfl,C6w hsc h4 λc H5 c0 c1 k5 h5=>?_⟩;dsimp only[G3,J5];have k05:Kp hd H H5:=k04.trans k5;refine⟨_,rfl,_,rfl,_,rfl,SZ (n:=3),λt nt=>?_⟩;have s9:=Same.upd (o:=.tup [.int ((w0.1:Nat):Int),.int ((w0.2.1:Nat):Int),.int c]) nt;have e9:upd H5 t (.tup [.int ((w0.1:Nat):Int),.int ((w0.2.1:Nat):Int),.int c]) t=some (.tup [.int ((w0.1:Nat):Int),.int ((w0.2.1:Nat):Int),.int c]):=B3;generalize upd H5 t (.tup [.int ((w0.1:Nat):Int),.int ((w0.2.1:Nat):Int),.int c])=H9 at s9 e9 ⊢;have k09:Kp hd H H9:=k05.trans s9.kp;have e39:=k09 _ _ e3 ndc;have etr:A15 k.kws x c=(w0.1,w0.2.1,c):=by unfold A15;rw[hw];rfl
    refine⟨_,rfl,_,rfl,dc,_,rfl,A32.k (k:=Sum.inl x) e39 (by rw[kv.len,sizeLine_eq];omega),?_⟩;have fn:=finD (.turn x c) H9 (U1 kvs (Sum.inl x) (.ref t)) ⟨⟨⟨lo1,lo2⟩,w0,hw⟩,c0,c1⟩ rfl rfl k09 (h5.same s9) ((kv.mv λb xs e=>k09 _ _ e (A0v hh e)).put (w:=A15 k.kws x c) (by rw[etr];exact .tup trivial e9 (.cons (.int _) (.cons (.int _) (.cons (.int _) .nil)))));refine U2 (k:=0) (n':=5) DD l0 DD λj1=>?_;refine S7 (n:=x) (i60 OO OO) j1 DD (λj2=>?_) λR r=>⟨_,rfl,r⟩;refine U2 (n':=1) DD j2 DD λj3=>?_;refine S7 (n:=c) (i60 OO OO) j3 DD (λj4=>?_) λR r=>⟨_,rfl,r⟩;exact⟨J1 j4 (by rw[sizeLine_eq];decide),fn⟩
   ·rw[decide_eq_false c6];exact E4 ⟨rfl,rfl,OO⟩
  rintro σ' _ ⟨rfl,rfl,c6⟩;have finK:∀(dd:K3)(st':Int)(gl':Addr)(g':Tb)(Hx:Hp),A39 k dd->(G9 k dd).st=st'->st'<=∅->(G9 k dd).g=g'->(G9 k dd).kws=k.kws->Kp hd H Hx->Hd Hx hd hl->Hx gl'=some (.lst (g'.map oV))->(F gl'\/H gl'=none)->gl'≠kl->∀Hy,Same (upd Hx kl (.lst [.ref dc,.int st',.ref gl'])) Hy->Q (.str (ddW dd)) Hy:=λdd st' gl' g' Hx dok es st18 eg ek kx hx eg' fg nk Hy sy=>by
   have e1':=kx _ _ e1 nek;have hx':Hd (upd Hx kl (.lst [.ref dc,.int st',.ref gl'])) hd hl:=by
    obtain⟨ns,q,b,c,u,v,h1,h2,h3⟩:=hx;have nl:hl≠kl:=λz=>by
     rw[z,e1'] at h1;cases ns with
     | nil=>cases h1
     | cons n ns=>cases h1
    exact⟨ns,q,b,c,u,v,by rw[B7 nl];exact h1,h2,by rw[B7 (Ne.symm nek)];exact h3⟩
   refine told dd _ dok (by rw[es];exact st18) ?_ (λb o e n1 n2 n3=>sy _ _ (by rw[B7 n2];exact kx _ _ e n1)) (hx'.same sy);rw[es,eg,ek];exact⟨⟨gl',sy _ _ B3,.inl f1,fg,nk,sy _ _ (by rw[B7 nk];exact eg')⟩,kvs,sy _ _ (by rw[B7 ndk];exact kx _ _ e3 ndc),(kv.mv λb xs e=>kx _ _ e (A0v hh e)).mv λb xs e=>sy _ _ (by rw[B7 (λz=>by rw[z,e1'] at e;cases e)];exact e)⟩
  refine Q0 W hW λW hW=>?_;refine⟨fun σ' H'=>σ'=[some (.ref hd),some (.int ((k.m:Nat):Int)),some (.int sc),some (.ref kl),some (.ref dc),some (.int k.st),some (.ref gl),some (.ref l1),some (.int u),none,none,none,none,none,none]/\H3=H',?_,?_⟩
  ·refine⟨_,rfl,rfl,_,rfl,?_⟩;by_cases c7:u=6
   ·subst c7;rw[show decide (V.int 6=V.int 6)=true from decide_eq_true rfl];refine G4 ?_;refine⟨SZ (n:=1),λb0 hb0=>?_⟩;obtain⟨H4,hH4⟩:∃H4,H4=upd H3 b0 (.lst [.int 0]):=⟨_,rfl⟩;rw[<-hH4];have s4:Same H3 H4:=by rw[hH4];exact Same.upd hb0
    have eb0:H4 b0=some (.lst [.int 0]):=by rw[hH4];exact B3
    clear hH4;have e24:=s4 _ _ (k03 _ _ e2 neg);have lgl:=ok.gt.len;refine⟨_,rfl,gl,rfl,⟨_,SqL.of e24⟩,?_⟩;refine A7d (xs:=k.g.map oV) (λi ys Hn=>Hn=H4/\ys=((k.g.take i).filterMap id).map V.int) ?_ ⟨rfl,rfl⟩ ?_ ?_ ?_
    ·rw[B6,lgl,sizeLine_eq];omega
    ·rintro i ys Hn hi ⟨rfl,rfl⟩;refine⟨?_,SqL.of e24⟩;rw[B6];exact J1 (List.length_filterMap_le _ _) (by rw[Z9];omega)
    ·rintro i x ys Hn hx ⟨rfl,rfl⟩ ca;rw[P6] at hx;obtain⟨o,ho,rfl⟩:=A28.mp hx;rw[A27,ho,List.filterMap_append,Q3];cases o with
     | none=>refine⟨_,rfl,rfl,_,rfl,?_⟩;rw[show (!decide (oV none=V.non))=false by show (!decide (V.non=V.non))=false;rw[decide_eq_true rfl];rfl];exact E4 ⟨rfl,by rw[show (Option.toList (some (none:Option Int))).filterMap id=[] from rfl,A4l,X5]⟩
     | some y=>refine⟨_,rfl,rfl,_,rfl,?_⟩;rw[show (!decide (oV (some y)=V.non))=true by show (!decide (V.int y=V.non))=true;rw[decide_eq_false (λz=>by cases z)];rfl];exact G4 ⟨_,rfl,rfl,rfl⟩
    rintro ys Hn ⟨rfl,rfl⟩ b1 hb1;rw[B6,A8x (E8 _)];obtain⟨lv,hlv⟩:∃lv,lv=k.g.filterMap id:=⟨_,rfl⟩;rw[<-hlv];have llv:lv.length<=12:=by rw[hlv];exact J1 (List.length_filterMap_le _ _) (OO)
    have s5:Same Hn _:=Same.upd (o:=.lst (lv.map V.int)) hb1;refine⟨b0,b1,_,_,rfl,rfl,s5 _ _ eb0,B3,by rw[B6,sizeLine_eq];show 1+_<=_;omega,λb2 hb2=>?_⟩;have s6:=Same.upd (o:=.lst ([.int 0]++lv.map V.int)) hb2;refine⟨b2,0::lv,rfl,SqL.of B3,by simp,λM hM=>?_⟩;have M0:0<=M:=hM.2 0 D6;have M1:M<=k.st:=by
     rcases G1.mp hM.1 with z | z
     ·rw[z];exact ok.s0
     ·rw[hlv] at z;obtain⟨o,ho,e⟩:=B0o.mp z;have e:o=some M:=e;subst e;obtain⟨p,hp⟩:=C5a ho;exact (ok.gt.bd p M hp).2
    have Mall:∀p x,gt k.g p=some x->x<=M:=λp x h=>by
     refine hM.2 x (C8 _ ?_);rw[hlv];refine B0o.mpr ⟨some x,?_,rfl⟩;rcases Nat.lt_or_ge p k.g.length with z | z
     ·have:=A9l z;rw[h] at this;exact R6 this
     ·rw[B10 z] at h;cases h
    have h6:=((h3.same s4).same s5).same s6;have k06:Kp hd H _:=((k03.trans s4.kp).trans s5.kp).trans s6.kp;obtain⟨H6,hH6⟩:∃H6,H6=upd (upd Hn b1 (.lst (lv.map V.int))) b2 (.lst ([.int 0]++lv.map V.int)):=⟨_,rfl⟩;rw[<-hH6] at h6 k06 ⊢;clear hH6 s4 s5 s6 eb0 hb0 hb1 hb2;dsimp only[G3,J5];refine⟨_,_,rfl,rfl,⟨DD,DD,DD⟩,_,rfl,_,rfl,_,rfl,_,_,rfl,rfl,_,rfl,_,_,rfl,rfl,.inl ⟨DD,DD⟩,_,_,rfl,rfl,SZ (n:=3),λlx hlx=>?_⟩;have s7:=Same.upd (o:=.lst [.int 4,.int (sc+1),.int (4*sc+1)]) hlx;refine⟨_,rfl,T4 DD DD (h6.same s7) λr3 H8 r30 r31 k8 h8=>?_⟩;have elx:=k8 _ _ (B3 (H:=H6) (a:=lx)) (λz=>by
     obtain⟨_,_,_,_,_,_,_,_,e⟩:=h6;rw[z,e] at hlx;cases hlx)
    obtain⟨nb,hnb,nb0,nb1⟩:∃nb:Int,atI [V.int 4,V.int (sc+1),V.int (4*sc+1)] r3=some (V.int nb)/\1<=nb/\nb<=10000000000000000000:=by
     rcases (show r3=0\/r3=1\/r3=2 by omega) with rfl | rfl | rfl
     ·exact⟨_,rfl,DD,DD⟩
     ·exact⟨_,rfl,OO,OO⟩
     ·exact⟨_,rfl,OO,OO⟩
    refine⟨lx,_,_,_,rfl,rfl,SqL.of elx,hnb,T4 OO OO h8 λr4 H9 r40 r41 k9 h9=>?_⟩;have k09:Kp hd H H9:=((k06.trans s7.kp).trans k8).trans k9;obtain⟨s',hs'⟩:∃s':Int,s'=if M+r4<10^W6 18 then M+r4 else 10^W6 18:=⟨_,rfl⟩
    refine⟨_,_,rfl,rfl,_,_,rfl,?_⟩;rw[<-hs'];have t18:(10:Int)^W6 18=∅:=by decide
    have sB:M<=s'/\s'<=∅:=by
     rw[hs',t18];split <;> omega
    refine⟨_,rfl,kl,_,1,1,rfl,rfl,k09 _ _ e1 nek,rfl,?_⟩;dsimp only[J5];have fn:=finK (.refill s') s' gl k.g H9 ⟨⟨OO,OO⟩,ok.gt.len,λp y h=>⟨(ok.gt.bd p y h).1,by have:=Mall p y h;omega⟩⟩ rfl sB.2 rfl rfl k09 h9 (k09 _ _ e2 neg) (.inl f2) nkg _ λJ J z=>z;have ek:upd H9 kl (.lst [.ref dc,.int s',.ref gl]) kl=some (.lst [.ref dc,.int s',.ref gl]):=B3;have l0:Str.length Str.empty<=0:=E8 _;refine U2 (k:=0) (n':=7) DD l0 DD λj1=>?_;refine S7 (n:=s') (i60 OO OO) j1 DD (λj2=>?_) λR r=>⟨_,rfl,kl,_,1,_,rfl,rfl,SqL.of ek,rfl,r⟩;exact⟨J1 j2 (by rw[sizeLine_eq];decide),fn⟩
   ·rw[decide_eq_false λz=>c7 (V.int.inj z)];exact E4 ⟨rfl,rfl⟩
  rintro σ' _ ⟨rfl,rfl⟩;have emin:(if (10:Int)^W6 18<k.st then (10:Int)^W6 18 else k.st)=k.st:=by
   rw[show (10:Int)^W6 18=∅ by decide];exact if_neg (OO)
  refine Q0 W hW λW hW=>?_;refine⟨_,rfl,_,rfl,_,rfl,_,_,rfl,rfl,⟨DD,DD,DD⟩,_,_,rfl,?_⟩;rw[emin];have bk3:∀b,H3 b=none->H b=none:=λb hb=>by
   cases z:H b with
   | none=>rfl
   | some o=>rw[k03 _ _ z (h3.ne hb).1] at hb;cases hb
  have bt3:∀b xs,H3 b=some (.tup xs)->Q1 H b:=λb xs hb=>by
   cases z:H b with
   | none=>exact .inl z
   | some o=>rw[k03 _ _ z (A0v h3 hb)] at hb;cases hb;exact .inr ⟨_,z⟩
  refine E08 (F:=λb=>b≠hd/\Q1 H b) (E:=E0) ⟨λb hb=>⟨(h3.ne hb).1,.inl (bk3 b hb)⟩,λb xs hb=>⟨A0v h3 hb,bt3 b xs hb⟩⟩ (λz=>z.1 rfl) (λd=>∃t,F9 k.m k.st t/\d=.list (C5 t)) h3 (.cons (.int _) (.cons (.int _) .nil)) ⟨_,k.m,k.st,rfl,OO,ok.s0,OO,λt ht=>⟨t,ht,rfl⟩⟩ λd v H4 hd' tv k4 h4=>?_;obtain⟨t,ht,rfl⟩:=hd';have k04:Kp hd H H4:=λb o e n=>k4 b o (k03 b o e n) λq hq=>by cases hq;exact n
  obtain⟨gl',ug,rfl,⟨nh,ns⟩,eg,tg⟩:=M2 tv;cases A4h tg;have ng:H gl'=none:=by
   rcases ns with z | ⟨xs,z⟩
   ·exact z
   ·rw[k04 _ _ z nh] at eg;cases eg
  have nk:gl'≠kl:=λz=>by rw[z,e1] at ng;cases ng
  refine⟨_,rfl,kl,_,2,2,rfl,rfl,k04 _ _ e1 nek,rfl,?_⟩;dsimp only[J5];have fn:=finK (.aim t) k.st gl' t H4 ht rfl hst rfl rfl k04 h4 eg (.inr ng) nk;have ek:upd H4 kl (.lst [.ref dc,.int k.st,.ref gl']) kl=some (.lst [.ref dc,.int k.st,.ref gl']):=B3;have eg5:upd H4 kl (.lst [.ref dc,.int k.st,.ref gl']) gl'=some (.lst (t.map oV)):=by rw[B7 nk];exact eg
  obtain⟨H5,hH5⟩:∃H5,H5=upd H4 kl (.lst [.ref dc,.int k.st,.ref gl']):=⟨_,rfl⟩;rw[<-hH5] at fn ek eg5 ⊢;have lt:=ht.len;subst hW;refine⟨rfl,_,rfl,kl,_,2,_,rfl,rfl,SqL.of ek,rfl,gl',rfl,⟨_,SqL.of eg5⟩,?_⟩;refine A6f wrT (by rw[B6,lt,sizeLine_eq];omega) (λHx s=>SqL.of (s _ _ eg5)) (λx hx Hx s ca R hR=>⟨_,rfl,x,rfl,A4i ht OO x hx,hR⟩) λH6 s6 p hp=>?_;have sp:=Same.upd (o:=.lst ((t.map oV).map λx=>V.str (wrT x))) hp;have ew:(t.map oV).map (λx=>V.str (wrT x))=(t.map lvW).map V.str:=by
   rw[N6,N6];exact B0z λo J=>congrArg V.str (C53 o)
  have l61:∀w∈t.map lvW,w.length<=61:=λw hw=>by
   obtain⟨o,ho,rfl⟩:=M9.mp hw;cases o with
   | none=>show Str.length "-" <=61;decide
   | some n=>exact W3 (B9c ht OO n ho)
  refine⟨_,p,t.map lvW,rfl,rfl,SqL.of (B3.trans (by rw[ew])),A96 (λv hv=>J1 (l61 v hv) DD) (by rw[B6];omega),?_⟩;rw[tj];have lr:(Z6 (t.map lvW)).length<=1000:=by
   rw[V0,B9b];have:=B3n _ l61;rw[B6] at this;omega
  exact⟨_,_,rfl,rfl,J1 (B9z (show Str.length "aim " <=4 by decide) lr) DD,fn _ (s6.tr sp)⟩
structure D96 (Cd C:Addr)(F:Addr->Prop)(hd hl q p1 d1 p2 d2:Addr)(k1 k2:Kst)(H:Hp):Prop where
 hnd:Hd H hd hl
 nF:∀b,F b->b≠hd
 new:∀b,H b=none->F b
 dk:A8q Cd H q (.ref p1)
 a1:E7 F C H p1 d1 k1
 a2:E7 F C H p2 d2 k2
 np:p1≠p2
 nd:d1≠d2
theorem E1b {K:A8}{a0:Addr}{xs:List V}{σ:Lake.St}{te:CA->TE}{H1:Hp}{Q:List V->Hp->Prop}(ws:List Str)(hl:xs.length=ws.length)(hz:xs.length<sizeLine)(hk:∀H,Same H1 H->SqL K H a0 xs)
  (hs:∀(i:Nat)(x:V)(w:Str),xs[i]?=some x->ws[i]?=some w->∀H,Same H1 H->∀a:CA,∃p v1 v2 v3 v4,x=.ref p/\SqT K H p [v1,v2,v3,v4]/\∀(R:V->Hp->Prop),(∀H',Same H H'->R (.str w) H')->te a (σ++[some v1,some v2,some v3,some v4]) H R)
  (hd:∀H,Same H1 H->Q (ws.map V.str) H):B4q K σ (λJ=>o8) te (Itl K a0) H1 Q:=by
 refine⟨λi m ys H=>m=xs.length-i/\i<=xs.length/\Same H1 H/\ys=(ws.take i).map V.str,⟨xs.length,by simp,P5 _,λJ J z=>z,rfl⟩,?_⟩;rintro i m ys H ⟨rfl,hi,s,rfl⟩;refine⟨by rw[B6,Z9];omega,?_⟩;by_cases hlt:i<xs.length
 ·refine .inr ⟨⟨xs,xs[i],hk _ s,by simp [hlt]⟩,λys' H'=>Same H1 H'/\ys'=(ws.take (i+1)).map V.str,λys' H' p'=>⟨xs.length-(i+1),OO,rfl,hlt,p'.1,p'.2⟩,λx H' y a=>?_⟩;obtain⟨e,y⟩:=y;subst e;have hx:=y xs (hk _ s);obtain⟨w,hw⟩:∃w,ws[i]?=some w:=⟨_,P7 OO⟩;obtain⟨p,v1,v2,v3,v4,e,h,te'⟩:=hs i x w hx hw _ s a;refine⟨p,v1,v2,v3,v4,e,h,?_⟩;unfold o8;refine G4 (te' _ λH3 s3=>⟨s.tr s3,?_⟩);rw[A27,hw,Q3];rfl
 ·have e:i=xs.length:=by omega
  subst e;refine .inl ⟨⟨xs,hk _ s,E8 _⟩,?_⟩;rw[hl,A4r];exact hd H s
theorem C6x {m:Nat}{st:Int}{t:Tb}(h:F9 m st t)(m2:m<=12)(h1:st<=100000000000000000000):(tbW t).length<=1000:=by
 have lt:=h.len;have:=B3n (t.map lvW) λw hw=>by
  obtain⟨o,ho,rfl⟩:=M9.mp hw;cases o with
  | none=>show Str.length "-" <=61;decide
  | some n=>exact W3 (B9c h h1 n ho)
 rw[B6] at this;show (Z6 (t.map lvW)).length<=1000;rw[V0,B9b];omega
theorem A8p.uniq {m:Nat}{ws:List Wy}{b:Tb}{vs us:List OV}(h:A8p m ws b vs)(k:A8p m ws b us):vs=us:=by
 obtain⟨G,M,t,hG,o,rfl⟩:=h;obtain⟨G',M',t',hG',o',rfl⟩:=k;cases hG.uniq hG';cases o.hM.uniq o'.hM;cases o.ht.uniq o'.ht;rfl
theorem C6y {G:Addr->Prop}{C:Addr}{H H':Hp}{hd hl p d:Addr}{k:Kst}(h:Hd H hd hl)(kp:E7 G C H p d k)(fr:Frp p d H H'):Hd H' hd hl:=by
 have mv:∀b xs,H b=some (.lst xs)->H' b=some (.lst xs):=λb xs e=>fr _ _ e (M8 kp e).1 (M8 kp e).2;obtain⟨ns,q,b,c,u,v,h1,h2,h3⟩:=h;exact⟨ns,q,b,c,u,v,mv _ _ h1,h2,mv _ _ h3⟩
section
variable {Cd C:Addr}{F:Addr->Prop}{hd hl q p1 d1 p2 d2:Addr}{k1 k2:Kst}{H':Hp}
theorem C6z {F:Addr->Prop}{C hd hl p d:Addr}{k:Kst}{H H':Hp}(h:E7 F C H p d k)(hh:Hd H hd hl)(nF:∀b,F b->b≠hd)(s:Kp hd H H'):E7 F C H' p d k:=h.mv (λb o e n=>s b o e λz=>by
 obtain⟨_,_,_,_,_,_,_,_,x⟩:=hh;rw[z,x] at e;cases e;exact nF _ (n _ rfl) z) λJ z=>z
theorem D96.draw (L:D96 Cd C F hd hl q p1 d1 p2 d2 k1 k2 H)(s:Kp hd H H')(h:Hd H' hd hl):D96 Cd C F hd hl q p1 d1 p2 d2 k1 k2 H':=
 { L with
  hnd:=h
  new:=λb hb=>L.new b (by
   cases z:H b with
   | none=>rfl
   | some o=>rw[s _ _ z (h.ne hb).1] at hb;cases hb)
  dk:=by
   obtain⟨dx,e⟩:=L.dk;refine⟨dx,s _ _ e λz=>?_⟩;obtain⟨_,_,_,_,_,_,_,_,x⟩:=L.hnd;rw[z,x] at e;cases e
  a1:=C6z L.a1 L.hnd L.nF s
  a2:=C6z L.a2 L.hnd L.nF s }
theorem D96.same (L:D96 Cd C F hd hl q p1 d1 p2 d2 k1 k2 H)(s:Same H H'):D96 Cd C F hd hl q p1 d1 p2 d2 k1 k2 H':=L.draw s.kp (L.hnd.same s)
theorem C60 {F G:Addr->Prop}{C:Addr}{H H':Hp}{p d p' d':Addr}{k k':Kst}(h:E7 F C H p d k)(h':E7 G C H p' d' k')(np:p≠p')(nd:d≠d')(fr:Frp p' d' H H'):E7 F C H' p d k:=by
 have h'':=h';obtain⟨⟨dx,g,l,ug,ul,e1,g1,e2,t2,g3,e3,t3⟩,kw,e4,kv⟩:=h;obtain⟨⟨dx',g',l',ug',ul',f1,_⟩,kw',f4,_⟩:=h';have nl:∀{b:Addr}{xs:List V},H b=some (.lst xs)->H' b=some (.lst xs):=λe=>fr _ _ e (M8 h'' e).1 (M8 h'' e).2;exact⟨⟨dx,g,l,ug,ul,fr _ _ e1 np (λz=>by rw[z,f4] at e1;cases e1),g1,nl e2,M4 t2,g3,nl e3,M4 t3⟩,kw,fr _ _ e4 (λz=>by rw[z,f1] at e4;cases e4) nd,kv.mv λb xs x=>fr _ _ x (P3 h'' x).1 (P3 h'' x).2⟩
theorem C61 {v:V}{p d:Addr}{k:Kst}(h:A8q Cd H q v)(kp:E7 F C H p d k)(fr:Frp p d H H'):A8q Cd H' q v:=by
 obtain⟨dx,e⟩:=h;obtain⟨⟨dx',g,l,ug,ul,e1,_⟩,kvs,e4,_⟩:=kp;exact⟨dx,fr _ _ e (λz=>by rw[z,e1] at e;cases e) λz=>by rw[z,e4] at e;cases e⟩
theorem D96.on1 (L:D96 Cd C F hd hl q p1 d1 p2 d2 k1 k2 H){k':Kst}(kp:E7 F C H' p1 d1 k')(fr:Frp p1 d1 H H'):D96 Cd C F hd hl q p1 d1 p2 d2 k' k2 H':=
 { L with
  hnd:=C6y L.hnd L.a1 fr
  new:=λb hb=>L.new b (A0t kp fr hb)
  dk:=C61 L.dk L.a1 fr
  a1:=kp
  a2:=C60 L.a2 L.a1 L.np.symm L.nd.symm fr }
theorem D96.on2 (L:D96 Cd C F hd hl q p1 d1 p2 d2 k1 k2 H){k':Kst}(kp:E7 F C H' p2 d2 k')(fr:Frp p2 d2 H H'):D96 Cd C F hd hl q p1 d1 p2 d2 k1 k' H':=
 { L with
  hnd:=C6y L.hnd L.a2 fr
  new:=λb hb=>L.new b (A0t kp fr hb)
  dk:=C61 L.dk L.a2 fr
  a2:=kp
  a1:=C60 L.a1 L.a2 L.np L.nd fr }
end
def E1c (Cd C:Addr):Sp:=λvs H Q J=>∃(F:Addr->Prop)(hd hl q p1 d1 p2 d2:Addr)(k:Kst),vs=[.ref hd,.ref q,.ref p2,.int ((k.m:Nat):Int)]/\D96 Cd C F hd hl q p1 d1 p2 d2 k k H/\KOk k.m k.st k.g k.kws/\V2 k.m k.st k.g k.kws k.low/\k.st<=∅/\
 ∀H',D96 Cd C F hd hl q p1 d1 p2 d2 k k H'->(∀b o,H b=some o->b≠hd->b≠p1->b≠d1->b≠p2->b≠d2->H' b=some o)->Q (.bl true) H'
theorem E1d(D:A9y w T):FK P w base 14 T.cR (E1c T.af T.aa):=by
 refine T.cR.F.ok B23 (λvs H J J h=>?_) (λJ J J s H vs Q J hr h=>?_)
 ·obtain⟨F,hd,hl,q,p1,d1,p2,d2,k,rfl,_⟩:=h;rfl
 ·obtain⟨F,hd,hl,q,p1,d1,p2,d2,k,rfl,L,ok,lr,s18,told⟩:=h;refine⟨_,(B5 (pS (i:=4) B23.nd (pcF T.ae (A36 T) hr (A1 (pv 0) (A1 A7 A3 E6) A0)))
   (B5 (K5 (J6 (K6 Q4 (pv 4) A7 (D1 _))
   (C1 (E3 (y7 Q4 (pmF (pv 1) T.br T.bb (B9a T D) hr (A1 F6 A3 E6) (hst:=E6)) (pcF T.bQ (C6r T) hr (A1 (pmG (pv 2) T.ac T.bG (B8z T) hr) A3 C0)) (D1 _))))
   K2))
   (B5 (K5 (J6 (K6 Q4 (pv 4) A7 (D1 _))
   (B5 (C94 (i:=5) B23.nd rfl (B2 rfl) (A7e.new (N:=["_law_hand_here","_law_desk","_law_keeper","_law_many","_law_way","_law_due","_law_table_here"]) (osc:=B1 B2v) KK) rfl (W7 (pmG (pv 2) T.ac T.cI (C5y T) hr)) (λJ=>W8) (λJ=>(A2v (K1 (S2 (pv 7)) (K1 F6 (K1 (S2 (pv 8)) (K1 F6 (K1 (S2 (pv 9)) (K1 F6 (K1 (S2 (pv 10)) A2u))))))))))
   (C1 (E3 (y7 Q4 (pmF (pv 1) T.br T.bb (B9a T D) hr (A1 F6 A3 E6) (hst:=E6)) (Z2 A6y B30 B31 A9r F6 (A1 (F0 A1s (U6 (A1 F6 A3 E6)) (pv 5)) A3 E9)) (D1 _)))))
   K2))
   (B5 (pS (i:=6) B23.nd (pcF T.cD (C5q T) hr (A1 (pv 0) (A1 (pv 3) (A1 (J2 (A1q rfl) rfl T.dv A1u (A1 (pmG (pv 2) T.ac T.aI (B3i T) hr) (A1 (F0 U5 A7 A7) A3 E9) C0)) A3 C0) A0) A0)))
   (B5 (K5 (J6 (K6 Q4 (pv 4) A7 (D1 _))
   (C1 (E3 (y7 Q4 (pmF (pv 1) T.br T.bb (B9a T D) hr (A1 (F0 B18 F6 (pcF T.bQ (C6r T) hr (A1 (pv 6) A3 A0))) A3 E9) (hst:=E9)) (pcF T.bQ (C6r T) hr (A1 (pmF (pv 2) T.ac T.bH (C50 T) hr (A1 (pv 6) A3 A0) (hst:=A0)) A3 C0)) (D1 _))))
   K2))
   (C1 (E3 (y7 Q4 (pmF (pv 1) T.br T.bb (B9a T D) hr (A1 (F0 B18 F6 (pcF T.bQ (C6r T) hr (A1 (pv 6) A3 A0))) A3 E9) (hst:=E9)) (pcF T.bQ (C6r T) hr (A1 (pcF T.aU (C5x T) hr (A1 (pmG (pv 2) T.ac T.am (A22 T) hr) (A1 (pv 6) A3 A0) C0)) A3 C0)) (D1 _))))))))),?_⟩
  try dsimp only[G5,Cx.nox]
  have m1:=ok.m1;have m2:=ok.m2;have s0k:=ok.s0;have s1k:=ok.s1;have say:∀{x w0:Str}{a:Addr}{pre:Kst->List (Option Int)->Prop}{post:Kst->List (Option Int)->Kst->Str->Prop}{os:Tb}{Hx:Hp}{Qv:VK},V3 T w0 a pre post->i9 x w0 os->pre k os->(∀k' t,post k os k' t->k'=k)->D96 T.af T.aa F hd hl q p1 d1 p2 d2 k k Hx->
    (∀t H',post k os k t->D96 T.af T.aa F hd hl q p1 d1 p2 d2 k k H'->Frp p1 d1 Hx H'->Qv (.str t) H')->B89 T [.ref q,.str x] Hx Qv E0:=λan R pr pk Lx h=>by
   refine⟨q,_,_,_,_,rfl,Lx.dk,R,.inr ⟨_,_,_,F,p1,d1,k,rfl,an,Lx.new,Lx.a1,pr,λk' t H' po kp fr=>?_⟩⟩;obtain rfl:=pk k' t po;exact h t H' po (Lx.on1 kp fr) fr
  refine⟨_,rfl,T4 DD DD L.hnd λu H1 u0 u4 k1 h1=>?_⟩;have L1:=L.draw k1 h1;dsimp only[G3,J5];have few:=ok.few;have lk:(D9 k.kws).length<64:=by unfold D9;rw[B6];omega
  have sz:∀{n:Nat},n<=1000->n<=sizeLine:=λh=>J1 h (by rw[sizeLine_eq];decide);refine⟨fun σ' H'=>σ'=[some (.ref hd),some (.ref q),some (.ref p2),some (.int ((k.m:Nat):Int)),some (.int u),none,none]/\H1=H'/\u≠0,?_,?_⟩
  ·refine⟨_,rfl,rfl,_,rfl,?_⟩;by_cases c:u=0
   ·subst c;rw[show decide (V.int 0=V.int 0)=true from decide_eq_true rfl];obtain⟨dx,eq⟩:=L1.dk;refine G4 ⟨_,rfl,q,dx,_,rfl,eq,rfl,?_⟩;dsimp only[V8,tC,T8,X5,T6,O1];refine say .least C6t ⟨rfl,ok,lr⟩ (λk' t h=>h.1) L1 λt H2 po Lake fr2=>?_;obtain⟨_,rfl⟩:=po;have a2:=Lake.a2;obtain⟨⟨dx2,g,l1,ug,ul,e1,_⟩,_⟩:=a2;refine⟨_,rfl,p2,dx2,_,rfl,e1,K7 KK,F,p2,d2,k,[],[],rfl,Lake.new,Lake.a2,.nil,rfl,λr v k' H3 po kp tv fr3 ap=>?_⟩;obtain⟨ek,rfl⟩:=po;subst ek;obtain⟨l2,u2,rfl,_,el2,tu⟩:=M2 tv;cases A4h tu;refine⟨l2,_,rfl,el2,A4i lr.tab ok.s1,by rw[B6];have:=lr.tab.len;omega,λH4 s4=>?_⟩;refine⟨rfl,?_⟩;rw[A6m,decide_eq_true rfl];exact told H4 ((Lake.on2 kp fr3).same s4) λb o e n1 n2 n3 n4 n5=>s4 _ _ (fr3 _ _ (fr2 _ _ (k1 _ _ e n1) n2 n3) n4 n5)
   ·rw[decide_eq_false λz=>c (V.int.inj z)];exact E4 ⟨rfl,rfl,c⟩
  rintro σ' _ ⟨rfl,rfl,c0⟩;refine⟨fun σ' H'=>σ'=[some (.ref hd),some (.ref q),some (.ref p2),some (.int ((k.m:Nat):Int)),some (.int u),none,none]/\H1=H'/\u≠1,?_,?_⟩
  ·refine⟨_,rfl,rfl,_,rfl,?_⟩;by_cases c:u=1
   ·subst c;rw[show decide (V.int 1=V.int 1)=true from decide_eq_true rfl];refine G4 ?_;have a2:=L1.a2;obtain⟨⟨dx2,g,l1,ug,ul,e1,_⟩,_⟩:=a2;refine⟨_,rfl,p2,dx2,_,rfl,e1,K7 KK,F,p2,d2,k,[],[],rfl,L1.new,L1.a2,.nil,⟨rfl,lk⟩,λr v k' H2 po kp tv fr2 ap=>?_⟩;obtain⟨ek,rfl⟩:=po;subst ek;have Lake:=L1.on2 kp fr2;obtain⟨l2,u2,rfl,_,el2,tu⟩:=M2 tv;have tl:=tu.len;refine⟨l2,rfl,⟨_,SqL.of el2⟩,?_⟩;have hsl:(srt (D9 k'.kws)).length<64:=by rw[(i8 _).length_eq];exact lk
    have l0:Str.length Str.empty<=0:=E8 _;refine E1b ((srt (D9 k'.kws)).map λx=>A2y x ((((K8 k'.kws x).getD (0,0,0)).1:Nat):Int) ((((K8 k'.kws x).getD (0,0,0)).2.1:Nat):Int) ((K8 k'.kws x).getD (0,0,0)).2.2) (by rw[tl,B6];unfold A0s;rw[B6]) (by rw[tl];unfold A0s;rw[B6,sizeLine_eq];omega) (λHx s=>SqL.of (s _ _ el2)) (λi x w hx hw Hx s ca=>?_) λH3 s3 p3 n3=>?_
    ·rw[P6] at hw;obtain⟨y,hy,rfl⟩:=A28.mp hw;obtain⟨dd,hdd,tx⟩:=B26 tu hx;unfold A0s at hdd;rw[P6,hy] at hdd;cases hdd;obtain⟨w0,hw0,b1,b2,b3,b4⟩:=B3k ok ((i8 _).mem_iff.mp (R6 hy));dsimp only at tx ⊢;rw[hw0] at tx ⊢;obtain⟨a,us,rfl,_,ea,tus⟩:=Y0 tx;obtain⟨v1,v2,v3,v4,rfl,t1,t2,t3,t4⟩:=B81 tus;cases t1;cases t2;cases t3;cases t4;refine⟨a,_,_,_,_,rfl,SqT.of (s _ _ ea),λR hR=>?_⟩;refine S7 (k:=0) b1 l0 DD (λj1=>?_) λR r=>⟨_,rfl,r⟩;refine U2 (n':=1) DD j1 DD λj2=>?_;refine S7 b2 j2 DD (λj3=>?_) λR r=>⟨_,rfl,r⟩;refine U2 (n':=1) DD j3 DD λj4=>?_;refine S7 b3 j4 DD (λj5=>?_) λR r=>⟨_,rfl,r⟩;refine U2 (n':=1) DD j5 DD λj6=>?_;refine S7 b4 j6 DD (λj7=>?_) λR r=>⟨_,rfl,r⟩;exact⟨J1 j7 (by rw[sizeLine_eq];decide),hR _ λJ J z=>z⟩
    obtain⟨ws,hws⟩:∃ws,ws=(srt (D9 k'.kws)).map λx=>A2y x ((((K8 k'.kws x).getD (0,0,0)).1:Nat):Int) ((((K8 k'.kws x).getD (0,0,0)).2.1:Nat):Int) ((K8 k'.kws x).getD (0,0,0)).2.2:=⟨_,rfl⟩;rw[<-hws];have lw:ws.length<64:=by rw[hws,B6];exact hsl
    have bw:∀w∈ws,w.length<=400:=λw hw=>by
     rw[hws] at hw;obtain⟨x,hx,rfl⟩:=M9.mp hw;obtain⟨w0,hw0,b1,b2,b3,b4⟩:=B3k ok ((i8 _).mem_iff.mp hx);rw[hw0];exact C57 b1 b2 b3 b4
    have s4:=s3.tr (Same.upd (o:=.lst (ws.map V.str)) n3);have e3:upd H3 p3 (.lst (ws.map V.str)) p3=some (.lst (ws.map V.str)):=B3;generalize upd H3 p3 (.lst (ws.map V.str))=H4 at s4 e3 ⊢;dsimp only[J5];have L4:=Lake.same s4;obtain⟨dx,eq⟩:=L4.dk;refine⟨_,rfl,q,dx,_,rfl,eq,rfl,?_⟩;dsimp only[V8,tC,T8,X5,T6,O1];refine say .ways E0x ⟨rfl,ok,lr⟩ (λk' t h=>h.1) L4 λt H5 po L5 fr5=>?_;obtain⟨_,rfl⟩:=po;have e35:=fr5 _ _ e3 (M8 L4.a1 e3).1 (M8 L4.a1 e3).2;refine⟨rfl,sz DD,λpa na=>?_⟩;have s6:=Same.upd (o:=.lst [V.str (Str.ofString "ways")]) na;refine⟨_,rfl,pa,p3,_,_,rfl,rfl,B3,s6 _ _ e35,sz (by simp;omega),λpb nb=>?_⟩;have s7:=s6.tr (Same.upd (o:=.lst ([V.str (Str.ofString "ways")]++ws.map V.str)) nb);refine⟨_,pb,("ways" : Str)::ws,rfl,rfl,SqL.of B3,A96 (λw hw=>?_) (by rw[K4];omega),?_⟩
    ·rcases G1.mp hw with rfl | hw
     ·decide
     ·exact bw w hw
    ·rw[tj];refine⟨rfl,?_⟩;rw[show decide (V.str (C54 k'.kws)=V.str (Z6 (("ways" : Str)::ws)))=true from decide_eq_true (by rw[hws];rfl)];exact told _ (L5.same s7) λb o e n1 n2 n3 n4 n5=>s7 _ _ (fr5 _ _ (s4 _ _ (fr2 _ _ (k1 _ _ e n1) n4 n5)) n2 n3)
   ·rw[decide_eq_false λz=>c (V.int.inj z)];exact E4 ⟨rfl,rfl,c⟩
  rintro σ' _ ⟨rfl,rfl,c1⟩;have a2:=L1.a2;obtain⟨⟨dx2,g,l1,ug,ul,e1,_⟩,_⟩:=a2;refine⟨_,rfl,_,rfl,_,rfl,p2,dx2,_,rfl,e1,K7 KK,F,p2,d2,k,[],[],rfl,L1.new,L1.a2,.nil,rfl,λr v k' H2 po kp tv fr2 ap=>?_⟩;obtain⟨ek,rfl⟩:=po;subst ek;cases tv;refine⟨_,_,rfl,rfl,⟨DD,DD,DD⟩,_,_,rfl,?_⟩;have emin:(if (10:Int)^W6 18<k'.st then (10:Int)^W6 18 else k'.st)=k'.st:=by
   rw[show (10:Int)^W6 18=∅ by decide];exact if_neg (OO)
  rw[emin];have Lake:=L1.on2 kp fr2;refine B8l (E:=E0) (λd=>∃t,F9 k'.m k'.st t/\d=.list (C5 t)) Lake.hnd (.cons (.int _) (.cons (.int _) .nil)) ⟨_,k'.m,k'.st,rfl,OO,s0k,OO,λt ht=>⟨t,ht,rfl⟩⟩ λd v H3 hd' tv k3 h3=>?_;obtain⟨t,ht,rfl⟩:=hd';have k3':Kp hd H2 H3:=λb o e n=>k3 b o e λq hq=>by cases hq;exact n
  have L3:=Lake.draw k3' h3;obtain⟨lt,ut,rfl,_,et,tt⟩:=M2 tv;cases A4h tt;have lnt:=ht.len;dsimp only[G3,J5];refine⟨fun σ' H'=>σ'=[some (.ref hd),some (.ref q),some (.ref p2),some (.int ((k'.m:Nat):Int)),some (.int u),none,some (.ref lt)]/\H3=H'/\u≠2,?_,?_⟩
  ·refine⟨_,rfl,rfl,_,rfl,?_⟩;by_cases c:u=2
   ·subst c;rw[show decide (V.int 2=V.int 2)=true from decide_eq_true rfl];obtain⟨dx,eq⟩:=L3.dk;refine G4 ⟨_,rfl,q,dx,_,rfl,eq,rfl,_,rfl,lt,_,rfl,et,A4i ht s1k,by rw[B6];omega,λH4 s4=>?_⟩;rw[A6m];refine⟨_,_,rfl,rfl,J1 (B9z (show Str.length "highest " <=8 by decide) (C6x ht m2 s1k)) DD,?_⟩;dsimp only[V8,tC,T8,X5,T6,O1];refine say .highest (B9d (w0:= "highest") (x0:= "highest ") DD DD DD DD ht s1k m1 m2) ⟨ok,ht⟩ (λk' t h=>h.1) (L3.same s4) λt' H5 po L5 fr5=>?_;obtain⟨_,t0,ht0,rfl⟩:=po;have et4:=s4 _ _ et;have et5:=fr5 _ _ et4 (M8 (L3.same s4).a1 et4).1 (M8 (L3.same s4).a1 et4).2;have a5:=L5.a2;obtain⟨⟨dx5,g5,l5,ug5,ul5,e5,_⟩,_⟩:=a5;refine⟨_,rfl,p2,dx5,_,rfl,e5,K7 KK,_,rfl,F,p2,d2,k',_,_,rfl,L5.new,L5.a2,.cons (.lst trivial et5 (A1h t)) .nil,⟨t,rfl,ht,ok⟩,λr v k2 H6 po kp6 tv6 fr6 ap6=>?_⟩;obtain⟨ek2,b0,t1,hb0,ht1,rfl⟩:=po;subst ek2;cases B0k (PyData.list.inj (a9.inj hb0).1);cases ht1.uniq ht0;obtain⟨l2,u2,rfl,_,el2,tu⟩:=M2 tv6;cases A4h tu;have lt0:=ht0.tab.len;refine⟨l2,_,rfl,el2,A4i ht0.tab s1k,by rw[B6];omega,λH7 s7=>⟨rfl,?_⟩⟩;rw[A6m,decide_eq_true rfl];exact told H7 ((L5.on2 kp6 fr6).same s7) λb o e n1 n2 n3 n4 n5=>s7 _ _ (fr6 _ _ (fr5 _ _ (s4 _ _ (k3' _ _ (fr2 _ _ (k1 _ _ e n1) n4 n5) n1)) n2 n3) n4 n5)
   ·rw[decide_eq_false λz=>c (V.int.inj z)];exact E4 ⟨rfl,rfl,c⟩
  rintro σ' _ ⟨rfl,rfl,c2⟩;obtain⟨dx,eq⟩:=L3.dk;refine⟨_,rfl,q,dx,_,rfl,eq,rfl,_,rfl,lt,_,rfl,et,A4i ht s1k,by rw[B6];omega,λH4 s4=>?_⟩;rw[A6m];refine⟨_,_,rfl,rfl,J1 (B9z (show Str.length "any " <=8 by decide) (C6x ht m2 s1k)) DD,?_⟩;dsimp only[V8,tC,T8,X5,T6,O1];have ht18:F9 k'.m ∅ t:=⟨ht.len,λp y e=>⟨(ht.bd p y e).1,by have:=(ht.bd p y e).2;omega⟩⟩;refine say .any (B9d (w0:= "any") (x0:= "any ") DD DD DD DD ht s1k m1 m2) ⟨ok,ht,ht18⟩ (λk' t h=>h.1) (L3.same s4) λt' H5 po L5 fr5=>?_;obtain⟨_,vs,hvs,rfl⟩:=po;have et4:=s4 _ _ et;have et5:=fr5 _ _ et4 (M8 (L3.same s4).a1 et4).1 (M8 (L3.same s4).a1 et4).2;have a5:=L5.a2;obtain⟨⟨dx5,g5,l5,ug5,ul5,e5,_⟩,_⟩:=a5;refine⟨_,rfl,p2,dx5,_,rfl,e5,K7 KK,F,p2,d2,k',[],[],rfl,L5.new,L5.a2,.nil,⟨rfl,lk⟩,λr v k3 H6 po kp6 tv6 fr6 ap6=>?_⟩;obtain⟨ek,rfl⟩:=po;subst ek;have L6:=L5.on2 kp6 fr6;have et6:=fr6 _ _ et5 (M8 L5.a2 et5).1 (M8 L5.a2 et5).2;refine⟨_,rfl,V1 (E:=E0) (λd=>∃vs,A8p k3.m (wsF k3.kws) t vs/\d=.list (vs.map ovD)) (.cons tv6.any (.cons (B8w (.lst trivial et6 (A1h t))) .nil)) ⟨k3.m,wsF k3.kws,t,rfl,ok.land,ht18,λG M t0 hG ho=>⟨_,⟨G,M,t0,hG,ho,rfl⟩,by rw[N6];rfl⟩⟩ λd' v1 H7 hd7 t7 s7=>?_⟩;obtain⟨vs2,hv2,rfl⟩:=hd7;cases hv2.uniq hvs;obtain⟨l2,u2,rfl,_,el2,tu⟩:=M2 t7;cases B86 tu;obtain⟨G,M,t0,hG,ho,rfl⟩:=id hv2;refine⟨l2,_,rfl,el2,C6d ho (hG.hi ht18 DD) ok.land,by rw[B6,B6,ho.ht.tab.len];omega,λH8 s8=>⟨rfl,?_⟩⟩;have ew:Z6 (((t0.map λo=>opV (G+mtI k3.m M) o).map ovV).map wrT)=Z6 ((t0.map λo=>opV (G+mtI k3.m M) o).map ovW):=by
   rw[N6 (g:=wrT)];congr 1;exact B0z λo J=>C6c o
  rw[ew,decide_eq_true rfl];exact told H8 ((L6.same s7).same s8) λb o e n1 n2 n3 n4 n5=>s8 _ _ (s7 _ _ (fr6 _ _ (fr5 _ _ (s4 _ _ (k3' _ _ (fr2 _ _ (k1 _ _ e n1) n4 n5) n1)) n2 n3) n4 n5))
theorem E1e {t t':Tb}{g:Sp2}(h:leT t t')(e:enF t g=true):enF t' g=true:=by
 unfold enF at e ⊢;cases z:gt t g.1 with
 | none=>rw[z] at e;cases e
 | some l=>
  rw[z] at e;have hl:g.2<=l:=of_decide_eq_true e;have:=h g.1;rw[z] at this;cases z':gt t' g.1 with
  | none=>rw[z'] at this;exact absurd this A0n
  | some l'=>rw[z'] at this;have:=T9.mp this;exact decide_eq_true (OO)
theorem B9e {m:Nat}{ws:List Wy}{S S':Int}{b g:Sp2}(hb:b.1<m)(b0:0<=b.2)(b1:b.2<=S)(hs:S<=S')(h:A8m m ws S b g)(h':A4g m ws S' b g):False:=by
 obtain⟨t,h1,_,h2⟩:=h;obtain⟨t',k1,_,k2⟩:=h';rw[E1e (D2f OO hs (C5r hb b0 b1) (D2d _) (B5k _) h1 k1) h2] at k2;cases k2
theorem A6l.uniq {m:Nat}{ws:List Wy}{b g:Sp2}{o o':Option Int}(hb:A17 m b)(h:A6l m ws b g o)(k:A6l m ws b g o'):o=o':=by
 obtain⟨M,hM,h⟩:=h;obtain⟨N,hN,k⟩:=k;cases hM.uniq hN;have hlo:b.2<=mxI b.2 g.2:=by unfold mxI;split <;> omega
 have key:∀S S',mxI b.2 g.2<=S->A8m m ws S b g->(S'=mxI b.2 g.2\/A4g m ws (S'-1) b g)->S'<=S:=λS S' h1 h2 h3=>by
  rcases h3 with h3 | h3
  ·omega
  ·rcases Int.lt_or_le S S' with c | c
   ·exact (B9e hb.1 hb.2.1 OO OO h2 h3).elim
   ·exact c
 rcases h with ⟨rfl,h1⟩ | ⟨S,rfl,h1,h2,h3,h4⟩
 ·rcases k with ⟨rfl,k1⟩ | ⟨S',rfl,k1,k2,k3,k4⟩
  ·rfl
  ·exact (B9e hb.1 hb.2.1 OO k2 k3 h1).elim
 ·rcases k with ⟨rfl,k1⟩ | ⟨S',rfl,k1,k2,k3,k4⟩
  ·exact (B9e hb.1 hb.2.1 OO h2 h3 k1).elim
  ·have a1:=key S S' h1 h3 k4;have a2:=key S' S k1 k3 h4;congr 1;omega
theorem E1f {m:Nat}{ws:List Wy}{st:Int}{b g:Sp2}{most:Nat}{d d':PyData}(h:A8n m ws st b g most d)(k:A8n m ws st b g most d'):soW d=soW d':=by
 rcases h with ⟨rfl,h1⟩ | ⟨L,ns,l,rfl,hL,h1,h2,h3,_⟩
 ·rcases k with ⟨rfl,_⟩ | ⟨L',ns',l',rfl,kL,_,k2,_⟩
  ·rfl
  ·rw[h1 L' kL] at k2;cases k2
 ·rcases k with ⟨rfl,k1⟩ | ⟨L',ns',l',rfl,kL,k1,k2,k3,_⟩
  ·rw[k1 L hL] at h2;cases h2
  ·have e:L=L':=by
    rcases Nat.lt_trichotomy L L' with c | c | c
    ·rw[k1 L c] at h2;cases h2
    ·exact c
    ·rw[h1 L' c] at k2;cases k2
   show itx ((F3 ns).length:Nat)=itx ((F3 ns').length:Nat);unfold F3;rw[B6,B6,h3,k3,e]
def E1g (Cd C:Addr):Sp:=λvs H Q J=>∃(F:Addr->Prop)(hd hl q p1 d1 p2 d2:Addr)(k:Kst),vs=[.ref hd,.ref q,.ref p2,.int ((k.m:Nat):Int)]/\D96 Cd C F hd hl q p1 d1 p2 d2 k k H/\KOk k.m k.st k.g k.kws/\V2 k.m k.st k.g k.kws k.low/\k.st<=∅/\
 ∀H',D96 Cd C F hd hl q p1 d1 p2 d2 k k H'->(∀b o,H b=some o->b≠hd->b≠p1->b≠d1->b≠p2->b≠d2->H' b=some o)->Q (.bl true) H'
theorem E1h(D:A9y w T):FK P w base 14 T.cM (E1g T.af T.aa):=by
 refine T.cM.F.ok A0d (λJ H Q J h=>?_) (λJ J J J H J Q J hr h=>?_)
 ·obtain⟨F,hd,hl,q,p1,d1,p2,d2,k,rfl,_⟩:=h;rfl
 ·obtain⟨F,hd,hl,q,p1,d1,p2,d2,k,rfl,L,ok,lr,s18,told⟩:=h;refine⟨_,(B5 (pS (i:=4) A0d.nd (J2 (A1q rfl) rfl T.dv A1u (A1 (pmG (pv 2) T.ac T.aI (B3i T) hr) (A1 (F0 U5 A7 A7) A3 E9) C0)))
   (B5 (K5 (J6 (K6 Q4 (pcF T.ae (A36 T) hr (A1 (pv 0) (A1 A7 A3 E6) A0)) A7 (D1 _))
   (B5 (V4 (pcF T.cQ (E0t T) hr (A1 (pv 0) (A1 (pv 3) (A1 (J2 (A1q rfl) rfl T.dv A1u (A1 (F0 U5 A7 A7) (A1 (F0 N3 (F0 A03 A7 (pv 4)) A7) A3 E9) E9)) A3 C0) A0) A0)) (A4s (n:=3) rfl (T1 (O8 (i:=5) A0d.nd) (T1 (O8 (i:=6) A0d.nd) (T1 (O8 (i:=7) A0d.nd) A3e)))))
   (B5 (pS (i:=8) A0d.nd (pmF (pv 2) T.ac T.aJ (C51 T) hr (A1 (pv 5) (A1 (pv 6) A3 A0) A0) (hst:=A0)))
   (C1 (E3 (y7 Q4 (pmF (pv 1) T.br T.bb (B9a T D) hr (A1 (F0 B18 F6 (pv 7)) A3 E9) (hst:=E9)) (C7 F1 (U6 (A1 F6 (A1 (T2 D3g rfl T.cZ A06 (A1 (pv 8) A3 A0)) A3 C0) E6)) (T2 C0i rfl T.fY A9c (A1 (y7 A2g (pv 8) m7 (D1 _)) A3 B1i))) (D1 _))))))
   K2))
   (B5 (V4 (pcF T.cQ (E0t T) hr (A1 (pv 0) (A1 (pv 3) (A1 (pv 4) A3 A0) A0) A0)) (A4s (n:=3) rfl (T1 (O8 (i:=5) A0d.nd) (T1 (O8 (i:=6) A0d.nd) (T1 (O8 (i:=7) A0d.nd) A3e)))))
   (B5 (pS (i:=9) A0d.nd (C7 F1 (U6 (A1 A7 (A1 A7 (A1 A7 (A1 A7 A3 E6) E6) E6) E6)) (pcF T.ae (A36 T) hr (A1 (pv 0) (A1 A7 A3 E6) A0))))
   (B5 (pS (i:=8) A0d.nd (pcF T.bL (C5w T) hr (A1 (pmG (pv 2) T.ac T.am (A22 T) hr) (A1 (pmG (pv 2) T.ac T.aI (B3i T) hr) (A1 (pv 5) (A1 (pv 6) (A1 (pv 9) A3 A0) A0) A0) C0) C0)))
   (B5 (pS (i:=10) A0d.nd F6)
   (B5 (K5 (J6 (K6 Q4 (C7 U7 (pv 8) A7) F6 (D1 _))
   (C1 (pS (i:=10) A0d.nd (T2 A2h rfl T.cZ A06 (A1 (J2 Z1 rfl T.bq V9 (A1 (C7 U7 (pv 8) A7) A3 B0)) A3 C0))))
   K2))
   (C1 (E3 (y7 Q4 (pmF (pv 1) T.br T.bb (B9a T D) hr (A1 (A2v (K1 F6 (K1 (S2 (pv 7)) (K1 F6 (K1 (S2 (pv 9)) A2u))))) A3 B0m) (hst:=B0m)) (pv 10) (D1 _))))))))))),?_⟩
  try dsimp only[G5,Cx.nox]
  have m1:=ok.m1;have m2:=ok.m2;have s0k:=ok.s0;have s1k:=ok.s1;have few:=ok.few;have lk:(D9 k.kws).length<64:=by unfold D9;rw[B6];omega
  have t18:(10:Int)^W6 18=∅:=by decide
  have say:∀{x w0:Str}{a:Addr}{pre:Kst->List (Option Int)->Prop}{post:Kst->List (Option Int)->Kst->Str->Prop}{os:Tb}{Hx:Hp}{Qv:VK},V3 T w0 a pre post->i9 x w0 os->pre k os->(∀k' t,post k os k' t->k'=k)->D96 T.af T.aa F hd hl q p1 d1 p2 d2 k k Hx->
    (∀t H',post k os k t->D96 T.af T.aa F hd hl q p1 d1 p2 d2 k k H'->Frp p1 d1 Hx H'->Qv (.str t) H')->B89 T [.ref q,.str x] Hx Qv E0:=λan R pr pk Lx h=>by
   refine⟨q,_,_,_,_,rfl,Lx.dk,R,.inr ⟨_,_,_,F,p1,d1,k,rfl,an,Lx.new,Lx.a1,pr,λk' t H' po kp fr=>?_⟩⟩;obtain rfl:=pk k' t po;exact h t H' po (Lx.on1 kp fr) fr
  have a2:=L.a2;obtain⟨⟨dx2,g,l1,ug,ul,e1,_⟩,_⟩:=a2;refine⟨_,rfl,p2,dx2,_,rfl,e1,K7 KK,F,p2,d2,k,[],[],rfl,L.new,L.a2,.nil,rfl,λr v k' H1 po kp tv fr1 ap=>?_⟩;obtain⟨ek,rfl⟩:=po;subst ek;cases tv;refine⟨_,_,rfl,rfl,⟨DD,DD,DD⟩,_,_,rfl,?_⟩;rw[show (if (10:Int)^W6 18<k'.st then (10:Int)^W6 18 else k'.st)=k'.st from if_neg (by rw[t18];omega)];have L1:=L.on2 kp fr1;dsimp only[G3,J5];have spk:∀{top:Int}{b:Sp2},top<=∅->SpB k'.m top b->A17 k'.m b:=λh z=>⟨z.1,z.2.1,A01 z.2.2 h⟩;have js_str:∀{σ:Lake.St}{Hx:Hp}{acc x:Str}{ta:TE}{tr:TJ}{Qx:Str->Hp->Prop},(∀R:V->Hp->Prop,R (.str x) Hx->ta σ Hx R)->x.length<=1000->acc.length<=1000->tr σ Hx (acc++x) Qx->tJc (B5z ta) tr σ Hx acc Qx:=λht hx ha q=>by
   refine ht _ ⟨_,.txt _ (J1 hx (by rw[sizeLine_eq];decide)),_,rfl,?_,q⟩;rw[A8h,sizeLine_eq];omega
  have spL:∀{top:Int}{b g:Sp2},top<=∅->SpB k'.m top b->SpB k'.m top g->(spW b g).length<=1000:=λ{top b g} h hb hg=>by
   obtain⟨b1,b2,b3⟩:=hb;obtain⟨g1,g2,g3⟩:=hg;have l0:Str.length Str.empty=0:=rfl;have l1:Str.length (Str.ofString " ")=1:=by decide
   have l2:=W3 (n:=((b.1:Nat):Int)) (i60 OO OO);have l3:=W3 (n:=b.2) (i60 OO OO);have l4:=W3 (n:=((g.1:Nat):Int)) (i60 OO OO);have l5:=W3 (n:=g.2) (i60 OO OO);unfold spW;simp only[A8h,l0,l1];omega
  refine⟨fun σ' H'=>σ'=[some (.ref hd),some (.ref q),some (.ref p2),some (.int ((k'.m:Nat):Int)),some (.int k'.st),none,none,none,none,none,none]/\Kp hd H1 H'/\D96 T.af T.aa F hd hl q p1 d1 p2 d2 k' k' H',?_,?_⟩
  ·refine⟨_,rfl,T4 DD DD L1.hnd λu H2 u0 u2 k2 h2=>?_⟩;have Lake:=L1.draw k2 h2;refine⟨rfl,_,rfl,?_⟩;by_cases c:u=0
   ·subst c;rw[show decide (V.int 0=V.int 0)=true from decide_eq_true rfl];obtain⟨top,htop⟩:∃top:Int,top=if 2*k'.st+3<10^W6 18 then 2*k'.st+3 else 10^W6 18:=⟨_,rfl⟩
    have tb:0<=top/\top<=∅:=by
     rw[htop,t18];split <;> omega
    refine G4 ⟨_,rfl,_,rfl,_,_,rfl,rfl,⟨DD,DD,DD⟩,_,rfl,_,_,rfl,rfl,.inl ⟨DD,DD⟩,_,_,rfl,rfl,_,_,rfl,?_⟩;rw[<-htop];refine⟨hd,hl,k'.m,top,rfl,Lake.hnd,⟨m1,m2⟩,tb,λt tbb tg b g H3 hb hg et eb eg k3 h3=>?_⟩;have L3:=Lake.draw k3 h3;refine⟨t,_,rfl,SqT.of et,rfl,_,_,rfl,_,_,rfl,_,_,rfl,rfl,?_⟩;dsimp only[G3,J5];have a3:=L3.a2;obtain⟨⟨dx3,g',l',ug',ul',f3,_⟩,_⟩:=a3;have ob:=spk tb.2 hb;have og:=spk tb.2 hg;refine⟨_,rfl,p2,dx3,_,rfl,f3,K7 KK,_,rfl,_,rfl,F,p2,d2,k',_,_,rfl,L3.new,L3.a2,.cons (.tup trivial eb (.cons (.int _) (.cons (.int _) .nil))) (.cons (.tup trivial eg (.cons (.int _) (.cons (.int _) .nil))) .nil),⟨b,g,rfl,ob,og,ok⟩,λr v H4 po kp4 tv4 fr4=>?_⟩;obtain⟨b',g2,o,e,ls,rfl⟩:=po;obtain⟨eb',e⟩:=a9.inj e;have eg':=B3l (a9.inj e).1;have eb':=B3l eb';rw[<-eb',<-eg'] at ls;have L4:=L3.on2 kp4 fr4;dsimp only[G3,J5];obtain⟨dx,eq⟩:=L4.dk;refine⟨_,rfl,q,dx,_,rfl,eq,rfl,_,rfl,_,_,rfl,rfl,J1 (B9z (show Str.length "store " <=8 by decide) (spL tb.2 hb hg)) DD,?_⟩;dsimp only[V8,tC,T8,X5,T6,O1];refine say .store (E0z m2 OO hb hg) ⟨ok,b,g,rfl,ob,og⟩ (λk' t h=>h.1) L4 λt5 H5 po L5 fr5=>?_;obtain⟨_,b5,g5,o5,e5,ls5,rfl⟩:=po;have eab:b=b5/\g=g5:=by
     simp only[a9.injEq,Option.some.injEq,and_true] at e5;obtain⟨i1,i2,i3,i4⟩:=e5;exact⟨Prod.ext OO i2,Prod.ext OO i4⟩
    obtain⟨rfl,rfl⟩:=eab;cases ls5.uniq ob ls;have fin:∀{la:Addr}{xs:List V},H5 la=none->Q (.bl true) (upd H5 la (.lst xs)):=λ{la xs} na=>by
     have s6:=Same.upd (o:=.lst xs) na;exact told _ (L5.same s6) λb o e n1 n2 n3 n4 n5=>s6 _ _ (fr5 _ _ (fr4 _ _ (k3 _ _ (k2 _ _ (fr1 _ _ e n4 n5) n1) n1) n4 n5) n2 n3)
    cases o with
    | none=>cases tv4;refine⟨_,rfl,.inr ⟨rfl,SZ (n:=2),λla na=>?_⟩⟩;refine⟨_,rfl,rfl,.inr ⟨_,rfl,la,_,0,V.str "none",rfl,rfl,SqL.of B3,rfl,rfl,?_⟩⟩;rw[show decide (V.str (lsW none)=V.str "none")=true from decide_eq_true rfl];exact fin na
    | some n=>cases tv4;refine⟨_,rfl,.inl ⟨n,rfl,A1b (C6g ok.land ob og ls),SZ (n:=2),λla na=>?_⟩⟩;refine⟨_,rfl,rfl,.inr ⟨_,rfl,la,_,1,V.str (itx n),rfl,rfl,SqL.of B3,rfl,rfl,?_⟩⟩;rw[show decide (V.str (lsW (some n))=V.str (itx n))=true from decide_eq_true rfl];exact fin na
   ·rw[decide_eq_false λz=>c (V.int.inj z)];exact E4 ⟨rfl,k2,Lake⟩
  rintro σ' H2 ⟨rfl,k2,Lake⟩;refine⟨_,rfl,_,rfl,_,rfl,hd,hl,k'.m,k'.st,rfl,Lake.hnd,⟨m1,m2⟩,⟨s0k,s18⟩,λt tbb tg b g H3 hb hg et eb eg k3 h3=>?_⟩;have L3:=Lake.draw k3 h3;refine⟨t,_,rfl,SqT.of et,rfl,_,_,rfl,_,_,rfl,_,_,rfl,rfl,?_⟩;dsimp only[G3,J5];have ob:=spk s18 hb;have og:=spk s18 hg;refine⟨SZ (n:=4),λla na=>?_⟩;have s4:=Same.upd (o:=.lst [.int 0,.int 3,.int 12,.int 200]) na;have ela:upd H3 la (.lst [.int 0,.int 3,.int 12,.int 200]) la=some (.lst [.int 0,.int 3,.int 12,.int 200]):=B3;generalize upd H3 la (.lst [.int 0,.int 3,.int 12,.int 200])=H4 at s4 ela ⊢;have L4:=L3.same s4;have nla:la≠hd:=λz=>by
   obtain⟨_,_,_,_,_,_,_,_,e⟩:=h3;rw[z,e] at na;cases na
  refine⟨_,rfl,T4 DD DD L4.hnd λu H5 u0 u4 k5 h5=>?_⟩;have L5:=L4.draw k5 h5;obtain⟨most,hmost,hm⟩:∃most:Nat,atI [V.int 0,V.int 3,V.int 12,V.int 200] u=some (V.int ((most:Nat):Int))/\most<=200:=by
   rcases (show u=0\/u=1\/u=2\/u=3 by omega) with rfl | rfl | rfl | rfl
   ·exact⟨0,rfl,DD⟩
   ·exact⟨3,rfl,DD⟩
   ·exact⟨12,rfl,DD⟩
   ·exact⟨200,rfl,DD⟩
  refine⟨la,_,_,_,rfl,rfl,SqL.of (k5 _ _ ela nla),hmost,?_⟩;dsimp only[G3,J5];have eb5:=k5 _ _ (s4 _ _ eb) (A0v L4.hnd (s4 _ _ eb));have eg5:=k5 _ _ (s4 _ _ eg) (A0v L4.hnd (s4 _ _ eg));have a5:=L5.a2;obtain⟨⟨dx5,g9,l9,ug9,ul9,f5,_⟩,_⟩:=a5;refine⟨_,rfl,p2,dx5,_,rfl,f5,K7 KK,F,p2,d2,k',[],[],rfl,L5.new,L5.a2,.nil,⟨rfl,lk⟩,λr v k6 H6 po kp6 tv6 fr6 ap6=>?_⟩;obtain⟨ek,rfl⟩:=po;subst ek;have L6:=L5.on2 kp6 fr6;have a6:=L6.a2;obtain⟨⟨dx6,g9',l9',ug9',ul9',f6,_⟩,_⟩:=a6;refine⟨_,rfl,p2,dx6,_,rfl,f6,K7 KK,F,p2,d2,k6,[],[],rfl,L6.new,L6.a2,.nil,rfl,λr v5 k7 H7 po kp7 tv7 fr7 ap7=>?_⟩;obtain⟨ek,rfl⟩:=po;subst ek;cases tv7;have L7:=L6.on2 kp7 fr7;have up:∀{b:Addr}{xs:List V},H5 b=some (.tup xs)->H7 b=some (.tup xs):=λe=>by
   have e6:=fr6 _ _ e (P3 L5.a2 e).1 (P3 L5.a2 e).2;exact fr7 _ _ e6 (P3 L6.a2 e6).1 (P3 L6.a2 e6).2
  have tv67:ThV TT0 H7 v (J0 k7.m (wsF k7.kws)):=tv6.mv λb o g e=>⟨trivial,fr7 _ _ e (B3m L5.a2 g).1 (B3m L5.a2 g).2⟩;refine⟨_,rfl,_,rfl,_,rfl,V1 (E:=E0) (λd=>A8n k7.m (wsF k7.kws) k7.st b g most d) (.cons tv67 (.cons (.int _) (.cons (.tup trivial (up eb5) (.cons (.int _) (.cons (.int _) .nil))) (.cons (.tup trivial (up eg5) (.cons (.int _) (.cons (.int _) .nil))) (.cons (.int _) .nil))))) ⟨k7.m,wsF k7.kws,k7.st,b,g,most,rfl,ok.land,ob.1,og.1,OO,λd hd=>hd⟩ λd6 v7 H8 hd6 t6 s8=>?_⟩;dsimp only[G3,J5];have L8:=L7.same s8;refine⟨fun σ' H'=>σ'=[some (.ref hd),some (.ref q),some (.ref p2),some (.int ((k7.m:Nat):Int)),some (.int k7.st),some (.ref tbb),some (.ref tg),some (.str (spW b g)),some v7,some (.int ((most:Nat):Int)),some (.str (soW d6))]/\H8=H',?_,?_⟩
  ·rcases id hd6 with ⟨rfl,_⟩ | ⟨L',ns,lv,rfl,hL,_,_,hns,_⟩
   ·obtain⟨a6,u6,rfl,_,e6,t6⟩:=Y0 t6;obtain⟨v1,v2,rfl,x1,x2⟩:=X9 t6;cases x1;exact⟨_,rfl,a6,_,_,_,rfl,rfl,SqT.of e6,rfl,rfl,_,rfl,E4 ⟨rfl,rfl⟩⟩
   ·obtain⟨a6,u6,rfl,_,e6,t6⟩:=Y0 t6;obtain⟨v1,v2,v3,rfl,x1,x2,x3⟩:=B85 t6;cases x1;obtain⟨ln,un,rfl,_,en,xn⟩:=M2 x2;have lun:un.length=(F3 ns).length:=xn.len;have lns:(F3 ns).length=ns.length:=by unfold F3;rw[B6]
    refine⟨_,rfl,a6,_,_,_,rfl,rfl,SqT.of e6,rfl,rfl,_,rfl,G4 ?_⟩;refine⟨_,rfl,a6,_,_,_,rfl,rfl,SqT.of e6,rfl,ln,_,rfl,.inl (SqL.of en),_,rfl,A1b ?_,?_⟩
    ·rw[lun,lns];exact A0i (show ((ns.length:Nat):Int).natAbs<=200 by omega) (DD)
    ·rw[lun];exact⟨rfl,rfl⟩
  rintro σ' _ ⟨rfl,rfl⟩;obtain⟨dx,eq⟩:=L8.dk;refine⟨_,rfl,q,dx,_,rfl,eq,rfl,?_⟩;have l0:Str.length Str.empty<=0:=E8 _;refine U2 (k:=0) (n':=5) DD l0 DD λj1=>?_;refine js_str (λR r=>⟨_,rfl,r⟩) (spL s18 hb hg) OO ?_;refine U2 (k:=1100) (n':=1) DD (by rw[A8h];have:=spL s18 hb hg;omega) DD λj3=>?_;refine S7 (n:=((most:Nat):Int)) (i60 OO OO) j3 DD (λj4=>?_) λR r=>⟨_,rfl,r⟩;refine⟨J1 j4 (by rw[sizeLine_eq];decide),?_⟩;dsimp only[V8,tC,T8,X5,T6,O1];refine say .soon (E00 m2 OO hb hg hm) ⟨ok,b,g,most,rfl,ob,og,hb.2.2,hg.2.2,hm⟩ (λk' t h=>h.1) L8 λt9 H9 po L9 fr9=>?_;obtain⟨_,b9,g9,most9,d9,e9,sr9,rfl⟩:=po;have eab:b=b9/\g=g9/\most=most9:=by
   unfold PrS at e9;simp only[a9.injEq,Option.some.injEq,and_true] at e9;obtain⟨i1,i2,i3,i4,i5⟩:=e9;exact⟨Prod.ext OO i2,Prod.ext OO i4,OO⟩
  obtain⟨rfl,rfl,rfl⟩:=eab;refine⟨_,rfl,rfl,?_⟩;rw[show decide (V.str (soW d9)=V.str (soW d6))=true from decide_eq_true (congrArg V.str (E1f sr9 hd6))];exact told H9 L9 λb o e n1 n2 n3 n4 n5=>fr9 _ _ (s8 _ _ (fr7 _ _ (fr6 _ _ (k5 _ _ (s4 _ _ (k3 _ _ (k2 _ _ (fr1 _ _ e n4 n5) n1) n1)) n1) n4 n5) n4 n5)) n2 n3
structure A0w (Cd C hd hl q p1 e1 p2 e2 kl dc gl:Addr)(k:Kst)(H:Hp):Prop where
 two:D96 Cd C (λb=>b∉[hd,kl,gl]) hd hl q p1 e1 p2 e2 k k H
 kept:j9 (λb=>b=kl\/b=gl) H kl dc k.st k.g k.kws
 ok:KOk k.m k.st k.g k.kws
 low:V2 k.m k.st k.g k.kws k.low
 s18:k.st<=∅
 n1:dc≠e1
 n2:dc≠e2
 nh:kl≠hd/\gl≠hd
theorem j9.draw {F:Addr->Prop}{H H':Hp}{hd hl kl dc:Addr}{st:Int}{g:Tb}{kws:Kw}(L:j9 F H kl dc st g kws)(hh:Hd H hd hl)(nF:∀b,F b->b≠hd)(s:Kp hd H H'):j9 F H' kl dc st g kws:=by
 obtain⟨⟨gl,e1,f1,f2,n,e2⟩,kvs,e3,kv⟩:=L;have ndc:dc≠hd:=λz=>by
  obtain⟨_,_,_,_,_,_,_,_,e⟩:=hh;rw[z,e] at e3;cases e3
 exact⟨⟨gl,s _ _ e1 (nF _ f1),f1,f2,n,s _ _ e2 (nF _ f2)⟩,kvs,s _ _ e3 ndc,kv.mv λb xs e=>s _ _ e (A0v hh e)⟩
theorem A0w.draw {Cd C hd hl q p1 e1 p2 e2 kl dc gl:Addr}{k:Kst}{H H':Hp}(L:A0w Cd C hd hl q p1 e1 p2 e2 kl dc gl k H)(s:Kp hd H H')(h:Hd H' hd hl):A0w Cd C hd hl q p1 e1 p2 e2 kl dc gl k H':=
 { L with
  two:=L.two.draw s h
  kept:=L.kept.draw L.two.hnd (λb hb=>by
   rcases hb with rfl | rfl
   ·exact L.nh.1
   ·exact L.nh.2) s }
theorem j9.frp {F G:Addr->Prop}{C p d:Addr}{k:Kst}{H H':Hp}{kl dc:Addr}{st:Int}{g:Tb}{kws:Kw}(L:j9 F H kl dc st g kws)(kp:E7 G C H p d k)(fr:Frp p d H H')(n:dc≠d):j9 F H' kl dc st g kws:=by
 obtain⟨⟨gl,e1,f1,f2,n1,e2⟩,kvs,e3,kv⟩:=L;have nl:∀{b:Addr}{xs:List V},H b=some (.lst xs)->H' b=some (.lst xs):=λe=>fr _ _ e (M8 kp e).1 (M8 kp e).2;refine⟨⟨gl,nl e1,f1,f2,n1,nl e2⟩,kvs,fr _ _ e3 (λz=>?_) n,kv.mv λb xs e=>fr _ _ e (P3 kp e).1 (P3 kp e).2⟩;obtain⟨⟨dx,g,l,ug,ul,y1,_⟩,_⟩:=kp;rw[z,y1] at e3;cases e3
theorem A0w.five {Cd C hd hl q p1 e1 p2 e2 kl dc gl:Addr}{k:Kst}{H H':Hp}(L:A0w Cd C hd hl q p1 e1 p2 e2 kl dc gl k H)(D:D96 Cd C (λb=>b∉[hd,kl,gl]) hd hl q p1 e1 p2 e2 k k H')
  (fr:∀b o,H b=some o->b≠hd->b≠p1->b≠e1->b≠p2->b≠e2->H' b=some o):A0w Cd C hd hl q p1 e1 p2 e2 kl dc gl k H':=
 { L with
  two:=D
  kept:=by
   obtain⟨⟨g',x1,f1,f2,n1,x2⟩,kvs,x3,kv⟩:=L.kept;have nh:∀b,(b=kl\/b=gl)->b≠hd:=λb hb=>by
    rcases hb with rfl | rfl
    ·exact L.nh.1
    ·exact L.nh.2
   have ng:∀{b:Addr}{xs:List V},(b=kl\/b=gl)->H b=some (.lst xs)->H' b=some (.lst xs):=λhb e=>fr _ _ e (nh _ hb) (M8 L.two.a1 e).1 (M8 L.two.a1 e).2 (M8 L.two.a2 e).1 (M8 L.two.a2 e).2;have y1:=L.two.a1.1;have y2:=L.two.a2.1;obtain⟨_,_,_,_,_,y1,_⟩:=y1;obtain⟨_,_,_,_,_,y2,_⟩:=y2;refine⟨⟨g',ng f1 x1,f1,f2,n1,ng f2 x2⟩,kvs,fr _ _ x3 (λz=>?_) (λz=>by rw[z,y1] at x3;cases x3) L.n1 (λz=>by rw[z,y2] at x3;cases x3) L.n2,kv.mv λb xs e=>fr _ _ e (A0v L.two.hnd e) (P3 L.two.a1 e).1 (P3 L.two.a1 e).2 (P3 L.two.a2 e).1 (P3 L.two.a2 e).2⟩;obtain⟨_,_,_,_,_,_,_,_,e⟩:=L.two.hnd;rw[z,e] at x3;cases x3 }
theorem j9.sm {F:Addr->Prop}{H H':Hp}{kl dc:Addr}{st:Int}{g:Tb}{kws:Kw}(L:j9 F H kl dc st g kws)(s:Same H H'):j9 F H' kl dc st g kws:=by
 obtain⟨⟨gl,e1,f1,f2,n1,e2⟩,kvs,e3,kv⟩:=L;exact⟨⟨gl,s _ _ e1,f1,f2,n1,s _ _ e2⟩,kvs,s _ _ e3,kv.mv λb xs e=>s _ _ e⟩
theorem C62 (k:Kst)(dd:K3):(G9 k dd).m=k.m:=by cases dd <;> rfl
theorem E1i (k:Kst){dd:K3}{g:Tb}(h:dd=.aim g):(G9 k dd).g=g:=by subst h;rfl
theorem C63 {C hd hl kl dc gl gl' p e:Addr}{k:Kst}{st:Int}{g:Tb}{kws:Kw}{H H':Hp}(kp:E7 (λb=>b∉[hd,kl,gl]) C H p e k)(hh:Hd H hd hl)(lk:j9 (λb=>b=kl\/b=gl) H kl dc st g kws)(ne:dc≠e)
  (fr:∀b o,H b=some o->b≠hd->b≠kl->b≠dc->H' b=some o) (hg:gl'=gl\/H gl'=none):E7 (λb=>b∉[hd,kl,gl']) C H' p e k:=by
 obtain⟨⟨dx,g0,l,ug,ul,e1,g1,e2,t2,g3,e3,t3⟩,kvs,e4,kv⟩:=kp;obtain⟨⟨glx,x1,_⟩,kv0,x3,_⟩:=lk;obtain⟨_,_,_,_,_,_,_,_,x4⟩:=hh;have nl:∀{b:Addr}{o:HO},H b=some o->(∀xs,o≠.lst xs)->(∀q,o≠.dK q)->H' b=some o:=λ{b o} eb n n'=>fr _ _ eb (λz=>by rw[z,x4] at eb;cases eb;exact n _ rfl) (λz=>by rw[z,x1] at eb;cases eb;exact n _ rfl) λz=>by rw[z,x3] at eb;cases eb;exact n' _ rfl
 have ls:∀{b:Addr}{xs:List V},b∉[hd,kl,gl]->H b=some (.lst xs)->H' b=some (.lst xs)/\b∉[hd,kl,gl']:=λ{b xs} n eb=>by
  simp only[G1,W5,or_false,not_or] at n ⊢;refine⟨fr _ _ eb n.1 n.2.1 (λz=>by rw[z,x3] at eb;cases eb),n.1,n.2.1,λz=>?_⟩;rcases hg with y | y
  ·exact n.2.2 (z.trans y)
  ·rw[z,y] at eb;cases eb
 exact⟨⟨dx,g0,l,ug,ul,nl e1 (λJ z=>nomatch z) (λJ z=>nomatch z),(ls g1 e2).2,(ls g1 e2).1,M4 t2,(ls g3 e3).2,(ls g3 e3).1,M4 t3⟩,kvs,fr _ _ e4 (λz=>by rw[z,x4] at e4;cases e4) (λz=>by rw[z,x1] at e4;cases e4) (Ne.symm ne),kv.mv λb xs eb=>nl eb (λJ z=>nomatch z) (λJ z=>nomatch z)⟩
theorem E1j {K:A8}{mg:Str->Option Value}(T:Txt K mg)(dd:K3):∃a Dp,V3 T dd.wd a (A1i Dp) (Z7 Dp)/\Dp dd/\∀dd',Dp dd'->dd.os=dd'.os->dd'=dd:=by
 cases dd with
 | lay x w0=>
  refine⟨_,A4a,.lay,⟨_,_,rfl⟩,λdd' h e=>?_⟩;obtain⟨x',⟨a,b,c⟩,rfl⟩:=h;obtain⟨a0,b0,c0⟩:=w0;simp only[K3.os,a9.injEq,Option.some.injEq,and_true] at e;obtain⟨i1,i2,i3,i4⟩:=e;have i2:a0=a:=by omega
  have i3:b0=b:=by omega
  rw[i1,i2,i3,i4]
 | lift x=>refine⟨_,A4b,.lift,⟨_,rfl⟩,λdd' h e=>?_⟩;obtain⟨x',rfl⟩:=h;cases e;rfl
 | turn x c=>refine⟨_,A4c,.turn,⟨_,_,rfl⟩,λdd' h e=>?_⟩;obtain⟨x',c',rfl⟩:=h;cases e;rfl
 | refill x=>refine⟨_,A4d,.refill,⟨_,rfl⟩,λdd' h e=>?_⟩;obtain⟨x',rfl⟩:=h;cases e;rfl
 | aim g=>refine⟨_,A4e,.aim,⟨_,rfl⟩,λdd' h e=>?_⟩;obtain⟨g',rfl⟩:=h;cases (show g=g' from e);rfl
def B3o (K:A8):Sp:=λvs H Q J=>∃(a:Addr)(ns:List Int),vs=[.ref a]/\SqL K H a (ns.map V.int)/\ns.length<=63/\∀H',Q (.bl true) H'
theorem E1k(D:A9y w T):FK P w base 15 T.iu (B3o K):=by
 have gA:=@C5n P w K mg base T;have gB:=T.de.b;have jE:=@E0q P w K mg base T;have jF:=T.dG.b;refine T.iu.F.ok A1e (λJ H J J h=>?_) (λJ J J J H J Q J hr h=>?_)
 ·obtain⟨a,ns,rfl,_⟩:=h;rfl
 ·obtain⟨a,ns,rfl,hS,hlen,told⟩:=h;refine⟨_,(B5 (pS (i:=1) A1e.nd (pcF T.dW (D5l T) hr (A1 (pv 0) A3 A0)))
   (B5 (pS (i:=2) A1e.nd (pcF T.dH (D84 T) hr (A1 (pv 1) A3 A0)))
   (B5 (pS (i:=3) A1e.nd (F0 N3 A7 (pcF T.ae (A36 T) hr (A1 (pv 1) (A1 (C7 F1 (U6 (A1 A7 (A1 A7 A3 E6) E6)) (pcF T.ae (A36 T) hr (A1 (pv 1) (A1 A7 A3 E6) A0))) A3 B0) A0))))
   (B5 (pS (i:=4) A1e.nd (pcF T.ae (A36 T) hr (A1 (pv 1) (A1 (F0 N3 (J2 (A1q rfl) rfl T.dv A1u (A1 (F0 U5 A7 A7) (A1 (F0 A03 A7 (pv 2)) A3 E9) E9)) A7) A3 E9) A0)))
   (B5 (pS (i:=5) A1e.nd (C8z T.iV jE (hr.mono DD) rfl T.iU jF .nil A4))
   (B5 (K5 (J6 (K6 A85 (pmF (pv 5) T.br T.bb (B9a T D) hr (A1 (A2v (K1 F6 (K1 (S2 (pv 3)) (K1 F6 (K1 (S2 (pv 4)) A2u))))) A3 B0m) (hst:=B0m)) F6 (D1 _))
   (C1 (E3 A6z))
   K2))
   (B5 (pS (i:=6) A1e.nd (C0s T.fF gA (hr.mono DD) rfl T.fE gB .nil A4 (A1 (pv 3) (A1 (pv 4) (A1 (S1 (M7.new (N:=["_law_script","_law_hand_here","_law_scale_here","_law_many","_law_store","_law_desk","_law_keeper","_law_kept","_law_k","_law_row_here","_law_j"]) (osc:=B1 A1d) KK) rfl (A3g rfl T.cP (A1 (pv 3) A3 A0)) (λJ=>W8) (λJ=>m7)) A3 b7) A0) A0)))
   (B5 (pS (i:=7) A1e.nd (U6 (A1 C27 (A1 (pv 4) (A1 (S1 (M7.new (N:=["_law_script","_law_hand_here","_law_scale_here","_law_many","_law_store","_law_desk","_law_keeper","_law_kept","_law_k","_law_row_here","_law_j"]) (osc:=B1 A1d) KK) rfl (A3g rfl T.cP (A1 (pv 3) A3 A0)) (λJ=>W8) (λJ=>m7)) A3 b7) A0) C9r)))
   (B5 (A2e m6 rfl (A3g rfl T.cP (A1 (F0 N3 A7 (pcF T.ae (A36 T) hr (A1 (pv 1) (A1 A7 A3 E6) A0))) A3 E9)) (O8 (i:=8) A1e.nd)
   (B5 (pS (i:=9) A1e.nd (pcF T.dY (E1a T) hr (A1 (pv 1) (A1 (pv 3) (A1 (pv 2) (A1 (pv 7) A3 A0) A0) A0) A0)))
   (B5 (K5 (J6 (K6 A85 (pmF (pv 5) T.br T.bb (B9a T D) hr (A1 (pv 9) A3 A0) (hst:=A0)) (pcF T.dZ (E0r T) hr (A1 (pcF T.ee (E0v T) hr (A1 (pv 6) (A1 (pv 9) (A1 (C7 F1 (pv 7) A7) A3 B0) A0) A0)) A3 C0)) (D1 _))
   (C1 (E3 A6z))
   K2))
   (B5 (K5 (J6 (PW.pt (A61 (K6 Q4 (pcF T.ae (A36 T) hr (A1 (pv 1) (A1 A7 A3 E6) A0)) A7 (D1 _)) (A60 (T0 (U4 (pcF T.cR (E1d T D) hr (A1 (pv 1) (A1 (pv 5) (A1 (pv 6) (A1 (pv 3) A3 A0) A0) A0) A0)))))))
   (C1 (E3 A6z))
   K2))
   (C1 (J6 (K6 Q4 (pcF T.ae (A36 T) hr (A1 (pv 1) (A1 A7 A3 E6) A0)) A7 (D1 _))
   (C1 (A2e m6 rfl (A3g rfl T.cP (A1 A7 A3 E6)) (O8 (i:=10) A1e.nd)
   (C1 (J6 (T0 (U4 (pcF T.cM (E1h T D) hr (A1 (pv 1) (A1 (pv 5) (A1 (pv 6) (A1 (pv 3) A3 A0) A0) A0) A0))))
   (C1 (E3 A6z))
   K2))))
   K2))))))
   (C1 (E3 (B37 (pcF T.cR (E1d T D) hr (A1 (pv 1) (A1 (pv 5) (A1 (pv 6) (A1 (pv 3) A3 A0) A0) A0) A0)) (B01 (y7 Q4 (pmF (pv 5) T.br T.bb (B9a T D) hr (A1 F6 A3 E6) (hst:=E6)) (pcF T.bQ (C6r T) hr (A1 (pmG (pv 6) T.ac T.bG (B8z T) hr) A3 C0)) (D1 _))))))))))))))),?_⟩
  try dsimp only[G5,Cx.nox]
  have t18:(10:Int)^W6 18=∅:=by decide
  refine A14 λW hW=>?_;refine⟨_,rfl,a,ns,rfl,hS,λhd hl H1 J J d1 J=>?_⟩;refine Q0 W hW λW hW=>?_;refine⟨_,rfl,D57 (E:=E0) (λd=>∃r:Int,(1<=r/\r<=∅)/\d=.int r) d1 ⟨_,rfl,λr r0 r1=>⟨r,⟨r0,r1⟩,rfl⟩⟩ λd v H2 hd' tv J d2=>?_⟩;obtain⟨sc,⟨sc0,sc1⟩,rfl⟩:=hd';cases tv;refine Q0 W hW λW hW=>?_;refine⟨_,rfl,SZ (n:=2),λlx hlx=>?_⟩;have s3:Same H2 _:=Same.upd (o:=.lst [.int 5,.int 12]) hlx;refine⟨_,rfl,T4 DD DD (d2.same s3) λr3 H3 r30 r31 k3 d3=>?_⟩;have elx:=k3 _ _ (B3 (H:=H2) (a:=lx)) (λz=>by
   obtain⟨_,_,_,_,_,_,_,_,e⟩:=d2;rw[z,e] at hlx;cases hlx)
  obtain⟨nb,hnb,nb0,nb1⟩:∃nb:Int,atI [V.int 5,V.int 12] r3=some (V.int nb)/\1<=nb/\nb<=12:=by
   rcases lt2 r30 r31 with rfl | rfl
   ·exact⟨_,rfl,DD,DD⟩
   ·exact⟨_,rfl,DD,DD⟩
  refine⟨lx,_,_,_,rfl,rfl,SqL.of elx,hnb,T4 OO OO d3 λm0 H4 m00 m01 k4 d4=>?_⟩;obtain⟨m,hm,m1,m2⟩:∃m:Nat,1+m0=((m:Nat):Int)/\1<=m/\m<=12:=⟨(1+m0).toNat,OO,OO,OO⟩;refine⟨_,_,rfl,rfl,?_⟩;dsimp only;rw[hm];clear k3 k4 s3 elx hlx d2 d3;refine Q0 W hW λW hW=>?_;obtain⟨mo,hmo⟩:∃mo:Int,mo=if 4*sc<10^W6 18 then 4*sc else 10^W6 18:=⟨_,rfl⟩
  have mo1:0<=mo/\mo<=∅:=by
   rw[hmo,t18];split <;> omega
  refine⟨_,rfl,_,_,rfl,rfl,⟨DD,DD,DD⟩,_,rfl,_,_,rfl,rfl,.inl ⟨DD,DD⟩,_,_,rfl,?_⟩;rw[<-hmo];refine⟨_,_,rfl,rfl,T4 OO OO d4 λst H5 st0 st1 J d5=>?_⟩;have st18:st<=∅:=by omega
  clear d4;refine Q0 W hW λW hW=>?_;refine λq dq hq hdq ne=>⟨q,dq,rfl,B3,rfl,?_⟩;have eq6:upd (upd (upd H5 dq (.own q)) q (.ins T.af dq [])) q (.ins T.af dq [("keeper",.non)]) q=some (.ins T.af dq [("keeper",.non)]):=B3;have s6:Same H5 (upd (upd (upd H5 dq (.own q)) q (.ins T.af dq [])) q (.ins T.af dq [("keeper",.non)])):=λb o e=>by
   have n1:b≠q:=λz=>by rw[z,hq] at e;cases e
   have n2:b≠dq:=λz=>by rw[z,hdq] at e;cases e
   rw[B7 n1,B7 n1,B7 n2];exact e
  generalize upd (upd (upd H5 dq (.own q)) q (.ins T.af dq [])) q (.ins T.af dq [("keeper",.non)])=H6 at eq6 s6 ⊢;have d6:=d5.same s6;dsimp only[G3,J5];refine Q0 W hW λW hW=>?_;refine⟨fun σ' H'=>σ'=[some (.ref a),some (.ref hd),some (.int sc),some (.int ((m:Nat):Int)),some (.int st),some (.ref q),none,none,none,none,none]/\∃p1 e1 low,V2 m st (noT m) [] low/\E7 (λb=>H6 b=none) T.aa H' p1 e1 ⟨m,st,noT m,[],low⟩/\A8q T.af H' q (.ref p1)/\∀b o,H6 b=some o->b≠q->H' b=some o,?_,?_⟩
  ·refine⟨_,rfl,q,dq,_,rfl,eq6,rfl,?_⟩;have l0:Str.length Str.empty<=0:=E8 _;refine U2 (k:=0) (n':=5) DD l0 DD λj1=>?_;refine S7 (n:=((m:Nat):Int)) (i60 OO OO) j1 DD (λj2=>?_) λR r=>⟨_,rfl,r⟩;refine U2 (n':=1) DD j2 DD λj3=>?_;refine S7 (n:=st) (i60 OO OO) j3 DD (λj4=>?_) λR r=>⟨_,rfl,r⟩;refine⟨J1 j4 (by rw[sizeLine_eq];decide),?_⟩;dsimp only[V8,tC,T8,X5,T6,O1];refine⟨q,.non,_, "land",_,rfl,⟨dq,eq6⟩,E0y m2 st0 OO,.inl ⟨m,st,rfl,rfl,m1,m2,st0,OO,λp d low H' lr np nd kp dk fr=>?_⟩⟩;refine⟨rfl,_,rfl,?_⟩;rw[show (!decide (V.str "ok" = V.str "ok"))=false by rw[decide_eq_true rfl];rfl];exact E4 ⟨rfl,p,d,low,lr,kp,dk,fr⟩
  rintro σ' H7 ⟨rfl,p1,e1,low,lr,kp1,dk,fr7⟩;have d7:Hd H7 hd hl:=by
   obtain⟨ns,x,b,c,u,v,h1,h2,h3⟩:=d6;exact⟨ns,x,b,c,u,v,fr7 _ _ h1 (λz=>by rw[z,eq6] at h1;cases h1),h2,fr7 _ _ h3 λz=>by rw[z,eq6] at h3;cases h3⟩
  refine Q0 W hW λW hW=>?_;refine⟨_,rfl,_,rfl,_,rfl,((m:Nat):Int),rfl,OO,OO,?_⟩;refine B4l (n:=m) (λi ys Hn=>Hn=H7/\ys=F2 i V.non) (by rw[sizeLine_eq];omega) ⟨rfl,rfl⟩ (λi ys Hn hi h=>by
   obtain⟨_,rfl⟩:=h;rw[a8];exact E8 _) (λi ys Hn hi h ca=>?_) ?_
  ·obtain⟨rfl,rfl⟩:=h;unfold o8;exact G4 ⟨rfl,List.replicate_succ'.symm⟩
  rintro ys Hn ⟨rfl,rfl⟩ l8 nl8;have s8:=Same.upd (o:=.lst (F2 m V.non)) nl8;have e8:upd Hn l8 (.lst (F2 m V.non)) l8=some (.lst ((noT m).map oV)):=B3.trans (by unfold noT;rw[C7k];rfl);generalize upd Hn l8 (.lst (F2 m V.non))=H8 at s8 e8 ⊢;intro p2 dx2 hp2 hdx2 np2;have sA:=Same.upd (o:=.own p2) hdx2;have hp2':upd H8 dx2 (.own p2) p2=none:=by rw[B7 (λz=>np2 z.symm)];exact hp2
  have sB:=Same.upd (o:=.ins T.aa dx2 []) hp2';have sAB:=sA.tr sB;have ok:KOk m st (noT m) []:=⟨m1,m2,st0,OO,C6l m st,List.nodup_nil,P5 _,λq hq=>by cases hq⟩;refine⟨p2,dx2,m,st,noT m,.ref l8,rfl,B3,.lst trivial (sAB _ _ e8) (A1h _),ok,λe2 low2 H9 lr2 ne2 kp2 fr9=>⟨rfl,?_⟩⟩;cases lr2.uniq lr;have s9:Same H8 H9:=λb o e=>fr9 _ _ (sAB _ _ e) λz=>by rw[z,hp2] at e;cases e
  have s79:=s8.tr s9;dsimp only[G3,J5];refine Q0 W hW λW hW=>?_;refine λdc ndc=>?_;have sD:=Same.upd (o:=.dK []) ndc;have eD:upd H9 dc (.dK []) dc=some (.dK []):=B3;generalize upd H9 dc (.dK [])=HA at sD eD ⊢;refine⟨_,rfl,_,rfl,((m:Nat):Int),rfl,OO,OO,?_⟩;refine B4l (n:=m) (λi ys Hn=>Hn=HA/\ys=F2 i V.non) (by rw[sizeLine_eq];omega) ⟨rfl,rfl⟩ (λi ys Hn hi h=>by
   obtain⟨_,rfl⟩:=h;rw[a8];exact E8 _) (λi ys Hn hi h ca=>?_) ?_
  ·obtain⟨rfl,rfl⟩:=h;unfold o8;exact G4 ⟨rfl,List.replicate_succ'.symm⟩
  rintro ys HA' ⟨rfl,rfl⟩ gl ngl;have sG:=Same.upd (o:=.lst (F2 m V.non)) ngl;have eG:upd HA' gl (.lst (F2 m V.non)) gl=some (.lst ((noT m).map oV)):=B3.trans (by unfold noT;rw[C7k];rfl);generalize upd HA' gl (.lst (F2 m V.non))=HG at sG eG ⊢;refine⟨SZ (n:=3),λkl nkl=>?_⟩;have sK:=Same.upd (o:=.lst [.ref dc,.int st,.ref gl]) nkl;have eK:upd HG kl (.lst [.ref dc,.int st,.ref gl]) kl=some (.lst [.ref dc,.int st,.ref gl]):=B3;generalize upd HG kl (.lst [.ref dc,.int st,.ref gl])=HK at sK eK ⊢;have nkg:gl≠kl:=λz=>by rw[<-z,eG] at nkl;cases nkl
  have lk0:j9 (λb=>b=kl\/b=gl) HK kl dc st (noT m) []:=⟨⟨gl,eK,.inl rfl,.inr rfl,nkg,sK _ _ eG⟩,[],sK _ _ (sG _ _ eD),.nil⟩;have s9K:Same H9 HK:=(sD.tr sG).tr sK;have s7K:Same Hn HK:=s79.tr s9K;have hdS:∀{Hz:Hp},Hd Hz hd hl->∃o,Hz hd=some o:=λh=>by
   obtain⟨_,_,_,_,_,_,_,_,e⟩:=h;exact⟨_,e⟩
  have ncl:∀{b:Addr},(∃o,H9 b=some o)->b≠kl/\b≠gl:=λ{b} h=>by
   obtain⟨o,e⟩:=h;refine⟨λz=>?_,λz=>?_⟩
   ·rw[<-z,sG _ _ (sD _ _ e)] at nkl;cases nkl
   ·rw[<-z,sD _ _ e] at ngl;cases ngl
  have D0:D96 T.af T.aa (λb=>b∉[hd,kl,gl]) hd hl q p1 e1 p2 e2 ⟨m,st,noT m,[],low⟩ ⟨m,st,noT m,[],low⟩ HK:=by
   have kp1':=kp1;obtain⟨⟨dx1,g1,l1,ug1,ul1,f1,_⟩,kv1,f2,_⟩:=kp1';refine⟨d7.same s7K,λb hb z=>hb (z▸D6),λb hb z=>?_,?_,E7.same (A21 kp1 λb xs h e z=>?_) s7K,E7.same (A21 kp2 λb xs h e z=>?_) s9K,λz=>?_,λz=>?_⟩
   ·simp only[G1,W5,or_false] at z;rcases z with rfl | rfl | rfl
    ·obtain⟨o,e⟩:=hdS (d7.same s7K);rw[e] at hb;cases hb
    ·rw[eK] at hb;cases hb
    ·rw[sK _ _ eG] at hb;cases hb
   ·obtain⟨dx,e⟩:=dk;exact⟨dx,s7K _ _ e⟩
   ·simp only[G1,W5,or_false] at z;have n:=ncl ⟨_,s79 _ _ e⟩;rcases z with rfl | rfl | rfl
    ·obtain⟨o,e⟩:=hdS d6;rw[e] at h;cases h
    ·exact n.1 rfl
    ·exact n.2 rfl
   ·simp only[G1,W5,or_false] at z;have n:=ncl ⟨_,e⟩;rcases z with rfl | rfl | rfl
    ·obtain⟨o,e⟩:=hdS (d7.same s8);rw[sAB _ _ e] at h;cases h
    ·exact n.1 rfl
    ·exact n.2 rfl
   ·rw[z] at f1;rw[s8 _ _ f1] at hp2;cases hp2
   ·rw[z] at f2;rw[sAB _ _ (s8 _ _ f2)] at ne2;cases ne2
  dsimp only[G3,J5];refine Q0 W hW λW hW=>?_;have nd1:dc≠e1:=λz=>by
   obtain⟨_,kv1,f2,_⟩:=kp1;rw[z,s79 _ _ f2] at ndc;cases ndc
  have nd2:dc≠e2:=λz=>by
   obtain⟨_,kv2,f2,_⟩:=kp2;rw[z,f2] at ndc;cases ndc
  have nkh:kl≠hd/\gl≠hd:=by
   obtain⟨o,e⟩:=hdS (d7.same s79);have n:=ncl ⟨_,e⟩;exact⟨n.1.symm,n.2.symm⟩
  have W0:A0w T.af T.aa hd hl q p1 e1 p2 e2 kl dc gl ⟨m,st,noT m,[],low⟩ HK:=⟨D0,lk0,ok,lr,st18,nd1,nd2,nkh⟩;refine⟨_,rfl,T4 DD DD D0.hnd λu HL u0 u1 kL dL=>⟨_,_,rfl,rfl,_,rfl,OO,OO,?_⟩⟩;have W1:A0w T.af T.aa hd hl q p1 e1 p2 e2 kl dc gl ⟨m,st,noT m,[],low⟩ HL:=W0.draw kL dL;clear W0 D0 lk0;refine C0a (n:=(1+u).toNat) (λi σ' H'=>∃x8 x9 x10 gl k,σ'=[some (.ref a),some (.ref hd),some (.int sc),some (.int ((m:Nat):Int)),some (.int st),some (.ref q),some (.ref p2),some (.ref kl),x8,x9,x10]/\k.m=m/\A0w T.af T.aa hd hl q p1 e1 p2 e2 kl dc gl k H') ⟨_,_,_,gl,_,rfl,rfl,W1⟩ ?_ ?_
  ·rintro i σ' H' hi ⟨x8,x9,x10,gl,k,rfl,hkm,L⟩;have nF:∀b,(b=kl\/b=gl)->b≠hd:=λb hb=>by
    rcases hb with rfl | rfl
    ·exact L.nh.1
    ·exact L.nh.2
   refine⟨_,rfl,_,rfl,_,rfl,_,rfl,_,hd,hl,kl,dc,k,sc,by (rw[hkm];rfl),L.two.hnd,nF,L.kept,L.ok,L.s18,⟨OO,sc1⟩,λdd H2 dok st2 lk2 fr2 h2=>?_⟩;dsimp only[G3,J5];obtain⟨⟨gl',x1,fk,fg,nkg,x2⟩,kvs2,x3,kv2⟩:=lk2;have hg:gl'=gl\/H' gl'=none:=by
    rcases fg with (z | z) | z
    ·exact absurd z nkg
    ·exact .inl z
    ·exact .inr z
   have ngh:gl'≠hd:=λz=>by
    rcases hg with y | y
    ·exact L.nh.2 (y▸z)
    ·obtain⟨_,_,_,_,_,_,_,_,e⟩:=L.two.hnd;rw[z,e] at y;cases y
   have lk2':j9 (λb=>b=kl\/b=gl') H2 kl dc (G9 k dd).st (G9 k dd).g (G9 k dd).kws:=⟨⟨gl',x1,.inl rfl,.inr rfl,nkg,x2⟩,kvs2,x3,kv2⟩;have D2:D96 T.af T.aa (λb=>b∉[hd,kl,gl']) hd hl q p1 e1 p2 e2 k k H2:=by
    refine⟨h2,λb hb z=>hb (z▸D6),λb hb z=>?_,?_,C63 L.two.a1 L.two.hnd L.kept L.n1 fr2 hg,C63 L.two.a2 L.two.hnd L.kept L.n2 fr2 hg,L.two.np,L.two.nd⟩
    ·simp only[G1,W5,or_false] at z;rcases z with rfl | rfl | rfl
     ·obtain⟨_,_,_,_,_,_,_,_,e⟩:=h2;rw[e] at hb;cases hb
     ·rw[x1] at hb;cases hb
     ·rw[x2] at hb;cases hb
    ·obtain⟨dx,e⟩:=L.two.dk;obtain⟨⟨_,y1,_⟩,_,y3,_⟩:=L.kept;obtain⟨_,_,_,_,_,_,_,_,y4⟩:=L.two.hnd;exact⟨dx,fr2 _ _ e (λz=>by rw[z,y4] at e;cases e) (λz=>by rw[z,y1] at e;cases e) λz=>by rw[z,y3] at e;cases e⟩
   have x1a:=x1;have x2a:=x2;clear x1 x2 x3 kv2 fr2;obtain⟨an0,Dp,an,hDp,inj⟩:=E1j T dd;obtain⟨dx,eq2⟩:=D2.dk;refine⟨fun σ' Hx=>σ'=[some (.ref a),some (.ref hd),some (.int sc),some (.int ((m:Nat):Int)),some (.int st),some (.ref q),some (.ref p2),some (.ref kl),some (.int (0+(i:Int))),some (.str (ddW dd)),x10]/\∃b,A0w T.af T.aa hd hl q p1 e1 p2 e2 kl dc gl' { G9 k dd with low:=b } Hx,?_,?_⟩
   ·refine⟨_,rfl,q,dx,_,rfl,eq2,rfl,_,rfl,?_⟩;dsimp only[V8,tC,T8,X5,T6,O1];refine⟨q,.ref p1,_,dd.wd,dd.os,rfl,D2.dk,C6s L.ok dok,.inr ⟨_,_,_,_,p1,e1,k,rfl,an,D2.new,D2.a1,⟨dd,hDp,rfl,L.ok,L.low,dok⟩,λk' t H3 po kp3 fr3=>?_⟩⟩;obtain⟨dd',hd',eos,b,lb,rfl,rfl⟩:=po;obtain rfl:=inj dd' hd' eos;have D3:=D2.on1 kp3 fr3;have lk3:=lk2'.frp D2.a1 fr3 L.n1;have nl3:∀{c:Addr}{xs:List V},H2 c=some (.lst xs)->H3 c=some (.lst xs):=λe=>fr3 _ _ e (M8 D2.a1 e).1 (M8 D2.a1 e).2;have x13:=nl3 x1a;have x23:=nl3 x2a;refine⟨_,rfl,_,rfl,_,rfl,kl,_,2,_,rfl,rfl,SqL.of x13,rfl,?_⟩;refine⟨_,p2,e2,gl',k,ddW dd',dd',rfl,D3.new,D3.a2,C6s L.ok dok,λg hgd=>?_,L.ok,L.low,dok,λb' v H4 lb' kp4 tv fr4=>?_⟩
    ·rw[x23,E1i k hgd]
    cases lb'.uniq lb;have D4:=D3.on2 kp4 fr4;have lk4:=lk3.frp D3.a2 fr4 L.n2;have lbl:b.length<=12:=J1 (Nat.le_of_eq (lb.tab.len.trans (C62 k dd'))) L.ok.m2;have lol:k.low.length<=12:=J1 (Nat.le_of_eq L.low.tab.len) L.ok.m2;refine⟨v,_,_,rfl,tv,(A8o lbl).1,(A8o lol).1,(A8o lbl).2,(A8o lol).2,λH5 s5=>?_⟩;refine⟨rfl,_,rfl,?_⟩;rw[show (!decide (V.str (mvW (Y6 b k.low) (Y6 k.low b))=V.str (mvW (Y6 b k.low) (Y6 k.low b))))=false by rw[decide_eq_true rfl];rfl];exact E4 ⟨rfl,b,D4.same s5,lk4.sm s5,A8l L.ok dok,lb,st2,L.n1,L.n2,L.nh.1,ngh⟩
   rintro σ' H3 ⟨rfl,b,L3⟩;obtain⟨k3,hk3⟩:∃k3:Kst,k3={ G9 k dd with low:=b }:=⟨_,rfl⟩;have hk3m:k3.m=m:=by rw[hk3];exact (C62 k dd).trans hkm
   rw[<-hk3] at L3;clear hk3 D2 lk2' x1a x2a an inj hDp an0;refine⟨fun σ' Hx=>σ'=[some (.ref a),some (.ref hd),some (.int sc),some (.int ((m:Nat):Int)),some (.int st),some (.ref q),some (.ref p2),some (.ref kl),some (.int (0+(i:Int))),some (.str (ddW dd)),x10]/\A0w T.af T.aa hd hl q p1 e1 p2 e2 kl dc gl' k3 Hx,?_,?_⟩
   ·refine⟨_,rfl,T4 DD DD L3.two.hnd λu H4 u0 u1 kL dL=>?_⟩;have L4:=L3.draw kL dL;refine⟨rfl,_,rfl,?_⟩;by_cases c:u=0
    ·rw[c,show decide (V.int 0=V.int 0)=true from decide_eq_true rfl];refine G4 ⟨_,rfl,_,rfl,_,rfl,_,rfl,_,hd,hl,q,p1,e1,p2,e2,k3,(by rw[hk3m];rfl),L4.two,L4.ok,L4.low,L4.s18,λH5 D5 fr5=>?_⟩;exact⟨true,rfl,E4 ⟨rfl,L4.five D5 fr5⟩⟩
    ·rw[decide_eq_false λz=>c (V.int.inj z)];exact E4 (E4 ⟨rfl,L4⟩)
   rintro σ' H4 ⟨rfl,L4⟩;refine⟨_,rfl,T4 DD DD L4.two.hnd λu H5 u0 u1 kL dL=>?_⟩;have L5:=L4.draw kL dL;refine⟨rfl,_,rfl,?_⟩;by_cases c:u=0
   ·rw[c,show decide (V.int 0=V.int 0)=true from decide_eq_true rfl];refine G4 ⟨3,rfl,OO,OO,?_⟩;refine C0a (n:=3) (λj σ' H'=>∃xj,σ'=[some (.ref a),some (.ref hd),some (.int sc),some (.int ((m:Nat):Int)),some (.int st),some (.ref q),some (.ref p2),some (.ref kl),some (.int (0+(i:Int))),some (.str (ddW dd)),xj]/\A0w T.af T.aa hd hl q p1 e1 p2 e2 kl dc gl' k3 H') ⟨_,rfl,L5⟩ ?_ ?_
    ·rintro j σ' H6 hj ⟨xj,rfl,L6⟩;refine⟨_,rfl,_,rfl,_,rfl,_,rfl,_,hd,hl,q,p1,e1,p2,e2,k3,(by rw[hk3m];rfl),L6.two,L6.ok,L6.low,L6.s18,λH7 D7 fr7=>?_⟩;exact⟨true,rfl,E4 ⟨_,rfl,L6.five D7 fr7⟩⟩
    ·rintro σ' H6 ⟨xj,rfl,L6⟩;exact⟨_,_,_,_,_,rfl,hk3m,L6⟩
   ·rw[decide_eq_false λz=>c (V.int.inj z)];exact E4 ⟨_,_,_,_,_,rfl,hk3m,L5⟩
  rintro σ' H' ⟨x8,x9,x10,gl,k,rfl,hkm,L⟩;subst hW;subst hkm;refine⟨_,rfl,_,rfl,_,rfl,_,rfl,_,hd,hl,q,p1,e1,p2,e2,k,rfl,L.two,L.ok,L.low,L.s18,λH8 L8 J=>?_⟩;refine⟨true,rfl,G4 ?_⟩;obtain⟨dx,eq⟩:=L8.dk;refine⟨_,rfl,q,dx,_,rfl,eq,rfl,?_⟩;dsimp only[V8,tC,T8,X5,T6,O1];refine⟨q,.ref p1,_, "least",[],rfl,L8.dk,C6t,.inr ⟨_,_,_,_,p1,e1,k,rfl,.least,L8.new,L8.a1,⟨rfl,L.ok,L.low⟩,λk' t HA po kpA frA=>?_⟩⟩;obtain⟨ek,rfl⟩:=po;subst ek;have LA:=L8.on1 kpA frA;have a2:=LA.a2;obtain⟨⟨dx2,g,l1,ug,ul,f1,_⟩,_⟩:=a2;refine⟨_,rfl,p2,dx2,_,rfl,f1,K7 KK,_,p2,e2,k',[],[],rfl,LA.new,LA.a2,.nil,rfl,λr v k2 HB po kpB tv frB ap=>?_⟩;obtain⟨ek,rfl⟩:=po;subst ek;obtain⟨l2,u2,rfl,_,el2,tu⟩:=M2 tv;cases A4h tu;have lt0:=L.low.tab.len;have m20:=L.ok.m2;refine⟨l2,_,rfl,el2,A4i L.low.tab L.ok.s1,by rw[B6];omega,λHC sC=>?_⟩;refine⟨rfl,?_⟩;rw[A6m,decide_eq_true rfl];exact told HC
theorem all_mk {l:PySem.W.OpenLaw}{w:World}{K:A8}{h:Heap}{mg:Str->Option Value}{fa:Addr}(X:K.In h)(G:h.Ns mainGlobals mg)(hfa:mg "law" = some (.ref fa))
  (h0:FH K "is_whole" B58)
  (h1:FH K "is_store" B59)
  (h2:FH K "is_level" B6a)
  (h3:FH K "stepped" B6b)
  (h4:FH K "levels_along" B6c)
  (h5:FH K "effect_of_none" B6d)
  (h6:FH K "effect_of_one" B6e)
  (h7:FH K "effect_of" B6f)
  (h8:FH K "passed" B6g)
  (h9:FH K "joined" B6h)
  (h10:FH K "is_place" B6i)
  (h11:FH K "is_change" B6j)
  (h12:FH K "is_way" B6k)
  (h13:FH K "turned_land" B2a)
  (h14:FH K "changes_of" B2b)
  (h15:FH K "most_taken" B2c)
  (h16:FH K "is_table" B2d)
  (h17:FH K "is_more" B6l)
  (h18:FH K "behind_way" B6m)
  (h19:FH K "first_row" B6n)
  (h20:FH K "row_behind" B6o)
  (h21:FH K "walk_to" B6p)
  (h22:FH K "behind_ways" B6q)
  (h23:FH K "behind_part" B6r)
  (h24:FH K "end_of" B6s)
  (h25:FH K "rows_from" B6t)
  (h26:FH K "still_rises" B6u)
  (h27:FH K "rising_walk" B2e)
  (h28:FH K "parted_at_round" B2f)
  (h29:FH K "parts_by" B6v)
  (h30:FH K "filling_parts" B6w)
  (h31:FH K "settled" B2g)
  (h32:FH K "highest" B6x)
  (h33:FH K "greatest_of" B2h)
  (h34:FH K "boundless" B2i)
  (h35:FH K "is_within" B6y)
  (h36:FH K "lacking" B2j)
  (h37:FH K "least" B6z)
  (h38:FH K "base_at" B60)
  (h39:FH K "has_enough" B61)
  (h40:FH K "comes_through" B62)
  (h41:FH K "store_enough" B63)
  (h42:FH K "least_store" B64)
  (h43:FH K "is_label" B65)
  (h44:FH K "places_below" B2k)
  (h45:FH K "soonest" B2n)
  (h46:FH K "are_figures" B2o)
  (h47:FH K "is_number" B7i)
  (h48:FH K "number_by" B7j)
  (h49:FH K "level_by" B7k)
  (h50:FH K "written" B7l)
  (h51:FH K "row_of" B7m)
  (h52:FH K "table_row" B2p)
  (h53:FH K "moved_row" A9u)
  (h54:FH K "way_word" B7n)
  (h55:FH K "words_of" B7o)
  (h56:FH K "values_of" A9v)
  (h57:FH K "keeper_by" B7p)
  (h58:FH K "base_of" B7q)
  (h59:FH K "spot_of" B7r)
  (h60:FH K "lay" B7s)
  (h61:FH K "lift" B7t)
  (h62:FH K "turn" B7u)
  (h63:FH K "refill" B7v)
  (h64:FH K "aim" B7w)
  (h65:FH K "tell_least" B7x)
  (h66:FH K "tell_highest" B7y)
  (h67:FH K "tell_ways" B2q)
  (h68:FH K "tell_store" B7z)
  (h69:FH K "tell_soon" B70)
  (h70:FH K "tell_any" B71)
  (h71:FH K "_law_hand" B73)
  (h72:FH K "_law_next" B74)
  (h73:FH K "_law_take" B75)
  (h74:FH K "_law_draw" B76)
  (h75:FH K "_law_scale" B77)
  (h76:FH K "_law_change" B78)
  (h77:FH K "_law_table" B2s)
  (h78:FH K "_law_word" B79)
  (h79:FH K "_law_deed" A9w)
  (h80:FH K "_law_row" B2t)
  (h81:FH K "_law_told" A9x)
  (h82:FH K "_law_done" B2u)
  (h83:FH K "_law_spots" B8a)
  (h84:FH K "_law_plain" B2v)
  (h85:FH K "_law_between" B8b)
  {f86:Addr} {od86 an86:Option Addr} {sl86:Array (Option Value)} {oc86 kV86 dc86 pm86 cd86 ct86:Value} (a86:A1o K mainGlobals "law" = some (some (.ref f86))) (l86:K.lookup f86=some ⟨oc86,od86,.func (A4k "law" "law" (A40 A1d) (A2l A1d) (B1 A1d) .none kV86 dc86 pm86 an86 cd86 ct86),sl86⟩) (c86:B9k K cd86 "law" = true) (k86:A6p K (.ref f86)=true)
  (q_LEAST:CH K "LEAST" (.int 0))
  (q_GAIN:CH K "GAIN" (.int 1))
  (q_TOP:CH K "TOP" (.int 2))
  (q_MANY:CH K "MANY" (.int 0))
  (q_WAYS:CH K "WAYS" (.int 1))
  (q_START:CH K "START" (.int 0))
  (q_END:CH K "END" (.int 1))
  (q_CHANGE:CH K "CHANGE" (.int 2))
  (q_MOST_PLACES:CH K "MOST_PLACES" (.int 12))
  (q_MOST_WAYS:CH K "MOST_WAYS" (.int 40))
  (q_TABLE:CH K "TABLE" (.int 0))
  (q_RISEN:CH K "RISEN" (.int 1))
  (q_FROM:CH K "FROM" (.int 0))
  (q_BY:CH K "BY" (.int 1))
  (q_NUMBERS:CH K "NUMBERS" (.int 0))
  (q_TIMES:CH K "TIMES" (.int 1))
  (q_PLACE:CH K "PLACE" (.int 0))
  (q_LEVEL:CH K "LEVEL" (.int 1))
  (q_MOST_FIGURES:CH K "MOST_FIGURES" (.int 60))
  (q_MOST_SOON:CH K "MOST_SOON" (.int 200))
  (q_ANY:CH K "ANY" (.str "any"))
  (q_FIGURES:CH K "FIGURES" (.str "0123456789"))
  (q_NONE:CH K "NONE" (.str "-"))
  (zz:BN K ["abs","all","bool","enumerate","int","isinstance","len","list","max","min","range","reversed","sorted","str","tuple"])
  (qal_highest_highest:AH K "highest" "highest_highest")
  (qal_least_least:AH K "least" "least_least")
  (qal_least_store_stores:AH K "least_store" "least_store_stores")
  {aa:Addr} (xa_Keeper:A1o K mainGlobals "Keeper" = some (some (.ref aa))) (kh:KH K aa) (kn:NN K aa ["many","full","wanted","laid","lowest"])
  (iC:MH K aa "__init__" "Keeper.__init__" B2l)
  (ja:MH K aa "lay" "Keeper.lay" B66)
  (iD:MH K aa "lift" "Keeper.lift" B67)
  (iE:MH K aa "turn" "Keeper.turn" B68)
  (gK:MH K aa "refill" "Keeper.refill" B69)
  (jb:MH K aa "aim" "Keeper.aim" B7a)
  (gZ:MH K aa "found" "Keeper.found" B7b)
  (hE:MH K aa "moved" "Keeper.moved" B7c)
  (iF:MH K aa "ways" "Keeper.ways" B7d)
  (hJ:MH K aa "store" "Keeper.store" B7e)
  (iG:MH K aa "goal" "Keeper.goal" C3y)
  (iH:MH K aa "land" "Keeper.land" B2m)
  (hU:MH K aa "least" "Keeper.least" B7f)
  (gj:MH K aa "highest" "Keeper.highest" B7g)
  (eJ:MH K aa "least_store" "Keeper.least_store" B7h)
  {af:Addr} (xa_Desk:A1o K mainGlobals "Desk" = some (some (.ref af))) (kh_Desk:KH K af) (kn_Desk:NN K af ["keeper"])
  (iI:MH K af "__init__" "Desk.__init__" B2r)
  (jc:MH K af "say" "Desk.say" B72)
  {bU:Addr} (xa_NUMBERED:A1o K mainGlobals "NUMBERED" = some (some (.ref bU))) (kd_NUMBERED:KDN w K bU [("land",.inl 2),("lay",.inl 4),("lift",.inl 1),("turn",.inl 2),("refill",.inl 1),("least",.inl 0),("ways",.inl 0),("store",.inl 4),("soon",.inl 5)])
  {cu:Addr} (xa_ANSWERS:A1o K mainGlobals "ANSWERS" = some (some (.ref cu))) (kd_ANSWERS:KDN w K cu [("lay",.inr "lay"),("lift",.inr "lift"),("turn",.inr "turn"),("refill",.inr "refill"),("aim",.inr "aim"),("least",.inr "tell_least"),("highest",.inr "tell_highest"),("ways",.inr "tell_ways"),("store",.inr "tell_store"),("soon",.inr "tell_soon"),("any",.inr "tell_any")])
  {bP:Addr} (xa_TABLED:A1o K mainGlobals "TABLED" = some (some (.ref bP))) (kt_TABLED:KTH K bP [V.str "aim",V.str "highest",V.str "any"]) :
  ∃fd:FuncData,(∀(s:Shared)(v:Value),BindsTo s fd ⟨[v],[]⟩ [("_law_script",v)])/\∀base:Heap,K.In base->base.Ns mainGlobals mg->B8 l.prog w K mg base CX0 15 fa fd ["_law_script"] (B3o K):=by
 have e:=hfa.symm.trans (A2a X G a86);cases e
 let ti:MT K aa "__init__" "Keeper.__init__" B2l ["self","many","store","goal"]:=MT.c iC
 let ti_Desk:MT K af "__init__" "Desk.__init__" B2r ["self"]:=MT.c iI
 have Fl:=C9l (st:=A1d) l86 c86 k86
 let T:Txt K mg:={
  ak:=FT.c X G h0,
  bf:=FT.c X G h1,
  bg:=FT.c X G h2,
  bI:=FT.c X G h3,
  aE:=FT.c X G h4,
  aQ:=FT.c X G h5,
  aZ:=FT.c X G h6,
  bZ:=FT.c X G h7,
  df:=FT.c X G h8,
  dh:=FT.c X G h9,
  av:=FT.c X G h10,
  aR:=FT.c X G h11,
  dj:=FT.c X G h12,
  bu:=FT.c X G h13,
  aB:=FT.c X G h14,
  aw:=FT.c X G h15,
  au:=FT.c X G h16,
  cJ:=FT.c X G h17,
  bO:=FT.c X G h18,
  aT:=FT.c X G h19,
  aM:=FT.c X G h20,
  bJ:=FT.c X G h21,
  bv:=FT.c X G h22,
  bx:=FT.c X G h23,
  dl:=FT.c X G h24,
  bh:=FT.c X G h25,
  bz:=FT.c X G h26,
  bA:=FT.c X G h27,
  aG:=FT.c X G h28,
  bD:=FT.c X G h29,
  ba:=FT.c X G h30,
  cK:=FT.c X G h31,
  aq:=FT.c X G h32,
  bB:=FT.c X G h33,
  aU:=FT.c X G h34,
  cb:=FT.c X G h35,
  bS:=FT.c X G h36,
  cC:=FT.c X G h37,
  bK:=FT.c X G h38,
  ax:=FT.c X G h39,
  aA:=FT.c X G h40,
  bc:=FT.c X G h41,
  bC:=FT.c X G h42,
  bi:=FT.c X G h43,
  aF:=FT.c X G h44,
  bL:=FT.c X G h45,
  aP:=FT.c X G h46,
  cf:=FT.c X G h47,
  aW:=FT.c X G h48,
  cw:=FT.c X G h49,
  cL:=FT.c X G h50,
  be:=FT.c X G h51,
  ay:=FT.c X G h52,
  ah:=FT.c X G h53,
  cx:=FT.c X G h54,
  cy:=FT.c X G h55,
  cg:=FT.c X G h56,
  ci:=FT.c X G h57,
  bM:=FT.c X G h58,
  aK:=FT.c X G h59,
  dJ:=FT.c X G h60,
  cU:=FT.c X G h61,
  cV:=FT.c X G h62,
  cj:=FT.c X G h63,
  dM:=FT.c X G h64,
  aN:=FT.c X G h65,
  az:=FT.c X G h66,
  aX:=FT.c X G h67,
  aO:=FT.c X G h68,
  aY:=FT.c X G h69,
  bj:=FT.c X G h70,
  dW:=FT.c X G h71,
  bT:=FT.c X G h72,
  dX:=FT.c X G h73,
  ae:=FT.c X G h74,
  dH:=FT.c X G h75,
  cz:=FT.c X G h76,
  cD:=FT.c X G h77,
  cW:=FT.c X G h78,
  dY:=FT.c X G h79,
  bQ:=FT.c X G h80,
  dZ:=FT.c X G h81,
  ee:=FT.c X G h82,
  cQ:=FT.c X G h83,
  cR:=FT.c X G h84,
  cM:=FT.c X G h85,
  g_LEAST:=CT.c X G q_LEAST,
  g_GAIN:=CT.c X G q_GAIN,
  g_TOP:=CT.c X G q_TOP,
  g_MANY:=CT.c X G q_MANY,
  g_WAYS:=CT.c X G q_WAYS,
  g_START:=CT.c X G q_START,
  g_END:=CT.c X G q_END,
  g_CHANGE:=CT.c X G q_CHANGE,
  g_MOST_PLACES:=CT.c X G q_MOST_PLACES,
  g_MOST_WAYS:=CT.c X G q_MOST_WAYS,
  g_TABLE:=CT.c X G q_TABLE,
  g_RISEN:=CT.c X G q_RISEN,
  g_FROM:=CT.c X G q_FROM,
  g_BY:=CT.c X G q_BY,
  g_NUMBERS:=CT.c X G q_NUMBERS,
  g_TIMES:=CT.c X G q_TIMES,
  g_PLACE:=CT.c X G q_PLACE,
  g_LEVEL:=CT.c X G q_LEVEL,
  g_MOST_FIGURES:=CT.c X G q_MOST_FIGURES,
  g_MOST_SOON:=CT.c X G q_MOST_SOON,
  g_ANY:=CT.c X G q_ANY,
  g_FIGURES:=CT.c X G q_FIGURES,
  g_NONE:=CT.c X G q_NONE,
  jd:=w5 X G zz.1,
  je:=w5 X G zz.2.1,
  jl:=w5 X G zz.2.2.1,
  eM:=w5 X G zz.2.2.2.1,
  fY:=w5 X G zz.2.2.2.2.1,
  ck:=w5 X G zz.2.2.2.2.2.1,
  bq:=w5 X G zz.2.2.2.2.2.2.1,
  cE:=w5 X G zz.2.2.2.2.2.2.2.1,
  eE:=w5 X G zz.2.2.2.2.2.2.2.2.1,
  dv:=w5 X G zz.2.2.2.2.2.2.2.2.2.1,
  cP:=w5 X G zz.2.2.2.2.2.2.2.2.2.2.1,
  ff:=w5 X G zz.2.2.2.2.2.2.2.2.2.2.2.1,
  fh:=w5 X G zz.2.2.2.2.2.2.2.2.2.2.2.2.1,
  cZ:=w5 X G zz.2.2.2.2.2.2.2.2.2.2.2.2.2.1,
  iT:=w5 X G zz.2.2.2.2.2.2.2.2.2.2.2.2.2.2.1,
  bp:=AH.of X G qal_highest_highest,
  dI:=AH.of X G qal_least_least,
  du:=AH.of X G qal_least_store_stores,
  aa:=aa,fE:=A2a X G xa_Keeper,ac:=kh.1,dU:=kn.1,dE:=kn.2.1,dN:=kn.2.2.1,bN:=kn.2.2.2.1,cF:=kn.2.2.2.2.1,
  de:=ti,fF:=⟨kh.2.1,ti.m.1,ti.m.2,kh.2.2⟩,
  dr:=MT.c ja,
  cG:=MT.c iD,
  cH:=MT.c iE,
  bR:=MT.c gK,
  dt:=MT.c jb,
  cr:=MT.c gZ,
  aH:=MT.c hE,
  cI:=MT.c iF,
  aI:=MT.c hJ,
  jv:=MT.c iG,
  am:=MT.c iH,
  bG:=MT.c hU,
  bH:=MT.c gj,
  aJ:=MT.c eJ,
  af:=af,iU:=A2a X G xa_Desk,br:=kh_Desk.1,dO:=kn_Desk.1,
  dG:=ti_Desk,iV:=⟨kh_Desk.2.1,ti_Desk.m.1,ti_Desk.m.2,kh_Desk.2.2⟩,
  bb:=MT.c jc,
  bU:=bU,gf:=A2a X G xa_NUMBERED,
  cu:=cu,gC:=A2a X G xa_ANSWERS,
  bP:=bP,fG:=A2a X G xa_TABLED,kt_TABLED:=kt_TABLED,
  iu:=⟨fa,_,Fl,hfa,Fl.binds (λJ J J J J J us hl=>by obtain⟨_,rfl⟩:=B57 hl;rfl)⟩ }
 exact⟨A4k "law" "law" (A40 A1d) (A2l A1d) (B1 A1d) .none kV86 dc86 pm86 an86 cd86 ct86,λs v=>.of_eq rfl,λbase J J=>E1k T ⟨KDN.to X G kd_NUMBERED ⟨rfl,rfl,rfl,rfl,rfl,rfl,rfl,rfl,rfl,rfl,rfl,rfl,rfl,rfl,rfl,rfl,rfl,rfl,trivial⟩,KDN.to X G kd_ANSWERS ⟨rfl,⟨_,rfl,T.dJ.m⟩,rfl,⟨_,rfl,T.cU.m⟩,rfl,⟨_,rfl,T.cV.m⟩,rfl,⟨_,rfl,T.cj.m⟩,rfl,⟨_,rfl,T.dM.m⟩,rfl,⟨_,rfl,T.aN.m⟩,rfl,⟨_,rfl,T.az.m⟩,rfl,⟨_,rfl,T.aX.m⟩,rfl,⟨_,rfl,T.aO.m⟩,rfl,⟨_,rfl,T.aY.m⟩,rfl,⟨_,rfl,T.bj.m⟩,trivial⟩⟩⟩
theorem walk {l:PySem.W.OpenLaw}{q:Program}{loose:List Str}{XP:(Str->Option Value)->Heap->Prop}{YP:World->Heap->Prop}{d:DefRec}{K:Params->A8}(hn:l.most=some 63)(hdf:d.params.defaults=[])
  (hY:∀(w:World)(h:Heap),YP w h->(K w.params).In h)
  (F:∀(w:World)(mg:Str->Option Value)(fa:Addr)(h:Heap),(K w.params).In h->h.Ns mainGlobals mg->mg d.name=some (.ref fa)->
   ∃fd:FuncData,(∀(s:Shared)(u:Value),BindsTo s fd ⟨[u],[]⟩ [("_law_script",u)])/\∀base:Heap,(K w.params).In base->base.Ns mainGlobals mg->B8 l.prog w (K w.params) mg base CX0 15 fa fd ["_law_script"] (B3o (K w.params))) :
  PySem.W.WalkO q loose XP YP l.row.toRowW d [] (λf vs=>PySem.call f vs):=
 Lake.walk_of (n:=63) (k:=15) (x:= "_law_script") (CX:=λJ=>CX0) (sp:=λw=>B3o (K w.params)) hn DD hdf ⟨rfl,DD,DD,rfl⟩ hY F (λJ J a ns hl J hS=>⟨a,ns,rfl,hS,hl,λJ=>rfl⟩) λJ J J J J z=>z
end Tactic
open Lean in
local macro_rules|`(command|init_quot)=>do
 let mut b:Array Name:=#[`PySem.Challenge.pw_trudge_k96_rows_and_functions,`PySem.Challenge.rw_trudge_k96_rows_and_functions]
 for (s,x,n) in [("env_",41,1),("heap_",39,1),("heap_",46,1),("heap_",1098,1),("o_",43,1055),("sts_",49,1),("sts_",128,1),("sts_",143,1),("sts_",165,1),("sts_",180,1),("sts_",202,1),("sts_",217,1),("sts_",239,1),("sts_",261,1),("sts_",276,1),("sts_",291,1),("sts_",306,1),("sts_",321,1),("sts_",362,1),("sts_",428,1),("sts_",497,1),("sts_",565,1),("sts_",779,1),("sts_",843,1),("sts_",896,1),("sts_",959,5),("sts_",1021,1),("tree_",47,1),("tree_",127,1),("tree_",142,1),("tree_",164,1),("tree_",179,1),("tree_",201,1),("tree_",216,1),("tree_",238,1),("tree_",260,1),("tree_",275,1),("tree_",290,1),("tree_",305,1),("tree_",320,1),("tree_",361,1),("tree_",427,1),("tree_",496,1),("tree_",564,1),("tree_",690,1),("tree_",775,1),("tree_",842,1),("tree_",893,1),("tree_",958,3),("tree_",1020,1),("tree_",1097,1),("view_",39,1)] do
  for i in [x:x+n] do
   b:=b.push ((`PySem.Challenge.cw_trudge_k96_rows_and_functions_holds).str (s++toString i))
 let a<-b.mapM fun c=>`(command|theorem $(mkIdent ((`PySem.W.Fast).str ("tw"++toString c.hash))):ident:True:=trivial)
 return mkNullNode a
init_quot
open PySem PySem.W PyProof.Rows
set_option maxRecDepth 100000 in
set_option maxHeartbeats 0 in
theorem PySem.Challenge.cw_trudge_k96_rows_and_functions_holds : PySem.Challenge.rw_trudge_k96_rows_and_functions.Holds := by
 w_on;o_law;k_head;(case hw=>w_witness2)
 k_fill
 refine Tactic.walk (l:=PySem.Challenge.rw_trudge_k96_rows_and_functions) rfl rfl (λw h Y=>PySem.W.kIn_of Y) ?F
 case F=>
  intro w mg fa h KX G hmg;refine' Tactic.all_mk KX G hmg ?h0 ?h1 ?h2 ?h3 ?h4 ?h5 ?h6 ?h7 ?h8 ?h9 ?h10 ?h11 ?h12 ?h13 ?h14 ?h15 ?h16 ?h17 ?h18 ?h19 ?h20 ?h21 ?h22 ?h23 ?h24 ?h25 ?h26 ?h27 ?h28 ?h29 ?h30 ?h31 ?h32 ?h33 ?h34 ?h35 ?h36 ?h37 ?h38 ?h39 ?h40 ?h41 ?h42 ?h43 ?h44 ?h45 ?h46 ?h47 ?h48 ?h49 ?h50 ?h51 ?h52 ?h53 ?h54 ?h55 ?h56 ?h57 ?h58 ?h59 ?h60 ?h61 ?h62 ?h63 ?h64 ?h65 ?h66 ?h67 ?h68 ?h69 ?h70 ?h71 ?h72 ?h73 ?h74 ?h75 ?h76 ?h77 ?h78 ?h79 ?h80 ?h81 ?h82 ?h83 ?h84 ?h85 ?a86 ?l86 ?c86 ?k86 ?q_LEAST ?q_GAIN ?q_TOP ?q_MANY ?q_WAYS ?q_START ?q_END ?q_CHANGE ?q_MOST_PLACES ?q_MOST_WAYS ?q_TABLE ?q_RISEN ?q_FROM ?q_BY ?q_NUMBERS ?q_TIMES ?q_PLACE ?q_LEVEL ?q_MOST_FIGURES ?q_MOST_SOON ?q_ANY ?q_FIGURES ?q_NONE ?zz ?qal_highest_highest ?qal_least_least ?qal_least_store_stores ?xa_Keeper ?kh ?kn ?iC ?ja ?iD ?iE ?gK ?jb ?gZ ?hE ?iF ?hJ ?iG ?iH ?hU ?gj ?eJ ?xa_Desk ?kh_Desk ?kn_Desk ?iI ?jc ?xa_NUMBERED ?kd_NUMBERED ?xa_ANSWERS ?kd_ANSWERS ?xa_TABLED ?kt_TABLED
  (case a86=>k_is);(case l86=>k_is);(case c86=>k_is);(case k86=>k_is)
  (case q_LEAST=>exact⟨_,by k_is⟩);(case q_GAIN=>exact⟨_,by k_is⟩);(case q_TOP=>exact⟨_,by k_is⟩);(case q_MANY=>exact⟨_,by k_is⟩);(case q_WAYS=>exact⟨_,by k_is⟩);(case q_START=>exact⟨_,by k_is⟩);(case q_END=>exact⟨_,by k_is⟩);(case q_CHANGE=>exact⟨_,by k_is⟩);(case q_MOST_PLACES=>exact⟨_,by k_is⟩);(case q_MOST_WAYS=>exact⟨_,by k_is⟩);(case q_TABLE=>exact⟨_,by k_is⟩);(case q_RISEN=>exact⟨_,by k_is⟩);(case q_FROM=>exact⟨_,by k_is⟩);(case q_BY=>exact⟨_,by k_is⟩);(case q_NUMBERS=>exact⟨_,by k_is⟩);(case q_TIMES=>exact⟨_,by k_is⟩);(case q_PLACE=>exact⟨_,by k_is⟩);(case q_LEVEL=>exact⟨_,by k_is⟩);(case q_MOST_FIGURES=>exact⟨_,by k_is⟩);(case q_MOST_SOON=>exact⟨_,by k_is⟩);(case q_ANY=>exact⟨_,by k_is⟩);(case q_FIGURES=>exact⟨_,by k_is⟩);(case q_NONE=>exact⟨_,by k_is⟩)
  (case zz=>exact⟨by k_is,by k_is,by k_is,by k_is,by k_is,by k_is,by k_is,by k_is,by k_is,by k_is,by k_is,by k_is,by k_is,by k_is,by k_is,trivial⟩)
  (case qal_highest_highest=>exact⟨_,by k_is,by k_is⟩)
  (case qal_least_least=>exact⟨_,by k_is,by k_is⟩)
  (case qal_least_store_stores=>exact⟨_,by k_is,by k_is⟩)
  (case xa_Keeper=>k_is);(case kh=>exact⟨⟨by k_is,by k_is,by k_is,by k_is⟩,by k_is,by k_is⟩);(case kn=>exact⟨by k_is,by k_is,by k_is,by k_is,by k_is,trivial⟩)
  (case xa_Desk=>k_is);(case kh_Desk=>exact⟨⟨by k_is,by k_is,by k_is,by k_is⟩,by k_is,by k_is⟩);(case kn_Desk=>exact⟨by k_is,trivial⟩)
  (case xa_NUMBERED=>k_is);(case kd_NUMBERED=>refine⟨by rfl,_,_,by k_is,?_⟩;repeat' (first | exact trivial | exact rfl | exact⟨_,rfl⟩ | exact⟨_,rfl,by k_is⟩ | refine And.intro ?_ ?_))
  (case xa_ANSWERS=>k_is);(case kd_ANSWERS=>refine⟨by rfl,_,_,by k_is,?_⟩;repeat' (first | exact trivial | exact rfl | exact⟨_,rfl⟩ | exact⟨_,rfl,by k_is⟩ | refine And.intro ?_ ?_))
  (case xa_TABLED=>k_is);(case kt_TABLED=>refine⟨_,_,_,by k_is,rfl,rfl,DD,?_⟩;repeat' (first | exact .nil | refine .cons ⟨_,rfl⟩ ?_))
  all_goals try (exact⟨_,by k_is,by k_is,_,⟨_,_,_,_,_,_,_,_,_,rfl,by k_is,by k_is⟩,by k_is⟩)
  all_goals (exact⟨_,by k_is,_,⟨_,_,_,_,_,_,_,_,_,rfl,by k_is,by k_is⟩,by k_is⟩)
