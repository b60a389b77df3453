import PyProof.Rows.All
import Wide.All
import OpenK.AllK
import Wide.FinOn
import Lean
import PyProof.EqAt
import PyProof.EqKinds
import PyProof.NeData
import PyProof.TupleCall
import KE.KRevIter
import KE.KRevSl
import PyProof.MinMaxWalk
import PyProof.ZipIter
import PyProof.Rows.Range3
import PyProof.Rows.CallKwBuiltin
import PyProof.DictWalks
import PyProof.ReprRoads
import PyProof.ReprLen
import PyProof.CallFns
import KE.KEqDict
import PyProof.P3In
import PyProof.MeetsDictList
import PyProof.Cells
import KE.KDictSum
import KE.KDictOf
import PyProof.Rows.SortWalk
import PyProof.StrLawsJoin
import PyProof.MeetsStr
import PyProof.MeetsStr2
import PyProof.FString
import KE.KIntText
import PyProof.StrWalks
import PyProof.StrBlockI
import PyProof.StrLawsTight
import PyProof.StrLawsChain
import PyProof.StrLawsIdx
import PySem.Challenge.RW_trudge_k99_whole_roads_to_a_land
set_option Elab.async false
set_option compiler.extract_closed false
set_option bootstrap.genMatcherCode false
set_option linter.all false
set_option maxRecDepth 100000
set_option tactic.hygienic false
theorem KK{p:Prop}(h:p:=by decide +kernel):p:=h
theorem DD{p:Prop}(h:p:=by decide):p:=h
theorem HH{p:Prop}(h:p:=by with_reducible assumption):p:=h
theorem LL{a b c:Int}(h:b<=c)(k:a<=b):a<=c:=Int.le_trans k h
theorem LM{a b c:Int}(h:b<=c)(k:a<b):a<c:=Int.lt_of_lt_of_le k h
theorem LN{a b c:Nat}(h:b<=c)(k:a<b):a<c:=Nat.lt_of_lt_of_le k h
theorem N_C{p:Prop}(h:p:=by with_reducible exact Int.natCast_nonneg _):p:=h
theorem R_R{p:Prop}(h:p:=by with_reducible rfl):p:=h
theorem N_1{a b:Int}(h:¬a<b):b<=a:=Int.not_lt.mp h
theorem N_2{a b:Int}(h:¬a<=b):b<a:=Int.not_le.mp h
theorem N_3{a b:Nat}(h:(a:Int)<b):a<b:=Int.ofNat_lt.mp h
theorem N_5{a b c:Nat}(h:b=c)(k:a<b):a<c:=h▸k
theorem N_6{a b c:Nat}(h:c=b)(k:a<b):a<c:=h▸k
theorem N_7{a b c:Nat}(h:a=b)(k:b<=c):a<=c:=h▸k
theorem N_8{a b c:Nat}(h:b=a)(k:b<=c):a<=c:=h▸k
theorem N_9{a b:Nat}(h:a<=b)(k:¬a<b):a=b:=Nat.le_antisymm h (Nat.le_of_not_lt k)
theorem O_2{a b:Int}(h:a<=b)(k:¬a<b):a=b:=Int.le_antisymm h (Int.not_lt.mp k)
theorem O_3{a b c:Nat}(h:a=b)(k:b≠c):a≠c:=h▸k
theorem O_4{a i:Nat}(h:a<=1):a≠2*i+3:=by lia
theorem O_5{a i j:Nat}(h:a=2*j+3)(k:¬j=i):a≠2*i+3:=by lia
theorem O_6{a i j:Nat}(h:a=2*j+2):a≠2*i+3:=by lia
theorem O_7{a i:Nat}(h:a=2*i+3):a≠1:=by lia
theorem O_8{a b:Nat}(h:a<=b+1)(k:¬a=b+1):a<=b:=by lia
theorem O_9{a:Nat}{p:Prop}(h:a<0):p:=nomatch h
theorem SZ{n:Nat}(h:n<=100:=by decide):n<=PySem.sizeLine:=Nat.le_trans h (by decide)
local macro_rules|`(tactic|omega)=>do
 let f x y:=(x.splitOn " ").toArray.map λx:String=>Lean.Syntax.mkApp (Lean.mkIdent x.toName) (y.map λx=>Lean.mkIdent x)
 let a:=f "HH DD R_R N_C" #[]++f "Nat.le_of_lt Int.le_of_lt Nat.le_of_not_lt N_1 Nat.succ_le_of_lt Nat.lt_of_succ_le Nat.le_of_lt_succ Nat.lt_succ_of_le Nat.lt_succ_of_lt N_2 Nat.le_of_succ_le N_3 O_4 O_6 O_7 O_9 Nat.eq_zero_of_le_zero Nat.not_lt_of_le Int.not_lt_of_ge Eq.symm Nat.le_succ_of_le" #[`HH]++f "Int.le_trans Nat.le_trans LL LM LN Int.lt_of_le_of_lt Nat.lt_of_le_of_lt Nat.lt_of_lt_of_le Int.lt_of_lt_of_le O_3" #[`HH,`DD]++f "Int.le_trans Nat.le_trans LL LM LN Nat.lt_of_le_of_lt Nat.lt_of_lt_of_le Int.lt_of_lt_of_le Int.lt_of_le_of_lt N_5 N_6 N_7 N_8 N_9 O_2 O_5 O_8" #[`HH,`HH]
 `(tactic|first|(first $[|exact $a]*)|lia -abstractProof)
theorem OO{p:Prop}(h:p:=by omega):p:=h
local macro_rules|`(∅)=>`(1000000000000000000)
local macro_rules|`(!$x)=>`(List $x)
local macro_rules|`(tactic|exists $e,*)=>do let x:=e.getElems.push (<-`(?_));`(tactic|refine⟨$x,*⟩)
def pP(s:Lean.Syntax):=s.rewriteBottomUp λx=>let k:=`Lean.Parser.Tactic.rcasesPat;let n a b:=Lean.Syntax.node .none a b;if x.isIdent then n (k++`one) #[x] else if x.isOfKind ``Lean.Parser.Term.hole then n (k++`ignore) x.getArgs else if x.isOfKind ``Lean.Parser.Term.anonymousCtor then n (k++`tuple) #[x[0],n `null (x[1].getArgs.map λy=>if y.isAtom then y else n (k.appendAfter "Lo") #[n (k.appendAfter "Med") #[n `null #[y]],n `null #[]]),x[2]] else x
local macro_rules|`(tactic|let $p:term:=$e)=>if p.raw.isOfKind ``Lean.Parser.Term.anonymousCtor then `(tactic|obtain $(⟨.node .none `Lean.Parser.Tactic.rcasesPatMed #[Lean.mkNullNode #[pP p]]⟩):rcasesPatMed:=$e) else throw .unsupportedSyntax
local macro_rules|`(tactic|intros $[$x:ident]*)=>do
 let y:=#["pins","s","σ","H"].map λx=>Lean.mkIdent (.mkSimple x)
 `(tactic|intro $[$(y++x)]*)
local macro_rules|`(tactic|ac_nf)=>`(tactic|try dsimp only[$(Lean.mkIdent `J3):ident,$(Lean.mkIdent `Cx.nox):ident])
theorem IRP{p:Prop}(h:p:=by exact λJ J=>rfl):p:=h
theorem ILP{p:Prop}(h:p:=by exact .inl rfl):p:=h
theorem A0P{p:Prop}(h:p:=by first | exact .inl rfl | exact .inr rfl | assumption):p:=h
theorem A2P{p:Prop}(h:p:=by intro _;rfl):p:=h
theorem RF{p:Prop}(h:p:=by rfl):p:=h
theorem A4P{p:Prop}(h:p:=by with_unfolding_all rfl):p:=h
set_option genInjectivity false
set_option genSizeOf false
open _root_.PySem.W renaming Frag->A8,mg_none_of->r8,kitOne->A0t,findIn->A1q,kia_one->A1r,nsIn->A1u,mg_of->A2j,emptyDict->A42,fnOf->A43,instObj->A7d,keepIn->A7f,kitCls->A7k,lookIn->C0i,plainGet->C0j,callWith_K->C0m,codeIn->C0o,plainGet_of->C8f
open _root_.Or renaming inl->B6
open _root_.List renaming length_map->B7,mem_cons_of_mem->E3,mem_cons_self->E5,replicate->G1,length_cons->J6,set->K6,mem_cons->K7,map_cons->K9,mem_map->L0,length_append->L3,map_append->L7,getElem?_map->M2,getElem?_eq_getElem->M8,map_map->Q8,size_toArray->R9,nil_append->T2,range->U2,mem_of_getElem?->U4,getElem?_eq_some_iff->X4,length_take->X5,not_mem_nil->Z4,length_replicate->d9,length_set->j8,append_assoc->j9,length_range->m5,mem_append->p7,append_nil->p8,cons_append->A0f,replicate_succ->A0u,mem_append_right->A1d,cons->A1f,lookup_cons->A1s,take_add_one->A1t,take_length->A1v,mem_range->A2d,getElem?_set_ne->A2e,getElem?_eq_none->A2g,mem_singleton->A2h,map_take->A2i,flatten_cons->A3k,eq_nil_of_length_eq_zero->A3l,any_cons->A45,getElem?_set->A46,find?_cons->A47,getElem?_append_right->A7g,getElem?_append_left->A7h,length_reverse->A7l,length_nil->A7m,map_eq_nil_iff->A7n,lookup->A9j,getElem?_cons_succ->A9l,tail_cons->A9m,mem_filter->B05,of_mem_zip->B06,length->B07,all_eq_true->B09,mem_iff_getElem->B1a,tail_nil->B1c,getElem?_cons_zero->B1d,set_cons_zero->B1e,set_cons_succ->B1f,map_congr_left->B1m,nodup_cons->B4e,map_nil->B4g,idxOf_lt_length_iff->B4i,take_of_length_le->B4k,filter_cons_of_neg->B4l,drop_zero->B4m,nodup_nil->B4q,getElem_mem->B4r,length_zip->B4s,mem_filterMap->C0h,getElem?_replicate->C0n,reverse_cons->C0r,ext_getElem?->C0s,getElem?_range->C0t,drop_eq_getElem_cons->C0u,filter_cons_of_pos->C0v,sum_cons->C0w,range_succ->C0x,length_filter_le->C0y,filterMap_cons->C8d,mem_append_left->C8e,length_singleton->C8g,getElem_idxOf->C8i,mem_zipIdx_iff_getElem?->C8j,getElem?_of_mem->C8p,map_replicate->C8q
open _root_.Nat renaming le_refl->G3,le_trans->M0,zero_le->Q7,ne_of_lt->S5,lt_of_lt_of_le->U1,toDigits->Z3,lt_irrefl->A1p,lt_of_le_of_lt->A2f,le_of_lt->A3h,le_succ->A3j,ne_of_gt->A9i,min_le_left->B1j,min_eq_left->B4n,toDigits_of_lt_base->B4o,lt_succ_self->C0l,not_lt_zero->C00,toDigits_append_toDigits->C8n
open _root_.PySem.Heap renaming lt_size->K3,get?_push_of_some->Q3,get?_push_size->U3,get?_update_other->A7j,size_push->C0k,get?_update_self->C0p
open _root_.Bool renaming false_ne_true->Q2,and_eq_true->Z2,eq_iff_iff->A3i,or_eq_true->A9k,not_true->B1h,not_false->B1i,false_eq_true->B4h,not_eq_true'->C0q,and_eq_true_iff->C8m
open _root_.PySem.F renaming plainAttrs_list->S9,slot_list_append->U5,type_list_append->U6,plainAttrs_str->A3m,slot_str_split->B1b,slot_str_join->B1k,type_str_join->B1l,slot_list_index->C8h,entry_str_split->C8k,args_str_split_2->C8l,type_str_split->C8r
open _root_.PySem.PassesOwn renaming never->T3
open _root_.Int renaming toNat->p9,le_refl->A0v,le_trans->A0w,toNat_natCast->A44,eq_ofNat_of_zero_le->B4j,emod_nonneg->B4p,emod_lt_of_pos->C0z
open _root_.Option renaming map_eq_some_iff->A1e,map_some->A7o,bind_some->B1g
open _root_.Char renaming toNat->A2k
open _root_.Array renaming length_toList->A7e,getElem?_toList->B08
open _root_.PySem.Obj renaming mapSeq->A7i
open _root_.PySem renaming mem_of_lookup->B4f
open _root_.PySem.W.KIN renaming val_back->C8o
def mqB:String:="A6l A02 A36 A37 dOp A3x A6o dT A6n dCb A52 A51 dC dF A54 A53 A5t A5m A5o dOr A5q A5r A5s dBV dIf A2u dIx A55 A56 A6c A6d dSl A6e A6g A6h A6k A6i aV aS Y8 arD A2x X0 A8o ixD lenD V0 A32 gI gI0 A5u A5v A5w A5x A5y A5z gLt gLe gGt gGe gEq A12 isN A3z A58 A59 gI2 A30 A31 A6b A6m A6s A38 A6p gN gT2 A15 A6r gIn oN oS A03 y9 A8c A8d A8e A8f A8g A8h A0m tyD A9m B1c B1d A9l B1e B1f J6 A7m B1g A7o A0f T2 A8i A8j A8k A8l A8m A8n B1h B1i A60 A4c"
def mqT(s:String):Lean.MacroM (Lean.TSyntax `tactic):=do
 let a:=((s++mqB).splitOn " ").toArray.map λx=>Lean.mkIdent x.toName
 `(tactic|try dsimp only[$[$a:ident],*])
def sP(s:Lean.Syntax):=
 let s:=s.rewriteBottomUp λx=>x.setInfo .none
 if s[1].getKind∈[``Lean.Parser.Command.definition,``Lean.Parser.Command.abbrev]&&s[0][4].getNumArgs==0 then s.modifyArg 0 λm=>m.setArg 4 (Lean.mkNullNode #[.node .none ``Lean.Parser.Command.noncomputable #[.atom .none "noncomputable"]]) else s
local macro_rules(kind:=Lean.Parser.Command.declaration)|s=>if s.getPos?.isSome then pure (sP s) else throw .unsupportedSyntax
namespace Lake
open PySem PySem.Spec PyProof.Rows
theorem el3 {α β γ:Type}{R T K:α->β->γ->Prop}{p:Prop}(h:∃a b c,R a b c/\T a b c/\K a b c)(f:∀a b c,R a b c->T a b c->K a b c->p):p:=h.elim λa h=>h.elim λb h=>h.elim λc h=>f a b c h.1 h.2.1 h.2.2
theorem el5 {α β:Type}{R T K:α->β->Prop}{p:Prop}(h:∃a b,R a b/\T a b/\K a b)(f:∀a b,R a b->T a b->K a b->p):p:=h.elim λa h=>h.elim λb h=>f a b h.1 h.2.1 h.2.2
theorem el2 {α:Type}{A B:α->Prop}{p:Prop}(h:∃a,A a/\B a)(f:∀a,A a->B a->p):p:=h.elim λa h=>f a h.1 h.2
abbrev Key:=Sum Int Str
def A3n:Key->Value->Bool
 | .inl k,v=>Value.isInt k v
 | .inr x,v=>Value.isStrOf x v
def C8s (w:World):Key->Int
 | .inl k=>hashInt k
 | .inr x=>hashStr w x
theorem A1w:∀{k:Key}{v:Value},A3n k v=true->(∃i t,k=Sum.inl i/\v=Value.int i t)\/(∃x t,k=Sum.inr x/\v=Value.str x t)
 | .inl i,v,h=>by
  let⟨t,e⟩:=Value.isInt_shape (k:=i) (v:=v) h;exact .inl ⟨i,t,rfl,e⟩
 | .inr x,v,h=>by
  let⟨t,e⟩:=Value.isStrOf_shape (x:=x) (v:=v) h;exact .inr ⟨x,t,rfl,e⟩
theorem C8t (i:Int)(t:Tok):A3n (.inl i) (.int i t)=true:=by simp [A3n,Value.isInt]
theorem C8u (x:Str)(t:Tok):A3n (.inr x) (.str x t)=true:=by simp [A3n,Value.isStrOf]
theorem C8v (a b:Int):decide ((Sum.inl a:Key)=Sum.inl b)=(a == b):=by
 by_cases e:a=b
 ·subst e;simp
 ·have h:¬ (Sum.inl a:Key)=Sum.inl b:=λq=>e (Sum.inl.inj q);rw[decide_eq_false h];exact (beq_eq_false_iff_ne.mpr e).symm
theorem C8w (a b:Str):decide ((Sum.inr a:Key)=Sum.inr b)=decide (a=b):=by
 by_cases e:a=b
 ·subst e;simp
 ·have h:¬ (Sum.inr a:Key)=Sum.inr b:=λq=>e (Sum.inr.inj q);rw[decide_eq_false h,decide_eq_false e]
theorem C8x (a:Int)(b:Str):decide ((Sum.inl a:Key)=Sum.inr b)=false:=decide_eq_false (λq=>nomatch q)
theorem C8y (a:Str)(b:Int):decide ((Sum.inr a:Key)=Sum.inl b)=false:=decide_eq_false (λq=>nomatch q)
def U7 (prog:Program)(w:World):PySem.KeyKind prog w Key where
 is:=A3n
 hash:=C8s w
 inj:=λv a b ha hb=>by
  rcases A1w ha with ⟨i,t,rfl,rfl⟩ | ⟨x,t,rfl,rfl⟩
  ·rcases A1w hb with ⟨j,u,rfl,e⟩ | ⟨y,u,rfl,e⟩
   ·injection e with e1 _;rw[e1]
   ·exact nomatch e
  ·rcases A1w hb with ⟨j,u,rfl,e⟩ | ⟨y,u,rfl,e⟩
   ·exact nomatch e
   ·injection e with e1 _;rw[e1]
 byValue:=λk v h=>by
  rcases A1w h with ⟨i,t,rfl,rfl⟩ | ⟨x,t,rfl,rfl⟩ <;> rfl
 pyHash:=λhv h=>by
  rcases A1w hv with ⟨i,t,rfl,rfl⟩ | ⟨x,t,rfl,rfl⟩
  ·exact wpAny_pyHash_int h
  ·exact wpAny_pyHash_str h
 eqBool:=λhu hv h=>by
  rcases A1w hu with ⟨i,t,rfl,rfl⟩ | ⟨x,t,rfl,rfl⟩
  ·rcases A1w hv with ⟨j,u,rfl,rfl⟩ | ⟨y,u,rfl,rfl⟩
   ·rw[C8v] at h;exact wpAny_eqBool_int h
   ·rw[C8x] at h;exact SeqAt.EqAt.int_str i t y u _ _ _ _ h
  ·rcases A1w hv with ⟨j,u,rfl,rfl⟩ | ⟨y,u,rfl,rfl⟩
   ·rw[C8y] at h;exact SeqAt.EqAt.str_int x t j u _ _ _ _ h
   ·rw[C8w] at h;exact wpAny_eqBool_str h
 «strs»:=λk x t v h=>by
  rcases A1w h with ⟨i,u,rfl,e⟩ | ⟨y,u,rfl,e⟩
  ·exact nomatch e
  ·injection e with e1 _
   subst e1;cases v <;> rfl
theorem C8z (prog:Program)(w:World)(k:Key)(v:Value):(U7 prog w).is k v=A3n k v:=rfl
theorem C80 (prog:Program)(w:World)(i:Int)(t:Tok):(U7 prog w).is (.inl i) (.int i t)=true:=C8t i t
theorem B4t (prog:Program)(w:World)(x:Str)(t:Tok):(U7 prog w).is (.inr x) (.str x t)=true:=C8u x t
set_option genInjectivity true in
inductive V where
 | non | bl (b:Bool) | int (i:Int) | str (x:Str) | byt (b:Array UInt8) | flt (b:UInt64) | ref (a:Addr) | ty (n:String)
 deriving DecidableEq
def F1:V->Value->Prop
 | .non,u=>u=Value.none
 | .bl b,u=>u=Value.bool b
 | .int i,u=>∃t,u=Value.int i t
 | .str x,u=>∃t,u=Value.str x t
 | .byt b,u=>∃t,u=Value.bytes b t
 | .flt b,u=>∃t,u=Value.float b t
 | .ref a,u=>u=Value.ref a
 | .ty n,u=>u=Value.type n
abbrev E1:!V->!Value->Prop:=Paired F1
theorem E1.length {xs:!V}{us:!Value}(r:E1 xs us):xs.length=us.length:=Paired.length r
theorem E1.get:∀{xs:!V}{us:!Value}{i:Nat}{x:V},E1 xs us->xs[i]?=some x->∃u,us[i]?=some u/\F1 x u
 | _,_,_,_,.nil,e=>by simp at e
 | _,_,0,_,.cons r _,e=>by simp at e;subst e;exact⟨_,rfl,r⟩
 | _,_,i+1,x,.cons _ t,e=>by
  let⟨u,h1,h2⟩:=E1.get (i:=i) (x:=x) t (by simpa using e);exact⟨u,by simpa using h1,h2⟩
theorem E1.set {x:V}{u:Value}(r:F1 x u):∀{xs:!V}{us:!Value}(i:Nat),E1 xs us->E1 (xs.set i x) (us.set i u)
 | _,_,_,.nil=>.nil
 | _,_,0,.cons _ t=>.cons r t
 | _,_,i+1,.cons q t=>.cons q (E1.set r i t)
theorem E1.append {xs ys:!V}{us ws:!Value}(h:E1 xs us)(s:E1 ys ws):E1 (xs++ys) (us++ws):=by
 induction h with
 | nil=>exact s
 | cons r t ih=>exact .cons r ih
theorem E1.take:∀{xs:!V}{us:!Value}(n:Nat),E1 xs us->E1 (xs.take n) (us.take n)
 | _,_,0,_=>.nil
 | _,_,_+1,.nil=>.nil
 | _,_,n+1,.cons r t=>.cons r (E1.take n t)
theorem E1.drop:∀{xs:!V}{us:!Value}(n:Nat),E1 xs us->E1 (xs.drop n) (us.drop n)
 | _,_,0,r=>r
 | _,_,_+1,.nil=>.nil
 | _,_,n+1,.cons _ t=>E1.drop n t
def W5:Option V->Option Value->Prop
 | some v,some u=>F1 v u
 | none,none=>True
 | _,_=>False
def KV {κ:Type}:!(κ×V)->!(κ×Value)->Prop:=Paired λ(p:κ×V) (q:κ×Value)=>p.1=q.1/\F1 p.2 q.2
def kV:Key->V
 | .inl i=>.int i
 | .inr x=>.str x
inductive HO where
 | lst (xs:!V)
 | tup (xs:!V)
 | dK (kvs:!(Key×V)) | dT (kvs:!(!Key×V))
 | set (S:Int->Bool) (n:Nat)
 | ins (C dx:Addr) (fs:!(Str×V))
 | own (x:Addr)
 | xd (fs:!(Str×V))
 | met (f x:Addr)
 | rng (lo hi:Int)
 | frz (o:Obj) (u:HO)
 | tbl (ps:Array Value)
 | ext (φ:Heap->Prop)
abbrev Hp:=Addr->Option HO
def upd (H:Hp)(a:Addr)(o:HO):Hp:=λb=>if b=a then some o else H b
theorem B9 {H:Hp}{a:Addr}{o:HO}:upd H a o a=some o:=by unfold upd;rw[if_pos rfl]
theorem C4 {H:Hp}{a b:Addr}{o:HO}(h:b≠a):upd H a o b=H b:=by unfold upd;rw[if_neg h]
theorem C01 {H:Hp}{a b:Addr}{o u:HO}(h:H a=some o)(h':H b=some u)(d:o≠u):a≠b:=by
 intro e;subst e;rw[h] at h';exact d (Option.some.inj h')
theorem e7 {H:Hp}{a b:Addr}{o:HO}(h:H a=some o)(h':H b=none):a≠b:=by
 intro e;subst e;rw[h] at h';cases h'
section
variable (P:Program)(w:World)
def N3 (H:Hp)(h:Heap)(a:Addr):HO->Prop
 | .lst xs=>xs.length<=sizeLine/\∃(its:!Value)(n:Nat),E1 xs its/\h.get? a=some { cls:=.type "list",data:=.seq its.toArray n }
 | .tup xs=>xs.length<=sizeLine/\∃its:!Value,E1 xs its/\IsTup h a its.toArray
 | .dK kvs=>kvs.length<=sizeLine/\(a == sysModules)=false/\∃vs,KV kvs vs/\h.DictOf (U7 P w) a vs
 | .dT kvs=>kvs.length<=sizeLine/\(a == sysModules)=false/\∃xs:!(!Key×Addr×Value),
   Paired (λ(p:!Key×V) (q:!Key×Addr×Value)=>p.1=q.1/\H q.2.1=some (.tup (p.1.map kV))/\F1 p.2 q.2.2) kvs xs/\
   ∃o es ep,h.get? a=some o/\o.ExactDict/\o.data=.dict es ep/\es.toList=xs.map (entryOfKey (tupleKind (U7 P w)))/\(xs.map (·.1)).Nodup
 | .set S n=>h.SetOf (intKind P w) a S n
 | .ins C dx fs=>H dx=some (.own a)/\fs.length<=1000/\dx≠a/\h.get? a=some (A7d C dx)/\
   ∃mA,h.Ns1 dx mA/\(∀f,W5 (fs.lookup f) (mA f))/\PySem.Within mA (fs.map (·.1))
 | .own _=>∃o,h.get? a=some o
 | .xd fs=>∃mA,h.Ns1 a mA/\∀f,W5 (fs.lookup f) (mA f)
 | .rng lo hi=>∃t u v,h.get? a=some { cls:=.type "range",data:=.fields #[.int lo t,.int hi u,.int 1 v] }
 | .frz o u=>h.get? a=some o/\N3 H h a u
 | .tbl ps=>h.get? a=some { cls:=.none,data:=.fields ps }
 | .met f x=>h.get? a=some (PySem.W.methodObj (.ref f) (.ref x))
 | .ext φ=>φ h/\(∃o,h.get? a=some o)/\∀h1 h2:Heap,φ h1->(∀o,h1.get? a=some o->h2.get? a=some o)->φ h2
def HOk (H:Hp)(h:Heap):Prop:=∀a o,H a=some o->N3 P w H h a o
end
variable {H H':Hp}{h h':Heap}{a:Addr}
section
variable {P:Program}{w:World}{o:HO}
theorem N3.lt (x:N3 P w H h a o):a<h.objs.size:=by
 cases o with
 | lst xs=>let⟨_,_,_,_,e⟩:=x;exact K3 e
 | tup xs=>let⟨_,_,_,p⟩:=x;exact p.lt
 | dK kvs=>let⟨_,_,_,_,o,_,_,e,_⟩:=x;exact K3 e
 | dT kvs=>let⟨_,_,_,_,o,_,_,e,_⟩:=x;exact K3 e
 | set S n=>let⟨o,_,_,_,e,_⟩:=x;exact K3 e
 | ins C dx fs=>let⟨_,_,_,e,_⟩:=x;exact K3 e
 | own y=>let⟨_,e⟩:=x;exact K3 e
 | xd fs=>let⟨_,⟨_,_,_,e,_⟩,_⟩:=x;exact K3 e
 | rng lo hi=>let⟨_,_,_,e⟩:=x;exact K3 e
 | frz ob u=>let⟨e,_⟩:=x;exact K3 e
 | tbl ps=>exact K3 (show h.get? a=some _ from x)
 | met f y=>exact K3 (show h.get? a=some _ from x)
 | ext φ=>let⟨_,⟨_,e⟩,_⟩:=x;exact K3 e
theorem Paired.mapP {α β:Type}{F G:α->β->Prop}{l₁:!α}{l₂:!β}(h:Paired F l₁ l₂)(f:∀a b,F a b->G a b):Paired G l₁ l₂:=by
 induction h with
 | nil=>exact .nil
 | cons r t ih=>exact .cons (f _ _ r) ih
theorem N3.stay (x:N3 P w H h a o)(k:∀b u,(b=a\/H b=some (.own a))->h.get? b=some u->h'.get? b=some u)
  (ho:∀b,H b=some (.own a)->H' b=some (.own a)) (ht:∀b xs,H b=some (.tup xs)->H' b=some (.tup xs)):N3 P w H' h' a o:=by
 induction o with
 | lst xs=>let⟨z,its,n,r,e⟩:=x;exact⟨z,its,n,r,k _ _ (.inl rfl) e⟩
 | tup xs=>let⟨z,its,r,ob,e,c⟩:=x;exact⟨z,its,r,ob,k _ _ (.inl rfl) e,c⟩
 | dK kvs=>let⟨z,y,vs,r,ob,es,ep,e,c⟩:=x;exact⟨z,y,vs,r,ob,es,ep,k _ _ (.inl rfl) e,c⟩
 | dT kvs=>let⟨z,y,xs,r,ob,es,ep,e,c⟩:=x;exact⟨z,y,xs,Paired.mapP r λp q z=>⟨z.1,ht _ _ z.2.1,z.2.2⟩,ob,es,ep,k _ _ (.inl rfl) e,c⟩
 | set S n=>let⟨ob,es,ep,t,e,c⟩:=x;exact⟨ob,es,ep,t,k _ _ (.inl rfl) e,c⟩
 | ins C dx fs=>let⟨d,z,ne,e,mA,⟨od,es,ep,e2,c⟩,r⟩:=x;exact⟨ho _ d,z,ne,k _ _ (.inl rfl) e,mA,⟨od,es,ep,k _ _ (.inr d) e2,c⟩,r⟩
 | own y=>let⟨ob,e⟩:=x;exact⟨ob,k _ _ (.inl rfl) e⟩
 | xd fs=>let⟨mA,⟨od,es,ep,e,c⟩,r⟩:=x;exact⟨mA,⟨od,es,ep,k _ _ (.inl rfl) e,c⟩,r⟩
 | rng lo hi=>let⟨t,u,v,e⟩:=x;exact⟨t,u,v,k _ _ (.inl rfl) e⟩
 | frz ob u ih=>let⟨e,q⟩:=x;exact⟨k _ _ (.inl rfl) e,ih q⟩
 | tbl ps=>have e:h.get? a=some { cls:=.none,data:=.fields ps }:=x;show h'.get? a=some { cls:=.none,data:=.fields ps };exact k a _ (.inl rfl) e
 | met f y=>have e:h.get? a=some (PySem.W.methodObj (.ref f) (.ref y)):=x;show h'.get? a=some (PySem.W.methodObj (.ref f) (.ref y));exact k a _ (.inl rfl) e
 | ext φ=>let⟨p,⟨o,e⟩,st⟩:=x;exact⟨st _ _ p λo q=>k _ _ (.inl rfl) q,⟨o,k _ _ (.inl rfl) e⟩,st⟩
theorem HOk.lt (x:HOk P w H h)(e:H a=some o):a<h.objs.size:=(x a o e).lt
theorem HOk.fresh (x:HOk P w H h)(e:h.objs.size<=a):H a=none:=by
 cases q:H a with
 | none=>rfl
 | some u=>exact absurd (U1 (x.lt q) e) (A1p _)
theorem HOk.kept (x:HOk P w H h)(k:∀b u,h.get? b=some u->h'.get? b=some u):HOk P w H h':=λa o e=>
 (x a o e).stay (λb u J q=>k b u q) (λJ q=>q) λJ J q=>q
theorem HOk.laid (x:HOk P w H h)(k:∀b u,h.get? b=some u->h'.get? b=some u)(hp:h.objs.size<=a)(new:N3 P w (upd H a o) h' a o):HOk P w (upd H a o) h':=λb u e=>by
 have hn:=x.fresh hp;by_cases hb:b=a
 ·subst hb;rw[B9] at e;cases e;exact new
 ·rw[C4 hb] at e;exact (x b u e).stay (λc v J q=>k c v q) (λc q=>by rw[C4 (e7 q hn)];exact q) λc xs q=>by rw[C4 (e7 q hn)];exact q
end
def Rd (H:Hp)(a:Addr)(u:HO):Prop:=H a=some u\/∃o,H a=some (.frz o u)
theorem Rd.ok {P:Program}{w:World}{H:Hp}{h:Heap}{a:Addr}{u:HO}(r:Rd H a u)(x:HOk P w H h):N3 P w H h a u:=by
 rcases r with r | ⟨o,r⟩
 ·exact x a u r
 ·let⟨_,q⟩:=x a _ r;exact q
def Mut:Option HO->Prop
 | some (.lst _)=>True
 | some (.dK _)=>True
 | some (.dT _)=>True
 | some (.set _ _)=>True
 | some (.ins _ _ _)=>True
 | some (.ext _)=>True
 | _=>False
section
variable {P:Program}{w:World}{x e:Addr}{o':HO}
theorem HOk.write (ok:HOk P w H h)(mu:Mut (H x))(he:e=x\/H e=some (.own x))(k:∀b u,b≠e->h.get? b=some u->h'.get? b=some u)(heo:∃u,h'.get? e=some u)
  (new:N3 P w (upd H x o') h' x o'):HOk P w (upd H x o') h':=λb u q=>by
 have nown:∀c y,H c=some (.own y)->c≠x:=λc y r z=>by subst z;rw[r] at mu;exact mu
 have ntup:∀c xs,H c=some (.tup xs)->c≠x:=λc xs r z=>by subst z;rw[r] at mu;exact mu
 by_cases hb:b=x
 ·subst hb;rw[B9] at q;cases q;exact new
 ·rw[C4 hb] at q;by_cases hbe:b=e
  ·have q':H b=some (.own x):=by
    rcases he with z | z
    ·exact absurd (hbe.trans z) hb
    ·rw[hbe];exact z
   rw[q] at q';cases q';let⟨v,hv⟩:=heo;exact⟨v,by rw[hbe];exact hv⟩
  ·refine (ok b u q).stay (λc v hc r=>k c v ?_ r) (λc r=>by rw[C4 (nown c b r)];exact r) λc xs r=>by rw[C4 (ntup c xs r)];exact r
   rcases hc with rfl | hc
   ·exact hbe
   ·rintro rfl;rcases he with z | z
    ·exact nown c b hc z
    ·rw[hc] at z;cases z;exact hb rfl
end
structure Un (fs ex:!Addr)(H H':Hp)(h h':Heap):Prop where
 keep:∀b o,h.get? b=some o->H b=none->b∉fs->b∉ex->h'.get? b=some o
 slot:∀b o,h.get? b=some o->H b=none->b∈fs->b∉ex->∃sl,h'.get? b=some { o with slots:=sl }
 free:∀b o,h.get? b=some o->H b=none->b∉ex->H' b=none
 there:∀b o,h.get? b=some o->b∉ex->∃o',h'.get? b=some o'
 tups:∀b xs,H b=some (.tup xs)->H' b=some (.tup xs)
 frzs:∀b o u,H b=some (.frz o u)->H' b=some (.frz o u)
 tbls:∀b ps,H b=some (.tbl ps)->∃more,H' b=some (.tbl (ps++more))
section
variable {fs fs' ex ex':!Addr}{H1 H2:Hp}{h1 h2:Heap}{x e:Addr}{o:HO}
theorem Un.any (u:Un fs ex H H1 h h1){b:Addr}{ob:Obj}(q:h.get? b=some ob)(n:H b=none)(hx:b∉ex):∃sl,h1.get? b=some { ob with slots:=sl }:=by
 by_cases hb:b∈fs
 ·exact u.slot b ob q n hb hx
 ·exact⟨ob.slots,u.keep b ob q n hb hx⟩
theorem Un.kept (k:∀b u,h.get? b=some u->h'.get? b=some u):Un fs ex H H h h':=
 ⟨λb ob q J J J=>k b ob q,λb ob q J J J=>⟨ob.slots,k b ob q⟩,λJ J J n J=>n,λb ob q J=>⟨ob,k b ob q⟩,λJ J q=>q,λJ J J q=>q,λJ ps q=>⟨#[],by rw[q];simp⟩⟩
theorem Un.refl:Un fs ex H H h h:=Un.kept λJ J q=>q
theorem Un.laid (k:∀b u,h.get? b=some u->h'.get? b=some u)(hp:h.objs.size<=a)(hn:H a=none):Un fs ex H (upd H a o) h h' where
 keep:=λb u q J J J=>k b u q
 slot:=λb u q J J J=>⟨u.slots,k b u q⟩
 free:=λb u q n J=>by rw[C4 (S5 (U1 (K3 q) hp))];exact n
 there:=λb u q J=>⟨u,k b u q⟩
 tups:=λb xs q=>by rw[C4 (e7 q hn)];exact q
 frzs:=λb u xs q=>by rw[C4 (e7 q hn)];exact q
 tbls:=λb ps q=>⟨#[],by rw[C4 (e7 q hn),q];simp⟩
theorem Un.write (mu:Mut (H x))(he:e=x\/H e=some (.own x))(k:∀b u,b≠e->h.get? b=some u->h'.get? b=some u)(heo:∃u,h'.get? e=some u):Un fs ex H (upd H x o) h h':=by
 have hx:∀b,H b=none->b≠x:=λb n z=>by subst z;rw[n] at mu;exact mu
 have hb:∀b,H b=none->b≠e:=λb n z=>by
  subst z;rcases he with r | r
  ·exact hx b n r
  ·rw[n] at r;cases r
 have hm:∀b u,H b=some u->¬ Mut (some u)->b≠x:=λb u q nm z=>by subst z;rw[q] at mu;exact nm mu
 refine⟨λb u q n J J=>k b u (hb b n) q,λb u q n J J=>⟨u.slots,k b u (hb b n) q⟩,λb u q n J=>by rw[C4 (hx b n)];exact n,λb u q J=>?_,
  λb xs q=>by rw[C4 (hm b _ q λz=>z)];exact q,λb u xs q=>by rw[C4 (hm b _ q λz=>z)];exact q,λb ps q=>⟨#[],by rw[C4 (hm b _ q λz=>z),q];simp⟩⟩
 by_cases hbe:b=e
 ·subst hbe;exact heo
 ·exact⟨u,k b u hbe q⟩
end
def trk (h:Heap)(H:Hp):!Addr:=(U2 h.objs.size).filter λa=>(H a).isSome
def A2l (h:Heap)(H:Hp):Heap:=PySem.W.hideAll h (trk h H)
theorem C81 (h:Heap)(H:Hp):(A2l h H).objs.size=h.objs.size:=PySem.W.hideAll_size _ _
theorem C82 {h:Heap}{H:Hp}{b:Addr}{o:Obj}(e:h.get? b=some o)(n:H b=none):(A2l h H).get? b=some o:=
 PySem.W.hideAll_get _ e λhm=>by
  have q:(H b).isSome=true:=(B05.mp hm).2;rw[n] at q;simp at q
theorem C83 {h:Heap}{H:Hp}{b:Addr}{o:Obj}(e:(A2l h H).get? b=some o):h.get? b=some o/\H b=none:=by
 have e':h.get? b=some o:=PySem.W.of_hideAll (trk h H) e;exists e';cases q:H b with
 | none=>rfl
 | some x=>have hm:b∈trk h H:=B05.mpr ⟨A2d.mpr (K3 e'),by simp [q]⟩;have z:(A2l h H).get? b=none:=PySem.W.hideAll_none (trk h H) hm;rw[z] at e;cases e
def C84 (g h:Heap)(L:Addr):!(Addr×Obj):=(U2 h.objs.size).filterMap λa=>if a=L\/(g.get? a).isSome=true then none else (h.get? a).map λo=>(a,o)
def V6 (g h:Heap)(L d:Addr):!(Addr×Obj):=(C84 g h L).filter λp=>decide (p.1≠d)
structure Mod (K:A8)(mg:Str->Option Value)(base:Heap):Prop where
 kin:K.In base
 glob:base.Ns mainGlobals mg
 blt:∃mb,base.Ns builtinsNs mb/\∀x:Str,x≠ "__name__" ->mb x=bootBuiltins x
 nolimit:base.NoLimit
structure Cx where
 prog:Program
 w:World
 K:A8
 mg:Str->Option Value
 base:Heap
 A:Around
 N:!Str
 s₀:Shared
 H₀:Hp
 env:Env
 outer:!Env
 stack:!Env
 ex:!Addr
 fn:Str->Bool
 calm:Bool
 pn:!(Addr×Obj)
 xe:Value->Shared->Prop
def frs (l:!Env):!Addr:=l.filterMap (·.frame)
abbrev Cx.fs (X:Cx):!Addr:=frs X.outer
def Vis (sc:Scope)(x:Str):Prop:=sc.names.lookup x=some .local\/sc.names.lookup x=some .cell\/sc.names.lookup x=some .free
def Loc (sc:Scope)(x:Str):Prop:=sc.names.lookup x=some .local\/sc.names.lookup x=some .cell
def C02 (env:Env)(h:Heap)(m:Str->Option Value)(x:Str)(u:Value):Prop:=
 (env.kindOf x=some .local/\m x=some u)\/((env.kindOf x=some .cell\/env.kindOf x=some .free)/\∃c,env.cells.lookup x=some c/\h.IsCell c (some u))
structure Cx.Ok (X:Cx):Prop where
 mod:Mod X.K X.mg X.base
 kind:X.env.scope.kind=.function
 glob:X.env.globals=mainGlobals
 blt:X.env.builtins=builtinsNs
 above:X.s₀.heap.objs.size<=X.env.locals
 inj:∀x y c,X.env.cells.lookup x=some c->X.env.cells.lookup y=some c->x=y
 has:∀x,(X.env.kindOf x=some .cell\/X.env.kindOf x=some .free)->∃c,X.env.cells.lookup x=some c
 cab:∀x c,X.fn x=true->X.env.cells.lookup x=some c->X.s₀.heap.objs.size<=c
 hd:X.calm=true->X.A.handled=none
 frames:X.A.frames=some X.stack
 stk:X.stack=X.outer\/(X.stack=X.env::X.outer/\X.env.frame=some X.env.locals)
 exf:∀b∈X.ex,b≠X.env.locals/\∀x c,X.env.cells.lookup x=some c->c≠b
 bs:∀b o,X.base.get? b=some o->X.s₀.heap.get? b=some o/\X.H₀ b=none
 bsz:X.base.objs.size<=X.s₀.heap.objs.size
 noex:∀b o,X.base.get? b=some o->b∉X.ex
 exfs:∀b∈X.ex,b∉X.fs
 funs:X.s₀.heap.FunFrames X.base X.outer
 frf:∀b∈X.fs,X.H₀ b=none
structure Inv (X:Cx)(pins:!(Addr×Obj))(σ:!(Option V))(H:Hp)(s:Shared):Prop where
 ok:X.Ok
 os:s.os=X.s₀.os
 bare:AllBare s.gens
 base:Un X.fs X.ex X.H₀ H X.s₀.heap s.heap
 loc:∃m,s.heap.Ns X.env.locals m/\∀(i:Nat)(x:Str)(v:V),X.N[i]?=some x->σ[i]?=some (some v)->Vis X.env.scope x->∃u,F1 v u/\C02 X.env s.heap m x u
 cell:∀x c,X.env.cells.lookup x=some c->∃v,s.heap.IsCell c v
 free:H X.env.locals=none
 freeC:∀x c,X.env.cells.lookup x=some c->H c=none
 pin:∀p∈X.pn++pins,s.heap.get? p.1=some p.2/\H p.1=none/\p.1≠X.env.locals/\p.1∉X.fs/\∀v,p.2.data≠.cell v
 hok:HOk X.prog X.w H s.heap
 len:σ.length=X.N.length
variable {X:Cx}{pins:!(Addr×Obj)}{s:Shared}
section
variable {σ:!(Option V)}
theorem Cx.Ok.nofr (ok:X.Ok){b:Addr}{o:Obj}(e:X.base.get? b=some o):b∉X.fs:=λhb=>by
 have:=(ok.funs.mem hb).1;rw[e] at this;cases this
theorem Inv.bs (I:Inv X pins σ H s):∀b o,X.base.get? b=some o->s.heap.get? b=some o/\H b=none:=λb o e=>
 ⟨I.base.keep b o (I.ok.bs b o e).1 (I.ok.bs b o e).2 (I.ok.nofr e) (I.ok.noex b o e),I.base.free b o (I.ok.bs b o e).1 (I.ok.bs b o e).2 (I.ok.noex b o e)⟩
theorem Inv.bk (I:Inv X pins σ H s):∀b o,X.base.get? b=some o->s.heap.get? b=some o:=λb o e=>(I.bs b o e).1
theorem Inv.mod (I:Inv X pins σ H s):Mod X.K X.mg X.base:=I.ok.mod
theorem Inv.kIn (I:Inv X pins σ H s):X.K.In s.heap:=I.ok.mod.kin.keeps I.bk
theorem Inv.lt (I:Inv X pins σ H s):X.env.locals<s.heap.objs.size:=let ⟨_,hn,_⟩:=I.loc;hn.lt
theorem Inv.sz (I:Inv X pins σ H s):X.s₀.heap.objs.size<=s.heap.objs.size:=M0 I.ok.above (A3h I.lt)
theorem Inv.nofs (I:Inv X pins σ H s){a:Addr}(h:s.heap.objs.size<=a):a∉X.fs:=λhb=>by
 let⟨_,o,ho,_⟩:=I.ok.funs.mem hb;exact absurd (U1 (K3 ho) (M0 I.sz h)) (A1p _)
theorem Inv.cne (I:Inv X pins σ H s):∀x c,X.env.cells.lookup x=some c->c≠X.env.locals:=λx c e z=>by
 let⟨v,o,ho,hd⟩:=I.cell x c e;let⟨m,⟨o',es,ep,ho',hd',_⟩,_⟩:=I.loc;rw[z,ho'] at ho;cases ho;rw[hd'] at hd;cases hd
theorem Inv.funs (I:Inv X pins σ H s):s.heap.FunFrames X.base X.outer:=by
 have all:∀(l:!Env),(∀b∈frs l,b∈X.fs)->X.s₀.heap.FunFrames X.base l->s.heap.FunFrames X.base l:=by
  intro l
  induction l with
  | nil=>intro _ _;trivial
  | cons env r ih=>intro hs hl;let⟨hk,⟨L,o,hf,hn,ho,hd⟩,hr⟩:=hl;have hL:L∈X.fs:=hs L (by unfold frs;rw[C8d,hf];exact E5);let⟨sl,e⟩:=I.base.slot L o ho (I.ok.frf L hL) hL λz=>I.ok.exfs L z hL;exact⟨hk,⟨L,_,hf,hn,e,hd⟩,ih (λb hb=>hs b (by unfold frs;rw[C8d,hf];exact E3 _ hb)) hr⟩
 exact all X.outer (λJ hb=>hb) I.ok.funs
theorem Inv.stack (I:Inv X pins σ H s):s.heap.FunFrames X.base X.stack:=by
 rcases I.ok.stk with e | ⟨e,hf⟩
 ·rw[e];exact I.funs
 ·rw[e];let⟨m,hn,_⟩:=I.loc;refine .cons (by rw[I.ok.kind];decide) hf hn ?_ I.funs;exact Heap.get?_none_of_le (M0 I.ok.bsz I.ok.above)
theorem Inv.stkSub (I:Inv X pins σ H s):∀b∈frs X.stack,b∈X.env.locals::X.fs:=λb hb=>by
 rcases I.ok.stk with e | ⟨e,hf⟩
 ·rw[e] at hb;exact E3 _ hb
 ·rw[e] at hb;unfold frs at hb;rw[C8d,hf] at hb;exact hb
theorem Inv.stkFree (I:Inv X pins σ H s):∀b∈frs X.stack,H b=none:=λb hb=>by
 rcases K7.mp (I.stkSub b hb) with e | hb
 ·rw[e];exact I.free
 ·let⟨_,o,ho,_⟩:=I.ok.funs.mem hb;exact I.base.free b o ho (I.ok.frf b hb) λz=>I.ok.exfs b z hb
theorem Inv.step {g':Array GenState}{t':Nat}{d':Drawn}{ch:!Addr}(I:Inv X pins σ H s)
  (hch:∀b∈ch,(b∈X.ex\/X.s₀.heap.objs.size<=b)/\b≠X.env.locals/\(∀x c,X.env.cells.lookup x=some c->c≠b)/\∀p∈X.pn++pins,p.1≠b)
  (keep:∀b o,b≠X.env.locals->b∉X.fs->b∉ch->s.heap.get? b=some o->H b=none->h'.get? b=some o)
  (slot:∀b o,b≠X.env.locals->b∈X.fs->b∉ch->s.heap.get? b=some o->H b=none->∃sl,h'.get? b=some { o with slots:=sl }) (free:∀b o,b∉ch->s.heap.get? b=some o->H b=none->H' b=none)
  (there:∀b o,b∉ch->s.heap.get? b=some o->∃o',h'.get? b=some o')
  (tups:∀b xs,H b=some (.tup xs)->H' b=some (.tup xs)) (frzs:∀b o u,H b=some (.frz o u)->H' b=some (.frz o u)) (tbls:∀b ps,H b=some (.tbl ps)->∃more,H' b=some (.tbl (ps++more)))
  (ns:∀m,s.heap.Ns X.env.locals m->h'.Ns X.env.locals m) (hok:HOk X.prog X.w H' h') (hg:AllBare g') :
  Inv X pins σ H' { s with heap:=h',gens:=g',drawn:=d',toks:=t' }:=by
 have neL:∀b o,X.s₀.heap.get? b=some o->b≠X.env.locals:=λb o e=>S5 (U1 (K3 e) I.ok.above);have neC:∀b o,X.s₀.heap.get? b=some o->b∉X.ex->b∉ch:=λb o e hx hb=>by
  rcases (hch b hb).1 with z | z
  ·exact hx z
  ·exact absurd (U1 (K3 e) z) (A1p _)
 have cellK:∀x c,X.env.cells.lookup x=some c->∀v,s.heap.IsCell c v->h'.IsCell c v:=λx c e v zz1=>el2 zz1 λo ho hd=>by
  have nch:c∉ch:=λz=>(hch c z).2.2.1 x c e rfl;by_cases hc:c∈X.fs
  ·let⟨sl,q⟩:=slot c o (I.cne x c e) hc nch ho (I.freeC x c e);exact⟨_,q,hd⟩
  ·exact⟨o,keep c o (I.cne x c e) hc nch ho (I.freeC x c e),hd⟩
 refine⟨I.ok,I.os,hg,⟨λb o e n hb hx=>?_,λb o e n hb hx=>?_,λb o e n hx=>?_,λb o e hx=>?_,λb xs e=>tups b xs (I.base.tups b xs e),λb o xs e=>frzs b o xs (I.base.frzs b o xs e),λb ps e=>?_⟩,?_,λx c e=>?_,?_,λx c e=>?_,λp hp=>?_,hok,I.len⟩
 ·exact keep b o (neL b o e) hb (neC b o e hx) (I.base.keep b o e n hb hx) (I.base.free b o e n hx)
 ·let⟨sl,e1⟩:=I.base.slot b o e n hb hx;let⟨sl',e2⟩:=slot b _ (neL b o e) hb (neC b o e hx) e1 (I.base.free b o e n hx);exact⟨sl',e2⟩
 ·let⟨o',e1⟩:=I.base.there b o e hx;exact free b o' (neC b o e hx) e1 (I.base.free b o e n hx)
 ·let⟨o',e1⟩:=I.base.there b o e hx;exact there b o' (neC b o e hx) e1
 ·let⟨m1,e1⟩:=I.base.tbls b ps e;let⟨m2,e2⟩:=tbls b _ e1;exact⟨m1++m2,by rw[e2,Array.append_assoc]⟩
 ·let⟨m,hn,hl⟩:=I.loc;refine⟨m,ns m hn,λi x v e1 e2 e3=>?_⟩;let⟨u,r,l⟩:=hl i x v e1 e2 e3;exists u,r;rcases l with l | ⟨k,c,e,z⟩
  ·exact .inl l
  ·exact .inr ⟨k,c,e,cellK x c e _ z⟩
 ·let⟨v,z⟩:=I.cell x c e;exact⟨v,cellK x c e v z⟩
 ·let⟨m,⟨o,_,_,ho,_⟩,_⟩:=I.loc;exact free _ o (λz=>(hch _ z).2.1 rfl) ho I.free
 ·let⟨v,o,ho,hd⟩:=I.cell x c e;exact free c o (λz=>(hch c z).2.2.1 x c e rfl) ho (I.freeC x c e)
 ·let⟨e,n,ne,nf,d⟩:=I.pin p hp;have nch:p.1∉ch:=λz=>(hch p.1 z).2.2.2 p hp rfl;exact⟨keep p.1 p.2 ne nf nch e n,free p.1 p.2 nch e n,ne,nf,d⟩
theorem Inv.un {t':Nat}(I:Inv X pins σ H s)(u:Un X.fs [] H H' s.heap h')(hok:HOk X.prog X.w H' h'):Inv X pins σ H' { s with heap:=h',toks:=t' }:=by
 let⟨m,⟨o,es,ep,ho,r⟩,_⟩:=id I.loc;let⟨sl,hL⟩:=u.any ho I.free (by simp);exact I.step (g':=s.gens) (d':=s.drawn) (ch:=[]) (λJ z=>nomatch z) (λb o J hb J e n=>u.keep b o e n hb (by simp)) (λb o J hb J e n=>u.slot b o e n hb (by simp)) (λb o J e n=>u.free b o e n (by simp)) (λb o J e=>u.there b o e (by simp)) u.tups u.frzs u.tbls (λm' hm=>by
  let⟨o',es',ep',ho',r'⟩:=hm;rw[ho] at ho';cases ho';exact⟨_,es',ep',hL,r'⟩) hok I.bare
theorem Inv.call {g':Array GenState}{t':Nat}{d':Drawn}{ch:!Addr}(I:Inv X pins σ H s)(u:Un (frs X.stack) ch H H' s.heap h')(hok:HOk X.prog X.w H' h')(hg:AllBare g')
  (hch:∀b∈ch,(b∈X.ex\/X.s₀.heap.objs.size<=b)/\b≠X.env.locals/\(∀x c,X.env.cells.lookup x=some c->c≠b)/\∀p∈X.pn++pins,p.1≠b) :
  Inv X pins σ H' { s with heap:=h',gens:=g',drawn:=d',toks:=t' }:=by
 let⟨m,⟨o,es,ep,ho,r⟩,_⟩:=id I.loc;let⟨sl,hL⟩:=u.any ho I.free λz=>(hch _ z).2.1 rfl;exact I.step (ch:=ch) hch (λb o hL hb hc e n=>u.keep b o e n (λz=>(K7.mp (I.stkSub b z)).elim hL hb) hc) (λb o J J hc e n=>u.any e n hc) (λb o hc e n=>u.free b o e n hc) (λb o hc e=>u.there b o e hc) u.tups u.frzs u.tbls (λm' hm=>by
  let⟨o',es',ep',ho',r'⟩:=hm;rw[ho] at ho';cases ho';exact⟨_,es',ep',hL,r'⟩) hok hg
theorem Inv.turned {t':Nat}{it:Addr}(I:Inv X pins σ H s)(k:∀b o,b≠it->s.heap.get? b=some o->h'.get? b=some o)(hn:H it=none)(hL:it≠X.env.locals)
  (h1:it∈X.ex\/X.s₀.heap.objs.size<=it) (h2:∀x c,X.env.cells.lookup x=some c->c≠it) (h3:∀p∈X.pn++pins,p.1≠it):Inv X pins σ H { s with heap:=h',toks:=t' }:=by
 have nit:∀b u,H b=some u->b≠it:=λb u e z=>by rw[z,hn] at e;cases e
 refine I.step (g':=s.gens) (d':=s.drawn) (ch:=[it]) (λb hb=>?_) (λb o J J hc e J=>k b o (λz=>hc (by simp [z])) e) (λb o J J hc e J=>⟨o.slots,k b o (λz=>hc (by simp [z])) e⟩) (λJ J J J n=>n)
  (λb o hc e=>⟨o,k b o (λz=>hc (by simp [z])) e⟩) (λJ J e=>e) (λJ J J e=>e) (λb ps e=>⟨#[],by rw[e];simp⟩) (λm hm=>?_) (λb u e=>?_) I.bare
 ·have e:b=it:=by simpa using hb
  subst e;exact⟨h1,hL,h2,h3⟩
 ·let⟨o,es,ep,ho,r⟩:=hm;exact⟨o,es,ep,k _ o (Ne.symm hL) ho,r⟩
 ·refine (I.hok b u e).stay (λc v hc q=>k c v ?_ q) (λJ q=>q) λJ J q=>q;rcases hc with z | z
  ·rw[z];exact nit b u e
  ·exact nit c _ z
theorem Inv.tok (I:Inv X pins σ H s)(t:Nat):Inv X pins σ H { s with toks:=t }:=I.un (h':=s.heap) (t':=t) Un.refl I.hok
theorem Inv.kept {t':Nat}(I:Inv X pins σ H s)(k:∀b u,s.heap.get? b=some u->h'.get? b=some u):Inv X pins σ H { s with heap:=h',toks:=t' }:=I.un (Un.kept k) (I.hok.kept k)
theorem Inv.laid {a:Addr}{o:HO}{t':Nat}(I:Inv X pins σ H s)(k:∀b u,s.heap.get? b=some u->h'.get? b=some u)(hp:s.heap.objs.size<=a)(new:N3 X.prog X.w (upd H a o) h' a o) :
  Inv X pins σ (upd H a o) { s with heap:=h',toks:=t' }:=I.un (Un.laid k hp (I.hok.fresh hp)) (I.hok.laid k hp new)
theorem Inv.write {x e:Addr}{o:HO}{t':Nat}(I:Inv X pins σ H s)(mu:Mut (H x))(he:e=x\/H e=some (.own x))(k:∀b u,b≠e->s.heap.get? b=some u->h'.get? b=some u)(heo:∃u,h'.get? e=some u)
  (new:N3 X.prog X.w (upd H x o) h' x o):Inv X pins σ (upd H x o) { s with heap:=h',toks:=t' }:=I.un (Un.write mu he k heo) (I.hok.write mu he k heo new)
theorem Inv.weak {σ':!(Option V)}(I:Inv X pins σ H s)(hl:σ'.length=σ.length)(w:∀(i:Nat) v,σ'[i]?=some (some v)->σ[i]?=some (some v)):Inv X pins σ' H s:=
 ⟨I.ok,I.os,I.bare,I.base,let ⟨m,hn,hl'⟩:=I.loc;⟨m,hn,λi x v e1 e2 e3=>hl' i x v e1 (w i v e2) e3⟩,I.cell,I.free,I.freeC,I.pin,I.hok,hl.trans I.len⟩
theorem Inv.pins_of {pins':!(Addr×Obj)}(I:Inv X pins σ H s)(h:∀p∈pins',s.heap.get? p.1=some p.2/\H p.1=none/\p.1≠X.env.locals/\p.1∉X.fs/\∀v,p.2.data≠.cell v):Inv X pins' σ H s:=
 ⟨I.ok,I.os,I.bare,I.base,I.loc,I.cell,I.free,I.freeC,λp hp=>(p7.mp hp).elim (λz=>I.pin p (C8e _ z)) (h p),I.hok,I.len⟩
theorem B1n {N:!Str}(hN:N.Nodup){i j:Nat}{x:Str}(a:N[i]?=some x)(b:N[j]?=some x):i=j:=by
 let⟨h1,e1⟩:=X4.mp a;let⟨h2,e2⟩:=X4.mp b;exact (List.getElem_inj hN).mp (e1.trans e2.symm)
theorem C03 {M:Model}{A:Around}{E:Value->Shared->Prop}{i:Nat}{x:Str}{v:V}{u:Value}{Q:Unit->Shared->Prop}(I:Inv X pins σ H s)(hN:X.N.Nodup)(hi:X.N[i]?=some x)(hx:Loc X.env.scope x)(r:F1 v u)
  (h:∀s',Inv X pins (σ.set i (some v)) H s'->(∃a,Heap.SameBut a s.heap s'.heap/\(a=X.env.locals\/X.env.cells.lookup x=some a))->Q () s') (hf:autoParam (X.fn x=true\/X.env.scope.names.lookup x=some .local) A0P._auto_1):wpAny M A (storeName X.env x u) Q E s:=by
 let⟨m,hn,hl⟩:=id I.loc;have hcls:(X.env.scope.kind == .class||(X.env.scope.kind == .module&&X.env.locals != X.env.globals))=false:=by rw[I.ok.kind];rfl
 have hiσ:i<σ.length:=by rw[I.len];exact (X4.mp hi).1
 have cne:=I.cne;have tracked:∀{a:Addr}{h':Heap},(∃o,s.heap.get? a=some o/\H a=none)->Heap.SameBut a s.heap h'->HOk X.prog X.w H h':=λ{a h'} ha hs b ob e=>by
  let⟨_,_,hfree⟩:=ha;refine (I.hok b ob e).stay (λc w' hc q=>(hs.2 c ?_).trans q) (λJ q=>q) λJ J q=>q;rintro rfl;rcases hc with rfl | hc
  ·rw[hfree] at e;cases e
  ·rw[hfree] at hc;cases hc
 rcases hx with hk | hk
 ·refine wpAny_storeName_local hk hn (λh' hn' hs=>?_) hcls;let⟨oL,_,_,hoL,_⟩:=id hn;refine h _ ⟨I.ok,I.os,I.bare,⟨λb o e n hb hx=>?_,λb o e n hb hx=>?_,I.base.free,λb o e hx=>?_,I.base.tups,I.base.frzs,I.base.tbls⟩,⟨_,hn',λj y v' e1 e2 e3=>?_⟩,λy c e=>?_,I.free,I.freeC,λp hp=>?_,tracked ⟨oL,hoL,I.free⟩ hs,by simpa using I.len⟩ ⟨_,hs,.inl rfl⟩
  ·exact (hs.2 b (S5 (U1 (K3 e) I.ok.above))).trans (I.base.keep b o e n hb hx)
  ·let⟨sl,e1⟩:=I.base.slot b o e n hb hx;exact⟨sl,(hs.2 b (S5 (U1 (K3 e) I.ok.above))).trans e1⟩
  ·let⟨o',e1⟩:=I.base.there b o e hx;exact⟨o',(hs.2 b (S5 (U1 (K3 e) I.ok.above))).trans e1⟩
  ·by_cases hj:j=i
   ·subst hj;rw[hi] at e1;cases e1;rw[List.getElem?_set_self hiσ] at e2;cases e2;exact⟨u,r,.inl ⟨hk,by simp⟩⟩
   ·rw[A2e (Ne.symm hj)] at e2;let⟨u',r',q⟩:=hl j y v' e1 e2 e3;exists u',r';rcases q with ⟨k,e⟩ | ⟨k,c,e,z⟩
    ·refine .inl ⟨k,?_⟩;have:y≠x:=λe=>hj (B1n hN e1 (e▸hi));simp [this,e]
    ·exact .inr ⟨k,c,e,z.sameBut hs (cne y c e)⟩
  ·let⟨w',z⟩:=I.cell y c e;exact⟨w',z.sameBut hs (cne y c e)⟩
  ·let⟨e,n,ne,nf,d⟩:=I.pin p hp;exact⟨(hs.2 p.1 ne).trans e,n,ne,nf,d⟩
 ·have hfn:X.fn x=true:=by
   rcases hf with z | z
   ·exact z
   ·rw[z] at hk;cases hk
  let⟨c,hc⟩:=I.ok.has x (.inl hk);let⟨w',z⟩:=I.cell x c hc;refine wpAny_storeName_cell I.ok.kind hk hc z (λh' hc' hs=>?_);let⟨oc,hoc,hocd⟩:=id z;refine h { s with heap:=h' } ⟨I.ok,I.os,I.bare,⟨λb o e n hb hx=>?_,λb o e n hb hx=>?_,I.base.free,λb o e hx=>?_,I.base.tups,I.base.frzs,I.base.tbls⟩,⟨m,hn.sameBut hs (Ne.symm (cne x c hc)),λj y v' e1 e2 e3=>?_⟩,λy c' e=>?_,I.free,I.freeC,λp hp=>?_,tracked ⟨oc,hoc,I.freeC x c hc⟩ hs,by simpa using I.len⟩ ⟨c,hs,.inr hc⟩
  ·exact (hs.2 b (S5 (U1 (K3 e) (I.ok.cab x c hfn hc)))).trans (I.base.keep b o e n hb hx)
  ·let⟨sl,e1⟩:=I.base.slot b o e n hb hx;exact⟨sl,(hs.2 b (S5 (U1 (K3 e) (I.ok.cab x c hfn hc)))).trans e1⟩
  ·let⟨o',e1⟩:=I.base.there b o e hx;exact⟨o',(hs.2 b (S5 (U1 (K3 e) (I.ok.cab x c hfn hc)))).trans e1⟩
  ·by_cases hj:j=i
   ·subst hj;rw[hi] at e1;cases e1;rw[List.getElem?_set_self hiσ] at e2;cases e2;exact⟨u,r,.inr ⟨.inl hk,c,hc,hc'⟩⟩
   ·rw[A2e (Ne.symm hj)] at e2;let⟨u',r',q⟩:=hl j y v' e1 e2 e3;exists u',r';rcases q with q | ⟨k,c',e,z'⟩
    ·exact .inl q
    ·refine .inr ⟨k,c',e,z'.sameBut hs ?_⟩;rintro rfl;exact hj (B1n hN e1 (I.ok.inj _ _ _ e hc▸hi))
  ·by_cases hcc:c'=c
   ·subst hcc;exact⟨_,hc'⟩
   ·let⟨w2,z2⟩:=I.cell y c' e;exact⟨w2,z2.sameBut hs hcc⟩
  ·let⟨e,n,ne,nf,d⟩:=I.pin p hp;refine⟨(hs.2 p.1 ?_).trans e,n,ne,nf,d⟩;intro q;rw[q,hoc] at e;have q':oc=p.2:=Option.some.inj e;exact d w' (by rw[<-q'];exact hocd)
theorem B1o {M:Model}{A:Around}{E:Value->Shared->Prop}{i:Nat}{x:Str}{v:V}{u:Value}{Q:Unit->Shared->Prop}(I:Inv X pins σ H s)(hN:X.N.Nodup)(hi:X.N[i]?=some x)(hx:Loc X.env.scope x)(r:F1 v u)
  (h:∀s',Inv X pins (σ.set i (some v)) H s'->Q () s') (hf:autoParam (X.fn x=true\/X.env.scope.names.lookup x=some .local) A0P._auto_1):wpAny M A (storeName X.env x u) Q E s:=
 C03 I hN hi hx r (λs' I' J=>h s' I') hf
theorem Inv.call' {s':Shared}{ch:!Addr}(I:Inv X pins σ H s)(ho:s'.os=s.os)(u:Un (frs X.stack) ch H H' s.heap s'.heap)(hok:HOk X.prog X.w H' s'.heap)(hg:AllBare s'.gens)
  (hch:∀b∈ch,(b∈X.ex\/X.s₀.heap.objs.size<=b)/\b≠X.env.locals/\(∀x c,X.env.cells.lookup x=some c->c≠b)/\∀p∈X.pn++pins,p.1≠b):Inv X pins σ H' s':=by
 let⟨h',g',d',t',o'⟩:=s';have e:o'=s.os:=ho;subst e;exact I.call (g':=g') (t':=t') (d':=d') u hok hg hch
end
abbrev XK:=Value->Option Addr->Hp->Prop
abbrev St:=!(Option V)
abbrev VK:=V->Hp->Prop
abbrev TE:=St->Hp->VK->Prop
abbrev TT:=St->Hp->(Bool->Hp->Prop)->Prop
abbrev TA:=St->Hp->(!V->Hp->Prop)->Prop
structure A0x where
 nx:St->Hp->Prop
 rt:VK
 bk:St->Hp->Prop:=λ_ _=>False
 ct:St->Hp->Prop:=λ_ _=>False
abbrev TS:=A0x->St->Hp->Prop
def EP (X:Cx)(pins:!(Addr×Obj))(σ:St)(Q:VK)(u:Value)(s':Shared):Prop:=∃v H',Inv X pins σ H' s'/\F1 v u/\Q v H'
def TP (X:Cx)(pins:!(Addr×Obj))(σ:St)(Q:Bool->Hp->Prop)(b:Bool)(s':Shared):Prop:=∃H',Inv X pins σ H' s'/\Q b H'
def AP (X:Cx)(pins:!(Addr×Obj))(σ:St)(Q:!V->Hp->Prop)(us:!Value)(s':Shared):Prop:=∃vs H',Inv X pins σ H' s'/\E1 vs us/\Q vs H'
def SP (X:Cx)(pins:!(Addr×Obj))(D:A0x)(f:Flow)(s':Shared):Prop:=
 match f with
 | .next=>∃σ' H',Inv X pins σ' H' s'/\D.nx σ' H'
 | .brk=>∃σ' H',Inv X pins σ' H' s'/\D.bk σ' H'
 | .cont=>∃σ' H',Inv X pins σ' H' s'/\D.ct σ' H'
 | .ret u=>∃v σ' H',Inv X pins σ' H' s'/\F1 v u/\D.rt v H'
def PE (X:Cx)(e:Expr)(t:TE):Prop:=
 ∀(pins:!(Addr×Obj))(s:Shared)(σ:St)(H:Hp)(Q:VK),Inv X pins σ H s->t σ H Q->wpAny (model X.prog X.w) X.A (eval e X.env) (EP X pins σ Q) X.xe s
def PT (X:Cx)(e:Expr)(t:TT):Prop:=
 ∀(pins:!(Addr×Obj))(s:Shared)(σ:St)(H:Hp)(Q:Bool->Hp->Prop),Inv X pins σ H s->t σ H Q->wpAny (model X.prog X.w) X.A (isTrue e X.env (eval e X.env)) (TP X pins σ Q) X.xe s
def PW (X:Cx)(e:Expr)(t:TT):Prop:=
 ∀(whole:Sem Value)(pins:!(Addr×Obj))(s:Shared)(σ:St)(H:Hp)(Q:Bool->Hp->Prop),Inv X pins σ H s->t σ H Q->wpAny (model X.prog X.w) X.A (isTrue e X.env whole) (TP X pins σ Q) X.xe s
theorem PW.pt {X:Cx}{e:Expr}{t:TT}(h:PW X e t):PT X e t:=h _
def PA (X:Cx)(es:!Expr)(t:TA):Prop:=
 ∀(pos:Pos)(pins:!(Addr×Obj))(s:Shared)(σ:St)(H:Hp)(Q:!V->Hp->Prop),Inv X pins σ H s->t σ H Q->wpAny (model X.prog X.w) X.A (spliced (backTo pos (starEach es X.env))) (AP X pins σ Q) X.xe s
def PS (X:Cx)(st:Stmt)(t:TS):Prop:=
 ∀(pins:!(Addr×Obj))(s:Shared)(σ:St)(H:Hp)(D:A0x),Inv X pins σ H s->t D σ H->wpAny (model X.prog X.w) X.A (exec st X.env) (SP X pins D) X.xe s
def PSs (X:Cx)(st:!Stmt)(t:TS):Prop:=
 ∀(pins:!(Addr×Obj))(s:Shared)(σ:St)(H:Hp)(D:A0x),Inv X pins σ H s->t D σ H->wpAny (model X.prog X.w) X.A (execs st X.env) (SP X pins D) X.xe s
theorem thn {α:Type}{t:Sem α}{Q Q':α->Shared->Prop}{M:Model}{A:Around}{E:Value->Shared->Prop}{s:Shared}(h:wpAny M A t Q E s)(hQ:∀a s,Q a s->Q' a s):wpAny M A t Q' E s:=wpAny_mono h hQ λJ J x=>x
variable {ta tb:TE}{pos:Pos}
section
def A0g (i:Nat):TE:=fun σ H Q=>∃v,σ[i]?=some (some v)/\Q v H
def tC (v:V):TE:=λJ H Q=>Q v H
theorem C85 {i:Nat}{x:Str}{pos:Pos}(hN:X.N[i]?=some x)(hv:Vis X.env.scope x)(hd:autoParam ((x == ("__debug__" : Str))=false) DD._auto_1)(hcd:autoParam ((x == ("__classdict__" : Str))=false) DD._auto_1):PE X (.Name x pos) (A0g i):=by
 intros Q I h;let⟨v,e,h⟩:=h;let⟨m,hn,hl⟩:=I.loc;let⟨u,r,l⟩:=hl i x v hN e hv;have fin:EP X pins σ Q u s:=⟨v,H,I,r,h⟩;rcases l with ⟨hk,hm⟩ | ⟨hk,c,hc,hcell⟩
 ·exact wpAny_Name (wpAny_loadName_local I.ok.kind hk hn hm fin) hd
 ·rcases hk with hk | hk
  ·exact wpAny_Name (wpAny_loadName_cell I.ok.kind hk hc hcell fin) hd
  ·exact wpAny_Name (wpAny_loadName_free I.ok.kind hk hc hcell fin hcd) hd
theorem B4 {i j pos}:PE X (.Constant (.int i) j pos) (tC (.int i)):=λJ J J H J I h=>wpAny_Constant_int ⟨.int i,H,I.tok _,⟨_,rfl⟩,h⟩
theorem A48 {b j pos}:PE X (.Constant (.bool b) j pos) (tC (.bl b)):=λJ J J H J I h=>Constant_bool ⟨.bl b,H,I,rfl,h⟩
theorem A1x {j pos}:PE X (.Constant .none j pos) (tC .non):=λJ J J H J I h=>Constant_none ⟨.non,H,I,rfl,h⟩
theorem F9 {x j pos}:PE X (.Constant (.str x) j pos) (tC (.str x)):=λJ J J H J I h=>Calls.Constant_str ⟨.str x,H,I.tok _,⟨_,rfl⟩,h⟩
def Gl (X:Cx)(x:Str):Prop:=X.env.kindOf x=some .globalImplicit
theorem B1p {E:Value->Shared->Prop}{pins:!(Addr×Obj)}{s:Shared}{σ:St}{H:Hp}{x:Str}{u:Value}{pos:Pos}{Q:Value->Shared->Prop}(I:Inv X pins σ H s)(hg:Gl X x)(hm:X.mg x=some u)(h:Q u s)
  (hd:autoParam ((x == ("__debug__" : Str))=false) DD._auto_1):wpAny (model X.prog X.w) X.A (eval (.Name x pos) X.env) Q E s:=
 Calls.Name_function_global I.ok.kind hg (Calls.loadGlobal_global (by rw[I.ok.glob];exact I.mod.glob.keeps I.bk) hm h) hd
theorem A1y {E:Value->Shared->Prop}{pins:!(Addr×Obj)}{s:Shared}{σ:St}{H:Hp}{x:Str}{u:Value}{pos:Pos}{Q:Value->Shared->Prop}(I:Inv X pins σ H s)(hg:Gl X x)(hm:X.mg x=none)(hv:bootBuiltins x=some u)(h:Q u s)
  (hn:autoParam (x≠ "__name__" ) DD._auto_1) (hd:autoParam ((x == ("__debug__" : Str))=false) DD._auto_1):wpAny (model X.prog X.w) X.A (eval (.Name x pos) X.env) Q E s:=by
 let⟨mb,h1,h2⟩:=I.mod.blt;exact Calls.Name_function_global I.ok.kind hg (Calls.loadGlobal_builtin (by rw[I.ok.glob];exact I.mod.glob.keeps I.bk) hm (by rw[I.ok.blt];exact h1.keeps I.bk) ((h2 x hn).trans hv) h) hd
theorem D0 {x:Str}{v:V}{u:Value}{pos:Pos}(hg:Gl X x)(hm:X.mg x=some u)(r:F1 v u)(hd:autoParam ((x == ("__debug__" : Str))=false) DD._auto_1):PE X (.Name x pos) (tC v):=
 λJ J J H J I h=>B1p I hg hm ⟨v,H,I,r,h⟩ hd
theorem A7p {x:Str}{v:V}{u:Value}{pos:Pos}(hg:Gl X x)(hm:X.mg x=none)(hv:bootBuiltins x=some u)(r:F1 v u)(hn:autoParam (x≠ "__name__" ) DD._auto_1)(hd:autoParam ((x == ("__debug__" : Str))=false) DD._auto_1):PE X (.Name x pos) (tC v):=
 λJ J J H J I h=>A1y I hg hm hv ⟨v,H,I,r,h⟩ hn hd
variable {a b:Expr}
def PC (X:Cx)(op:CmpOp)(a b:Expr)(t:TE):Prop:=
 ∀(pins:!(Addr×Obj))(s:Shared)(σ:St)(H:Hp)(Q:VK),Inv X pins σ H s->t σ H Q->
  wpAny (model X.prog X.w) X.A (eval a X.env) (λv s₁=>wpAny (model X.prog X.w) X.A (eval b X.env) (λu s₂=>wpAny (model X.prog X.w) X.A (compareOp op v u) (EP X pins σ Q) X.xe s₂) X.xe s₁) X.xe s
def tB (t:TE):TT:=fun σ H Q=>t σ H λx H1=>∃c,x=.bl c/\Q c H1
theorem C04 {op:CmpOp}{t:TE}(h:PC X op a b t)(h1:behindInMarks op b=false:=by first | exact nobehind _ DD DD | rfl):PT X (.Compare a [op] [b] pos) (tB t):=by
 intros Q I hw;refine wpAny_isTrue_Compare1 (thn (h pins s σ H _ I hw) λv s1 h1=>thn h1 λu s2 h2=>thn h2 λc s3 zz6=>el5 zz6 λx H1 I1 r1 q1=>?_) h1;let⟨d,rfl,q⟩:=q1;cases r1;exact wpAny_truthy_bool ⟨H1,I1,q⟩
theorem W6 {e:Expr}{t:TE}(h:PE X e t)(he:autoParam (∀whole,isTrue e X.env whole=(do let v <-whole;standAt e.pos;holding [v] (truthy v))) A2P._auto_1):PT X e (tB t):=by
 intros Q I hw;refine isTrue_plain (thn (h pins s σ H _ I hw) λv s1 zz7=>el5 zz7 λx H1 I1 r1 q1=>?_) (he _);let⟨d,rfl,q⟩:=q1;cases r1;exact wpAny_truthy_bool ⟨H1,I1,q⟩
variable {tA tB':TT}{V6:!Expr}
def C86 (t u:TT):TT:=fun σ H Q=>t σ H λc H1=>if c=true then u σ H1 Q else Q false H1
def tOr (t u:TT):TT:=fun σ H Q=>t σ H λc H1=>if c=true then Q true H1 else u σ H1 Q
def C87 (t:TT):TT:=fun σ H Q=>t σ H λc H1=>Q (not c) H1
theorem B1q (ha:PT X a tA):PW X (.BoolOp .And [a] pos) tA:=by
 intro wh pins s σ H Q I h;refine isTrue_and (thn (ha pins s σ H Q I h) λc s1 e=>?_);cases c with
 | true=>exact isTrue_and_nil e
 | false=>exact e
theorem A3o (ha:PT X a tA):PW X (.BoolOp .Or [a] pos) tA:=by
 intro wh pins s σ H Q I h;refine isTrue_or (thn (ha pins s σ H Q I h) λc s1 e=>?_);cases c with
 | false=>exact isTrue_or_nil e
 | true=>exact e
theorem B1r (ha:PT X a tA)(hb:PW X (.BoolOp .And (b::V6) pos) tB'):PW X (.BoolOp .And (a::b::V6) pos) (C86 tA tB'):=by
 intro wh pins s σ H Q I h;refine isTrue_and (thn (ha pins s σ H _ I h) λc s1 zz8=>el2 zz8 λH1 I1 q1=>?_);cases c with
 | true=>exact hb wh pins s1 σ H1 Q I1 q1
 | false=>exact⟨H1,I1,q1⟩
theorem A3p (ha:PT X a tA)(hb:PW X (.BoolOp .Or (b::V6) pos) tB'):PW X (.BoolOp .Or (a::b::V6) pos) (tOr tA tB'):=by
 intro wh pins s σ H Q I h;refine isTrue_or (thn (ha pins s σ H _ I h) λc s1 zz9=>el2 zz9 λH1 I1 q1=>?_);cases c with
 | true=>exact⟨H1,I1,q1⟩
 | false=>exact hb wh pins s1 σ H1 Q I1 q1
theorem U8 (ha:PT X a tA):PT X (.UnaryOp .Not a pos) (C87 tA):=by
 intros Q I h;exact isTrue_not (ha pins s σ H (λc H1=>Q (not c) H1) I h)
def C88 (ta tb:TE):TE:=fun σ H Q=>ta σ H λx H1=>∃c,x=.bl c/\if c=true then tb σ H1 Q else Q (.bl false) H1
def C89 (ta tb:TE):TE:=fun σ H Q=>ta σ H λx H1=>∃c,x=.bl c/\if c=true then Q (.bl true) H1 else tb σ H1 Q
def C9a (ta:TE):TE:=fun σ H Q=>ta σ H λx H1=>∃c,x=.bl c/\Q (.bl (not c)) H1
theorem B1s {op}{t:TE}(h:PE X a t):PE X (.BoolOp op [a] pos) t:=λpins s σ H Q I hw=>BoolOp_one (h pins s σ H Q I hw)
theorem B4u (ha:PE X a ta)(hb:PE X (.BoolOp .And (b::V6) pos) tb):PE X (.BoolOp .And (a::b::V6) pos) (C88 ta tb):=by
 intros Q I h;refine BoolOp_and (thn (ha pins s σ H _ I h) λv s1 zz10=>el5 zz10 λx H1 I1 r1 q1=>?_);let⟨c,rfl,q1⟩:=q1;cases r1;refine wpAny_truthy_bool ?_;cases c with
 | true=>exact hb pins s1 σ H1 Q I1 q1
 | false=>exact⟨.bl false,H1,I1,rfl,q1⟩
theorem C05 (ha:PE X a ta)(hb:PE X (.BoolOp .Or (b::V6) pos) tb):PE X (.BoolOp .Or (a::b::V6) pos) (C89 ta tb):=by
 intros Q I h;refine BoolOp_or (thn (ha pins s σ H _ I h) λv s1 zz11=>el5 zz11 λx H1 I1 r1 q1=>?_);let⟨c,rfl,q1⟩:=q1;cases r1;refine wpAny_truthy_bool ?_;cases c with
 | false=>exact hb pins s1 σ H1 Q I1 q1
 | true=>exact⟨.bl true,H1,I1,rfl,q1⟩
theorem C9b (ha:PE X a ta):PE X (.UnaryOp .Not a pos) (C9a ta):=by
 intros Q I h;refine UnaryOp_ (thn (ha pins s σ H _ I h) λv s1 zz12=>el5 zz12 λx H1 I1 r1 q1=>?_);let⟨c,rfl,q1⟩:=q1;cases r1;exact not_of (wpAny_truthy_bool ⟨.bl (not c),H1,I1,rfl,q1⟩)
def tIf (t:TT)(ta tb:TE):TE:=fun σ H Q=>t σ H λc H1=>if c=true then ta σ H1 Q else tb σ H1 Q
theorem A7q {c:Expr}(hc:PT X c tA)(ha:PE X a ta)(hb:PE X b tb):PE X (.IfExp c a b pos) (tIf tA ta tb):=by
 intros Q I h;refine wpAny_IfExp (thn (hc pins s σ H _ I h) λd s1 zz13=>el2 zz13 λH1 I1 q1=>?_);cases d with
 | true=>exact ha pins s1 σ H1 Q I1 q1
 | false=>exact hb pins s1 σ H1 Q I1 q1
end
def SqL (K:A8)(H:Hp)(a:Addr)(xs:!V):Prop:=
 Rd H a (.lst xs)\/
  ∃(o:Obj)(its:Array Value)(n:Nat),K.lookup a=some o/\o.cls=.type "list" /\o.dict=none/\o.data=.seq its n/\its.size<=sizeLine/\E1 xs its.toList
def SqT (K:A8)(H:Hp)(a:Addr)(xs:!V):Prop:=
 Rd H a (.tup xs)\/
  ∃(o:Obj)(its:Array Value)(n:Nat),K.lookup a=some o/\o.cls=.type "tuple" /\o.data=.seq its n/\its.size<=sizeLine/\E1 xs its.toList
def C9c:Value->Option V
 | .none=>some .non
 | .bool b=>some (.bl b)
 | .int i _=>some (.int i)
 | .str x _=>some (.str x)
 | .bytes b _=>some (.byt b)
 | .float b _=>some (.flt b)
 | .ref a=>some (.ref a)
 | .type n=>some (.ty n)
 | _=>none
theorem F1.abs {x:V}{u:Value}(r:F1 x u):C9c u=some x:=by
 cases x with
 | non=>cases r;rfl
 | bl _=>cases r;rfl
 | int _=>let⟨t,rfl⟩:=r;rfl
 | str _=>let⟨t,rfl⟩:=r;rfl
 | byt _=>let⟨t,rfl⟩:=r;rfl
 | flt _=>let⟨t,rfl⟩:=r;rfl
 | ref _=>cases r;rfl
 | ty _=>cases r;rfl
theorem F1.inj {x y:V}{u:Value}(r:F1 x u)(q:F1 y u):x=y:=Option.some.inj (r.abs.symm.trans q.abs)
theorem E1.inj {xs ys:!V}{us:!Value}(h:E1 xs us)(k:E1 ys us):xs=ys:=by
 induction h generalizing ys with
 | nil=>cases k;rfl
 | cons r t ih=>
  cases k with
  | cons r' t'=>rw[r.inj r',ih t']
variable {σ:St}
section
variable {xs ys:!V}
theorem SqL.of {K:A8}(h:H a=some (.lst xs)):SqL K H a xs:=.inl (.inl h)
theorem SqT.of {K:A8}(h:H a=some (.tup xs)):SqT K H a xs:=.inl (.inl h)
theorem Inv.list (I:Inv X pins σ H s)(h:SqL X.K H a xs):∃its:!Value,E1 xs its/\PlainL s.heap a its.toArray/\xs.length<=sizeLine:=by
 rcases h with h | ⟨o,its,n,hk,hc,hd,hs,hz,r⟩
 ·let⟨z,its,n,r,e⟩:=h.ok I.hok;exact⟨its,r,⟨_,n,e,rfl,rfl,rfl⟩,z⟩
 ·refine⟨its.toList,r,⟨o,n,I.kIn a o hk,hc,hd,by simpa using hs⟩,?_⟩;have e:=r.length;simp only[A7e] at e;omega
theorem Inv.tuple (I:Inv X pins σ H s)(h:SqT X.K H a xs):∃its:!Value,E1 xs its/\IsTup s.heap a its.toArray/\xs.length<=sizeLine:=by
 rcases h with h | ⟨o,its,n,hk,hc,hs,hz,r⟩
 ·let⟨z,its,r,p⟩:=h.ok I.hok;exact⟨its,r,p,z⟩
 ·refine⟨its.toList,r,⟨o,I.kIn a o hk,hc,n,by simpa using hs⟩,?_⟩;have e:=r.length;simp only[A7e] at e;omega
theorem Inv.list_inj (I:Inv X pins σ H s)(h:SqL X.K H a xs)(h':SqL X.K H a ys):xs=ys:=by
 let⟨its,r,⟨o,n,e,_,_,d⟩,_⟩:=I.list h;let⟨its',r',⟨o',n',e',_,_,d'⟩,_⟩:=I.list h';rw[e] at e';cases e';rw[d] at d';injection d' with d1 _
 have:its=its':=by simpa using congrArg Array.toList d1
 subst this;exact r.inj r'
end
abbrev Cx.wish (X:Cx)(E:Value->Shared->Prop):Cx:={ X with xe:=E }
abbrev Cx.nox (X:Cx):Cx:=X.wish λJ J=>False
theorem Cx.Ok.wish {X:Cx}(ok:X.Ok)(E:Value->Shared->Prop):(X.wish E).Ok:=
 ⟨ok.mod,ok.kind,ok.glob,ok.blt,ok.above,ok.inj,ok.has,ok.cab,ok.hd,ok.frames,ok.stk,ok.exf,ok.bs,ok.bsz,ok.noex,ok.exfs,ok.funs,ok.frf⟩
theorem Cx.Ok.unwish {X:Cx}{E:Value->Shared->Prop}(ok:(X.wish E).Ok):X.Ok:=
 ⟨ok.mod,ok.kind,ok.glob,ok.blt,ok.above,ok.inj,ok.has,ok.cab,ok.hd,ok.frames,ok.stk,ok.exf,ok.bs,ok.bsz,ok.noex,ok.exfs,ok.funs,ok.frf⟩
variable {E:Value->Shared->Prop}
theorem Inv.wish (I:Inv X pins σ H s)(E:Value->Shared->Prop):Inv (X.wish E) pins σ H s:=⟨I.ok.wish E,I.os,I.bare,I.base,I.loc,I.cell,I.free,I.freeC,I.pin,I.hok,I.len⟩
theorem Inv.unwish (I:Inv (X.wish E) pins σ H s):Inv X pins σ H s:=⟨I.ok.unwish,I.os,I.bare,I.base,I.loc,I.cell,I.free,I.freeC,I.pin,I.hok,I.len⟩
theorem SP.unwish {D:A0x}{f:Flow}{s':Shared}(h:SP (X.wish E) pins D f s'):SP X pins D f s':=by
 cases f with
 | next=>let⟨σ',H',I,q⟩:=h;exact⟨σ',H',I.unwish,q⟩
 | brk=>let⟨σ',H',I,q⟩:=h;exact⟨σ',H',I.unwish,q⟩
 | cont=>let⟨σ',H',I,q⟩:=h;exact⟨σ',H',I.unwish,q⟩
 | ret u=>let⟨v,σ',H',I,r,q⟩:=h;exact⟨v,σ',H',I.unwish,r,q⟩
theorem PSs.nox {st:!Stmt}{t:TS}(h:PSs X.nox st t):PSs X st t:=λpins s σ H D I hw=>
 wpAny_mono (h pins s σ H D (I.wish _) hw) (λJ J q=>q.unwish) λJ J z=>False.elim z
variable {e:Expr}{te:TE}
section
variable {st:Stmt}{V6:!Stmt}{t u:TS}
def C9d:TS:=λD σ H=>D.nx σ H
def A9n (t u:TS):TS:=λD σ H=>t { D with nx:=u D } σ H
theorem M9:PSs X [] C9d:=λJ J σ H J I h=>wpAny_execs_nil ⟨σ,H,I,h⟩
theorem C0 (h1:PS X st t)(h2:PSs X V6 u):PSs X (st::V6) (A9n t u):=by
 intros D I h;refine wpAny_execs_cons (thn (h1 pins s σ H { D with nx:=u D } I h) λf s1 q=>?_);cases f with
 | next=>let⟨σ',H',I',q⟩:=q;exact h2 pins s1 σ' H' D I' q
 | ret v=>exact q
 | brk=>exact q
 | cont=>exact q
theorem C9 (h1:PS X st t):PSs X [st] t:=by
 intros D I h;refine wpAny_execs_cons (thn (h1 pins s σ H D I h) λf s1 q=>?_);cases f with
 | next=>exact wpAny_execs_nil q
 | ret v=>exact q
 | brk=>exact q
 | cont=>exact q
theorem Inv.quiet {pins:!(Addr×Obj)}{σ:St}{H:Hp}{s:Shared}(I:Inv X pins σ H s):interactive X.env=false:=by simp [interactive,I.ok.kind]
def C06 (te:TE):TS:=λD σ H=>te σ H λJ H1=>D.nx σ H1
theorem N7 (he:PE X e te)(hs:autoParam (swapsWith e none pos.line X.env=pure false) RF._auto_1):PS X (.Expr e pos) (C06 te):=by
 intros D I h;exact wpAny_Expr_any (thn (he pins s σ H _ I h) λv s1 zz20=>el5 zz20 λx H1 I1 r1 q1=>⟨σ,H1,I1,q1⟩) I.quiet hs
def C9e (te:TE):TS:=λD σ H=>te σ H D.rt
theorem G0 (he:PE X e te):PS X (.Return (some e) pos) (C9e te):=by
 intros D I h;exact wpAny_Return_some (thn (he pins s σ H _ I h) λv s1 zz21=>el5 zz21 λx H1 I1 r1 q1=>⟨x,σ,H1,I1,r1,q1⟩)
def C9f (c:TT)(t u:TS):TS:=λD σ H=>c σ H λb H1=>if b=true then t D σ H1 else u D σ H1
theorem M5 {c:Expr}{a b:!Stmt}{tc:TT}(hc:PT X c tc)(ha:PSs X a t)(hb:PSs X b u):PS X (.If c a b pos) (C9f tc t u):=by
 intros D I h;refine wpAny_If (thn (hc pins s σ H _ I h) λd s1 zz22=>el2 zz22 λH1 I1 q1=>?_);cases d with
 | true=>exact ha pins s1 σ H1 D I1 q1
 | false=>exact hb pins s1 σ H1 D I1 q1
end
abbrev TG:=V->St->Hp->(St->Hp->Prop)->Prop
abbrev TGs:=!V->St->Hp->(St->Hp->Prop)->Prop
def PG (X:Cx)(target:Expr)(t:TG):Prop:=
 ∀(pins:!(Addr×Obj))(s:Shared)(σ:St)(H:Hp)(v:V)(u:Value)(Q:St->Hp->Prop),Inv X pins σ H s->F1 v u->t v σ H Q->
  wpAny (model X.prog X.w) X.A (assign target X.env u) (λJ s'=>∃σ' H',Inv X pins σ' H' s'/\Q σ' H') X.xe s
def PGs (X:Cx)(ts:!Expr)(t:TGs):Prop:=
 ∀(pins:!(Addr×Obj))(s:Shared)(σ:St)(H:Hp)(vs:!V)(us:!Value)(Q:St->Hp->Prop),Inv X pins σ H s->E1 vs us->t vs σ H Q->
  wpAny (model X.prog X.w) X.A (assignInOrder ((assignEach ts X.env).map (·.2)) us) (λJ s'=>∃σ' H',Inv X pins σ' H' s'/\Q σ' H') X.xe s
abbrev A9o:=V->V->V->Hp->(Hp->Prop)->Prop
def B4v (X:Cx)(t:A9o):Prop:=
 ∀(pins:!(Addr×Obj))(s:Shared)(σ:St)(H:Hp)(o i v:V)(ov iv u:Value)(Q:Hp->Prop),Inv X pins σ H s->F1 o ov->F1 i iv->F1 v u->t o i v H Q->
  wpAny (model X.prog X.w) X.A (setItem ov iv u) (λJ s'=>∃H',Inv X pins σ H' s'/\Q H') X.xe s
abbrev TIp:=V->V->Hp->VK->Prop
def PIp (X:Cx)(op:Operator)(t:TIp):Prop:=
 ∀(pins:!(Addr×Obj))(s:Shared)(σ:St)(H:Hp)(x y:V)(v u:Value)(Q:VK),Inv X pins σ H s->F1 x v->F1 y u->t x y H Q->
  wpAny (model X.prog X.w) X.A (inplaceOp op v u) (EP X pins σ Q) X.xe s
def K1 (i:Nat):TG:=λv σ H Q=>Q (σ.set i (some v)) H
theorem N8 {i:Nat}{x:Str}(hN:X.N.Nodup)(hi:autoParam (X.N[i]?=some x) RF._auto_1)(hx:autoParam (Loc X.env.scope x) ILP._auto_1)(hf:autoParam (X.fn x=true\/X.env.scope.names.lookup x=some .local) A0P._auto_1):PG X (.Name x pos) (K1 i):=by
 intros v u Q I r h;exact wpAny_assign_Name (B1o I hN hi hx r (λs' I'=>⟨_,H,I',h⟩) hf)
def C07:TGs:=λvs σ H Q=>vs=[]/\Q σ H
def B4w (t:TG)(u:TGs):TGs:=λvs σ H Q=>∃v r,vs=v::r/\t v σ H fun σ' H'=>u r σ' H' Q
theorem A7r:PGs X [] C07:=by
 intros vs us Q I r h;let⟨e,h⟩:=h;subst e;cases r;exact assignInOrder_nil ⟨σ,H,I,h⟩
theorem t8 {e:Expr}{es:!Expr}{t:TG}{u:TGs}(h1:PG X e t)(h2:PGs X es u)
  (hs:autoParam ((assignEach (e::es) X.env).map (·.2)=assign e X.env::(assignEach es X.env).map (·.2)) RF._auto_1):PGs X (e::es) (B4w t u):=by
 intros vs us Q I r h;let⟨v,vr,e1,h⟩:=h;subst e1;cases r with
 | cons r rr=>rw[hs];refine assignInOrder_cons (thn (h1 pins s σ H _ _ _ I r h) λJ s1 zz23=>zz23.elim fun σ1 zz24=>zz24.elim λH1 zz25=>zz25.elim λI1 q1=>?_);exact h2 pins s1 σ1 H1 _ _ Q I1 rr q1
def C08 (K:A8)(n:Nat)(t:TGs):TG:=λv σ H Q=>∃a xs,v=.ref a/\SqT K H a xs/\xs.length=n/\t xs σ H Q
theorem A7s {es:!Expr}{k:Nat}{t:TGs}{n:Nat}(hc:X.calm=true)(h:PGs X es t)
  (hn:autoParam ((assignEach es X.env).length=n) RF._auto_1) (hst:autoParam ((assignEach es X.env).findIdx? (·.1)=none) RF._auto_1):PG X (.Tuple es k pos) (C08 X.K n t):=by
 intros v u Q I r hw;let⟨a,xs,e1,hq,hl,hw⟩:=hw;subst e1;cases r;let⟨its,rv,ht,hz⟩:=I.tuple hq;refine assign_Tuple_tuple (I.ok.hd hc) ht (by simp [hn,<-hl,rv.length]) hst λh' hx=>?_;have I1:Inv X pins σ H { s with heap:=h' }:=I.kept (t':=s.toks) λb o e=>hx b o (S5 (K3 e)) e;exact h pins _ σ H xs _ Q I1 (by simpa using rv) hw
def C09 (to ti:TE)(t:A9o):TG:=λv σ H Q=>to σ H λo H1=>ti σ H1 λi H2=>t o i v H2 λH3=>Q σ H3
theorem A0y {o i:Expr}{to ti:TE}{t:A9o}(ho:PE X o to)(hi:PE X i ti)(hs:B4v X t)
  (ha:∀v,assign (.Subscript o i pos) X.env v=(do
   let ov <-holding [v] (eval o X.env)
   let iv <-holding [v,ov] (eval i X.env)
   standAt pos
   holding [v,ov,iv] (setItem ov iv v)
   release [v,ov,iv] []):=by intro _;rfl):PG X (.Subscript o i pos) (C09 to ti t):=by
 intros v u Q I r h;rw[ha];refine wpAny_bind (wpAny_holding (thn (ho pins s σ H _ I h) λov s1 zz26=>el5 zz26 λx H1 I1 r1 q1=>?_));refine wpAny_bind (wpAny_holding (thn (hi pins s1 σ H1 _ I1 q1) λiv s2 zz27=>el5 zz27 λy H2 I2 r2 q2=>?_));refine wpAny_bind (wpAny_standAt (wpAny_bind (wpAny_holding (thn (hs pins s2 σ H2 x y v ov iv u _ I2 r1 r2 r q2) λJ s3 zz28=>el2 zz28 λH3 I3 q3=>?_))));exact wpAny_release ⟨σ,H3,I3,q3⟩
def A9p (te:TE)(g:TG):TS:=λD σ H=>te σ H λx H1=>g x σ H1 D.nx
theorem m6 {tg e:Expr}{te:TE}{g:TG}(he:PE X e te)(hg:PG X tg g)(hs:autoParam (swapsWithSole [tg] e pos.line X.env=pure false) RF._auto_1)(hw:autoParam (swappedStores [tg] e X.env=pure none) RF._auto_1)
  (h1:autoParam ((assignEach [tg] X.env).map (·.2)=[assign tg X.env]) RF._auto_1):PS X (.Assign [tg] e pos) (A9p te g):=by
 intros D I h;refine wpAny_Assign_stores (thn (he pins s σ H _ I h) λv s1 zz29=>el5 zz29 λx H1 I1 r1 q1=>?_) hs hw;rw[h1];exact thn (hg pins s1 σ H1 x v _ I1 r1 q1) λJ s2 q=>q
theorem C7 {i:Nat}{x:Str}{e:Expr}{te:TE}{pos':Pos}(hN:X.N.Nodup)(hi:X.N[i]?=some x)(hx:Loc X.env.scope x)(he:PE X e te)(hs:autoParam (swapsWith e (some (.Name x pos')) pos.line X.env=pure false) RF._auto_1)(hf:autoParam (X.fn x=true\/X.env.scope.names.lookup x=some .local) A0P._auto_1) :
  PS X (.Assign [.Name x pos'] e pos) (A9p te (K1 i)):=by
 intros D I h;refine wpAny_Assign_Name (thn (he pins s σ H _ I h) λv s1 zz30=>el5 zz30 λy H1 I1 r1 q1=>?_) hs;exact B1o I1 hN hi hx r1 (λs2 I2=>⟨_,H1,I2,q1⟩) hf
theorem pS {i:Nat}{x:Str}{e:Expr}{te:TE}{pos':Pos}(hN:X.N.Nodup)(he:PE X e te)(hi:autoParam (X.N[i]?=some x) RF._auto_1)(hx:autoParam (Loc X.env.scope x) ILP._auto_1)(hs:autoParam (swapsWith e (some (.Name x pos')) pos.line X.env=pure false) RF._auto_1) (hf:autoParam (X.fn x=true\/X.env.scope.names.lookup x=some .local) A0P._auto_1) :
  PS X (.Assign [.Name x pos'] e pos) (A9p te (K1 i)):=C7 hN hi hx he hs hf
def C9g (i:Nat)(te:TE)(ti:TIp):TS:=λD σ H=>∃x,σ[i]?=some (some x)/\te σ H λy H1=>ti x y H1 λz H2=>D.nx (σ.set i (some z)) H2
theorem C9h {i:Nat}{x:Str}{e:Expr}{te:TE}{op:Operator}{ti:TIp}{pos':Pos}(hN:X.N.Nodup)(hi:X.N[i]?=some x)(hx:Loc X.env.scope x)(he:PE X e te)(ho:PIp X op ti)(hf:autoParam (X.fn x=true\/X.env.scope.names.lookup x=some .local) A0P._auto_1) :
  PS X (.AugAssign (.Name x pos') op e pos) (C9g i te ti):=by
 intros D I h;let⟨v,e1,h⟩:=h;let⟨m,hn,hl⟩:=I.loc;have vis:Vis X.env.scope x:=by rcases hx with k | k;exact .inl k;exact .inr (.inl k)
 let⟨u,r,l⟩:=hl i x v hi e1 vis;refine wpAny_AugAssign_Name ?_;have go:wpAny (model X.prog X.w) X.A (eval e X.env) (λw s₂=>wpAny (model X.prog X.w) X.A (inplaceOp op u w) (λr s₃=>wpAny (model X.prog X.w) X.A (storeName X.env x r) (λJ=>SP X pins D .next) X.xe s₃) X.xe s₂) X.xe s:=by
  refine thn (he pins s σ H _ I h) λw s1 zz32=>el5 zz32 λy H1 I1 r1 q1=>?_;refine thn (ho pins s1 σ H1 v y u w _ I1 r r1 q1) λz s2 zz33=>el5 zz33 λzv H2 I2 r2 q2=>?_;exact B1o I2 hN hi hx r2 (λs3 I3=>⟨_,H2,I3,q2⟩) hf
 rcases l with ⟨hk,hm⟩ | ⟨hk,c,hc,hcell⟩
 ·exact wpAny_loadName_local I.ok.kind hk hn hm go
 ·rcases hk with hk | hk
  ·exact wpAny_loadName_cell I.ok.kind hk hc hcell go
  ·rcases hx with k | k
   ·have:X.env.scope.names.lookup x=some .free:=hk;rw[k] at this;cases this
   ·have:X.env.scope.names.lookup x=some .free:=hk;rw[k] at this;cases this
def C9i (to ti te:TE)(tget:V->V->Hp->VK->Prop)(tip:TIp)(tset:A9o):TS:=λD σ H=>to σ H λo H1=>ti σ H1 λi H2=>tget o i H2 λx H3=>te σ H3 λy H4=>tip x y H4 λz H5=>tset o i z H5 λH6=>D.nx σ H6
def C1a (X:Cx)(t:V->V->Hp->VK->Prop):Prop:=
 ∀(pins:!(Addr×Obj))(s:Shared)(σ:St)(H:Hp)(o i:V)(ov iv:Value)(Q:VK),Inv X pins σ H s->F1 o ov->F1 i iv->t o i H Q->
  wpAny (model X.prog X.w) X.A (getItem ov iv) (EP X pins σ Q) X.xe s
theorem C1b {o i e:Expr}{to ti te:TE}{tget:V->V->Hp->VK->Prop}{tip:TIp}{tset:A9o}{op:Operator}{tpos:Pos}(ho:PE X o to)(hi:PE X i ti)(hg:C1a X tget)(he:PE X e te)(hp:PIp X op tip)(hs:B4v X tset)
  (ha:∀ov iv new,augStore i ov iv new=(do holding [new,ov,iv] (setItem ov iv new);release [new,ov,iv] [];pure .next):=by intro _ _ _;rfl):PS X (.AugAssign (.Subscript o i tpos) op e pos) (C9i to ti te tget tip tset):=by
 intros D I h;refine wpAny_AugAssign_SubscriptAny (thn (ho pins s σ H _ I h) λov s1 zz34=>el5 zz34 λx1 H1 I1 r1 q1=>?_) ha;refine thn (hi pins s1 σ H1 _ I1 q1) λiv s2 zz35=>el5 zz35 λx2 H2 I2 r2 q2=>?_;refine thn (hg pins s2 σ H2 x1 x2 ov iv _ I2 r1 r2 q2) λold s3 zz36=>el5 zz36 λx3 H3 I3 r3 q3=>?_;refine thn (he pins s3 σ H3 _ I3 q3) λv s4 zz37=>el5 zz37 λx4 H4 I4 r4 q4=>?_;refine thn (hp pins s4 σ H4 x3 x4 old v _ I4 r3 r4 q4) λnew s5 zz38=>el5 zz38 λx5 H5 I5 r5 q5=>?_;exact thn (hs pins s5 σ H5 x1 x2 x5 ov iv new _ I5 r1 r2 r5 q5) λJ s6 zz39=>el2 zz39 λH6 I6 q6=>⟨σ,H6,I6,q6⟩
def ipI (f:Int->Int->Int):TIp:=λx y H Q=>∃i j,x=.int i/\y=.int j/\Q (.int (f i j)) H
theorem C1c:PIp X .Add (ipI λi j=>i+j):=by
 intros x y v u Q I r1 r2 h;let⟨i,j,e1,e2,q⟩:=h;subst e1;subst e2;let⟨t,rfl⟩:=r1;let⟨t',rfl⟩:=r2;exact iadd_int ⟨.int _,H,I.tok _,⟨_,rfl⟩,q⟩
theorem C9j:PIp X .Sub (ipI λi j=>i-j):=by
 intros x y v u Q I r1 r2 h;let⟨i,j,e1,e2,q⟩:=h;subst e1;subst e2;let⟨t,rfl⟩:=r1;let⟨t',rfl⟩:=r2;exact isub_int ⟨.int _,H,I.tok _,⟨_,rfl⟩,q⟩
def B4x (c:TT)(tb:TS):TS:=λD σ H=>∃W:Nat->St->Hp->Prop,(∃m,W m σ H)/\∀m σ H,W m σ H->
 c σ H λb H1=>if b=true then ∃N:St->Hp->Prop,(∀σ' H',N σ' H'->∃m',m'<m/\W m' σ' H')/\tb { D with nx:=N,ct:=N,bk:=D.nx } σ H1 else D.nx σ H1
theorem A49 {c:Expr}{body:!Stmt}{tc:TT}{tb:TS}(hp:PassesOwn (model X.prog X.w) X.A X.env X.xe)(hc:PT X c tc)(hb:PSs X body tb):PS X (.While c body [] pos) (B4x tc tb):=by
 intros D I h;let⟨W,⟨m0,w0⟩,turn⟩:=h;refine wpAny_While (codeAny_whileLoop (λn s'=>∃σ' H',Inv X pins σ' H' s'/\W n σ' H') ?_ m0 ⟨σ,H,I,w0⟩);rintro n s1 ⟨σ1,H1,I1,w1⟩;refine wpAny_passesOwn hp (thn (hc pins s1 σ1 H1 _ I1 (turn n σ1 H1 w1)) λb s2 zz40=>el2 zz40 λH2 I2 q2=>?_);cases b with
 | true=>
  let⟨N,hN,q2⟩:=q2;rw[if_pos rfl];refine wpAny_passesOwn hp (thn (hb pins s2 σ1 H2 _ I2 q2) λf s3 q3=>?_);cases f with
  | next=>let⟨σ3,H3,I3,n3⟩:=q3;let⟨m',hm,w3⟩:=hN σ3 H3 n3;exact⟨m',hm,σ3,H3,I3,w3⟩
  | cont=>let⟨σ3,H3,I3,n3⟩:=q3;let⟨m',hm,w3⟩:=hN σ3 H3 n3;exact⟨m',hm,σ3,H3,I3,w3⟩
  | brk=>exact q3
  | ret v=>exact q3
 | false=>rw[if_neg Q2];exact wpAny_execs_nil ⟨σ1,H2,I2,q2⟩
structure It where
 go:Nat->Hp->Prop
 yld:Nat->Hp->V->Hp->Prop
 stop:Nat->Hp->Prop
def Z5 (X:Cx)(pins:!(Addr×Obj))(H:Hp)(b:Addr):Prop:=
 H b=none/\b≠X.env.locals/\b∉X.fs/\(b∈X.ex\/X.s₀.heap.objs.size<=b)/\(∀x c,X.env.cells.lookup x=some c->c≠b)/\∀p∈X.pn++pins,p.1≠b
theorem Inv.fpOk {X:Cx}{pins:!(Addr×Obj)}{σ:St}{H H':Hp}{s:Shared}{b:Addr}(I:Inv X pins σ H s)(hb:s.heap.objs.size<=b)(hn:H' b=none):Z5 X pins H' b:=by
 refine⟨hn,A9i (U1 I.lt hb),I.nofs hb,.inr (M0 I.sz hb),λx c e z=>?_,λp hp z=>?_⟩
 ·let⟨v,q⟩:=I.cell x c e;exact absurd (U1 q.lt (by rw[z];exact hb)) (A1p _)
 ·exact absurd (U1 (K3 (I.pin p hp).1) (by rw[z];exact hb)) (A1p _)
structure A3q (P:Program)(w:World)(K:A8)(tg:Expr)(J:It)(fp:!Addr)(it:Addr)(tn:Nat->Heap->Prop):Prop where
 mem:it∈fp
 obj:∀i h,tn i h->∀b∈fp,∃o,h.get? b=some o/\∀v,o.data≠.cell v
 keep:∀i h h',tn i h->(∀b∈fp,∀o,h.get? b=some o->h'.get? b=some o)->tn i h'
 item:∀(X:Cx),X.prog=P->X.w=w->X.K=K->X.calm=true->∀(i:Nat)(pins:!(Addr×Obj))(s:Shared)(σ:St)(H:Hp)(E:Value->Shared->Prop),Inv X pins σ H s->(∀b∈fp,Z5 X pins H b)->tn i s.heap->J.go i H->
  wpAny (model P w) X.A (pyNext (.ref it)) (λr s1=>∃u,r=some u/\
   wpAny (model P w) X.A (letOwnedTupleGo tg (.ref it) u) (λ_ s2=>∃x H',Inv X pins σ H' s2/\F1 x u/\J.yld i H x H'/\tn (i+1) s2.heap/\∀b∈fp,H' b=none) E s1) E s
 done:∀(X:Cx),X.prog=P->X.w=w->X.K=K->X.calm=true->∀(i:Nat)(pins:!(Addr×Obj))(s:Shared)(σ:St)(H:Hp)(E:Value->Shared->Prop),Inv X pins σ H s->(∀b∈fp,Z5 X pins H b)->tn i s.heap->J.stop i H->
  wpAny (model P w) X.A (pyNext (.ref it)) (λr s1=>r=none/\Inv X pins σ H s1) E s
 self:∀(A:Around)(i:Nat)(s:Shared)(Q:Value->Shared->Prop)(E:Value->Shared->Prop),tn i s.heap->Q (.ref it) s->wpAny (model P w) A (pyIter (.ref it)) Q E s
abbrev TI:=St->Hp->(It->Hp->Prop)->Prop
def PIE (X:Cx)(pins:!(Addr×Obj))(σ:St)(tg:Expr)(R:It->Hp->Prop)(itv:Value)(s2:Shared):Prop:=
 ∃(it:Addr)(fp:!Addr)(tn:Nat->Heap->Prop)(J:It)(H':Hp),itv=.ref it/\Inv X pins σ H' s2/\A3q X.prog X.w X.K tg J fp it tn/\tn 0 s2.heap/\(∀b∈fp,Z5 X pins H' b)/\R J H'
def PI (X:Cx)(tg iter:Expr)(wi:TI):Prop:=
 ∀(pins:!(Addr×Obj))(s:Shared)(σ:St)(H:Hp)(R:It->Hp->Prop),Inv X pins σ H s->wi σ H R->
  wpAny (model X.prog X.w) X.A (eval iter X.env) (λv s1=>wpAny (model X.prog X.w) X.A (pyIter v) (PIE X pins σ tg R) X.xe s1) X.xe s
theorem B1t {M:Model}{A:Around}{E:Value->Shared->Prop}{s:Shared}{tg:Expr}{it:Addr}{u:Value}{o:Obj}{n:String}{vs:Array Value}{Q:Unit->Shared->Prop}(ho:s.heap.get? it=some o)(hc:o.cls=.type n)(hd:o.data=.fields vs)
  (hn:["enumerate","zip","dict_itemiterator","dict_reverseitemiterator","odict_iterator","itertools.zip_longest","itertools.pairwise"].contains n=false) (hQ:Q () s):wpAny M A (letOwnedTupleGo tg (.ref it) u) Q E s:=by
 unfold letOwnedTupleGo;cases tg <;> first
  | exact wpAny_pure hQ
  | (cases u <;> first
    | exact wpAny_pure hQ
    | (refine wpAny_bind (wpAny_load ho ?_)
       rw[hc,hd];show wpAny M A (if (["enumerate","zip","dict_itemiterator","dict_reverseitemiterator","odict_iterator","itertools.zip_longest","itertools.pairwise"].contains n&&vs[0]? == some (rawInt _))=true then _ else _) Q E s;rw[if_neg (by intro h;rw[hn,Bool.false_and] at h;cases h)];exact wpAny_pure hQ))
def Itl (K:A8)(a:Addr):It:=
 ⟨λi H=>∃xs x,SqL K H a xs/\xs[i]?=some x,λi H x H'=>H'=H/\∀xs,SqL K H a xs->xs[i]?=some x,λi H=>∃xs,SqL K H a xs/\xs.length<=i⟩
def Itr (lo:Int)(n:Nat):It:=⟨λi J=>i<n,λi H x H'=>H'=H/\x=.int (lo+i),λi J=>n<=i⟩
theorem C9k {P:Program}{w:World}{K:A8}{tg:Expr}(a it:Addr):A3q P w K tg (Itl K a) [it] it (λi h=>h.IsListIter it a i) where
 mem:=by simp
 obj:=λi h st b hb=>by
  have e:b=it:=by simpa using hb
  subst e;let⟨o,e,c,d⟩:=st;exact⟨o,e,λv z=>by rw[d] at z;cases z⟩
 keep:=λi h h' st k=>st.at λo e=>k it (by simp) o e
 item:=by
  intro X hP hw hK hc i pins s σ H E I hf st hg;subst hP hw hK;let⟨xs,x,hq,hx⟩:=hg;let⟨its,rv,p,hz⟩:=I.list hq;let⟨u,hu,ru⟩:=rv.get hx;let⟨f0,f1,f2,f3,f4,f5⟩:=hf it (by simp);refine wpAny_pyNext_list_item st p.isList (x:=u) (by simpa using hu) λh' st' sb=>?_;have I1:Inv X pins σ H { s with heap:=h' }:=I.turned (t':=s.toks) (λb o hb e=>(sb.2 b hb).trans e) f0 f1 f3 f4 f5;let⟨o,e,c,d⟩:=id st';exact⟨u,rfl,B1t (s:={ s with heap:=h' }) e c d DD ⟨x,H,I1,ru,⟨rfl,λys hy=>by rw[I.list_inj hy hq];exact hx⟩,st',λb hb=>(hf b hb).1⟩⟩
 done:=by
  intro X hP hw hK hc i pins s σ H E I hf st hg;subst hP hw hK;let⟨xs,hq,hx⟩:=hg;let⟨its,rv,p,hz⟩:=I.list hq;let⟨f0,f1,f2,f3,f4,f5⟩:=hf it (by simp);have hl:=rv.length;exact wpAny_pyNext_list_end (I.ok.hd hc) st p.isList (by simp;omega) λh' eb=>⟨rfl,I.turned (t':=s.toks) (λb o hb e=>eb b o hb e) f0 f1 f3 f4 f5⟩
 self:=λJ J J J J st h=>wpAny_pyIter_listiter st h
theorem C9l {P:Program}{w:World}{K:A8}{tg:Expr}(it:Addr)(lo:Int)(n:Nat):A3q P w K tg (Itr lo n) [it] it (λi h=>IsRangeIter h it (lo+(i:Nat)*1) ((n:Int)-(i:Nat)) 1) where
 mem:=by simp
 obj:=λi h st b hb=>by
  have e:b=it:=by simpa using hb
  subst e;exact⟨_,st,λv z=>by
   have z':Data.fields _=Data.cell v:=z;cases z'⟩
 keep:=λi h h' st k=>k it (by simp) _ st
 item:=by
  intro X hP hw hK hc i pins s σ H E I hf st hg;subst hP hw hK;let⟨f0,f1,f2,f3,f4,f5⟩:=hf it (by simp);have W:=Walks.range (prog:=X.prog) (w:=X.w) (I.ok.hd hc) it lo 1 n;refine W.item i s _ _ hg st λv h' tk hv st' kk=>?_;let⟨t,rfl⟩:=hv;have I1:Inv X pins σ H { s with heap:=h',toks:=tk }:=I.turned (λb o hb e=>kk b o (by simpa using hb) e) f0 f1 f3 f4 f5;refine⟨_,rfl,B1t (s:={ s with heap:=h',toks:=tk }) (n:= "range_iterator") st' rfl rfl DD ⟨.int (lo+i),H,I1,⟨t,?_⟩,⟨rfl,rfl⟩,st',λb hb=>(hf b hb).1⟩⟩;rw[Int.mul_one]
 done:=by
  intro X hP hw hK hc i pins s σ H E I hf st hg;subst hP hw hK;let⟨f0,f1,f2,f3,f4,f5⟩:=hf it (by simp);exact wpAny_pyNext_range_end (I.ok.hd hc) st (by have:n<=i:=hg;omega) λh' eb=>⟨rfl,I.turned (t':=s.toks) (λb o hb e=>eb b o hb e) f0 f1 f3 f4 f5⟩
 self:=λJ J J J J st h=>wpAny_pyIter_rangeiter st h
section
variable {tg:Expr}
def C9m (K:A8)(tl:TE):TI:=fun σ H R=>tl σ H λx H1=>∃a,x=.ref a/\(∃xs,SqL K H1 a xs)/\R (Itl K a) H1
theorem U9 {l:Expr}{tl:TE}(hl:PE X l tl):PI X tg l (C9m X.K tl):=by
 intros R I h;refine thn (hl pins s σ H _ I h) λv s1 zz41=>el5 zz41 λx H1 I1 r1 q1=>?_;let⟨a,e,⟨xs,hq⟩,q⟩:=q1;subst e;cases r1;let⟨its,rv,p,hz⟩:=I1.list hq;refine wpAny_pyIter_list p.isList ?_;refine⟨s1.heap.objs.size,[s1.heap.objs.size],_,_,H1,rfl,I1.kept (t':=s1.toks) λb o e=>Q3 _ e,C9k a _,⟨_,U3 _ rfl,rfl,rfl⟩,λb hb=>?_,q⟩;have e:b=s1.heap.objs.size:=by simpa using hb
 subst e;exact I1.fpOk (G3 _) (I1.hok.fresh (G3 _))
theorem C9n {pins:!(Addr×Obj)}{σ:St}{H:Hp}{s:Shared}{R:It->Hp->Prop}{E:Value->Shared->Prop}{lo hi:Int}{t u v:Tok}{tk:Nat}(I:Inv X pins σ H s)(h1:-(2^62)<=lo)(h2:lo<2^62)(h3:-(2^62)<=hi)(h4:hi<2^62)
  (q:R (Itr lo (hi-lo).toNat) H):wpAny (model X.prog X.w) X.A (pyIter (.ref s.heap.objs.size)) (PIE X pins σ tg R) E { s with heap:=s.heap.push { cls:=.type "range",data:=.fields #[.int lo t,.int hi u,.int 1 v] },toks:=tk }:=by
 refine wpAny_pyIter_range (IsRange.new ..) (small_one h1 h2 h3 h4) ?_;have I1:Inv X pins σ H { s with heap:=s.heap.push { cls:=.type "range",data:=.fields #[.int lo t,.int hi u,.int 1 v] },toks:=tk }:=I.kept λb o e=>Q3 _ e;refine⟨(s.heap.push { cls:=.type "range",data:=.fields #[.int lo t,.int hi u,.int 1 v] }).objs.size,[(s.heap.push { cls:=.type "range",data:=.fields #[.int lo t,.int hi u,.int 1 v] }).objs.size],_,_,H,rfl,
  I1.kept (t':=tk) λb o e=>Q3 _ e,C9l _ lo (hi-lo).toNat,?_,λb hb=>?_,q⟩
 ·have e1:lo+((0:Nat):Int)*1=lo:=by simp
  have e2:(((hi-lo).toNat:Nat):Int)-((0:Nat):Int)=Builtin.Range.rangeSize lo hi 1:=by rw[rangeSize_one];split <;> omega
  show IsRangeIter _ _ (lo+((0:Nat):Int)*1) ((((hi-lo).toNat:Nat):Int)-((0:Nat):Int)) 1;rw[e1,e2];exact U3 _ rfl
 ·have e:b=(s.heap.push { cls:=.type "range",data:=.fields #[.int lo t,.int hi u,.int 1 v] }).objs.size:=by simpa using hb
  subst e;exact I1.fpOk (G3 _) (I1.hok.fresh (G3 _))
def C1d (ta:TA):TI:=fun σ H R=>ta σ H λvs H1=>∃j:Int,vs=[.int j]/\-(2^62)<=j/\j<2^62/\R (Itr 0 j.toNat) H1
theorem A2m {a:Expr}{ta:TA}{p pos:Pos}(hg:Gl X "range")(hm:X.mg "range" = none)(ha:PA X [a] ta)(hs:autoParam (starEach [a] X.env=[(false,eval a X.env)]) RF._auto_1):PI X tg (.Call (.Name "range" p) [a] [] pos) (C1d ta):=by
 intros R I h;refine Call_ (A1y I hg hm boot_range (PyProof.Rows.callWith_type1 (thn (ha pos pins s σ H _ I h) λus s1 zz43=>el5 zz43 λvs H1 I1 r1 q1=>?_) hs rfl));let⟨j,e,q1,q2,q⟩:=q1;subst e;cases r1 with
 | cons r rr=>cases rr;let⟨t,rfl⟩:=r;exact call_range_1 (C9n I1 (by omega) (by omega) q1 q2 (by simpa using q))
def C1e (wi:TI)(g:TG)(tb:TS):TS:=λD σ H=>wi σ H λJ H1=>∃W:Nat->Nat->St->Hp->Prop,(∃m,W 0 m σ H1)/\∀i m σ H,W i m σ H->
 (J.stop i H/\D.nx σ H)\/(J.go i H/\∃N:St->Hp->Prop,(∀σ' H',N σ' H'->∃m',m'<m/\W (i+1) m' σ' H')/\∀x H',J.yld i H x H'->g x σ H' fun σ2 H2=>tb { D with nx:=N,ct:=N,bk:=D.nx } σ2 H2)
def A9q (fp:!Addr)(h:Heap):!(Addr×Obj):=fp.filterMap λb=>(h.get? b).map λo=>(b,o)
theorem B1u {fp:!Addr}{h:Heap}{b:Addr}{o:Obj}(hb:b∈fp)(e:h.get? b=some o):(b,o)∈A9q fp h:=C0h.mpr ⟨b,hb,by rw[e];rfl⟩
theorem C9o {fp:!Addr}{h:Heap}{p:Addr×Obj}(hp:p∈A9q fp h):p.1∈fp/\h.get? p.1=some p.2:=by
 let⟨b,hb,e⟩:=C0h.mp hp;cases q:h.get? b with
 | none=>rw[q] at e;cases e
 | some o=>rw[q] at e;have e':(b,o)=p:=Option.some.inj e;subst e';exact⟨hb,q⟩
theorem Inv.pinned {pins:!(Addr×Obj)}{σ:St}{H:Hp}{s:Shared}{fp:!Addr}(I:Inv X pins σ H s)(hf:∀b∈fp,Z5 X pins H b)(ho:∀b∈fp,∃o,s.heap.get? b=some o/\∀v,o.data≠.cell v):Inv X (pins++A9q fp s.heap) σ H s:=
 I.pins_of λp hp=>(p7.mp hp).elim (λz=>I.pin p (A1d _ z)) λz=>by
  let⟨hb,e⟩:=C9o z;let⟨f0,f1,f2,_⟩:=hf p.1 hb;let⟨o,e',d⟩:=ho p.1 hb;rw[e] at e';cases e';exact⟨e,f0,f1,f2,d⟩
theorem Inv.unpinned {pins pl:!(Addr×Obj)}{σ:St}{H:Hp}{s:Shared}(I:Inv X (pins++pl) σ H s):Inv X pins σ H s:=I.pins_of λp hp=>I.pin p (A1d _ (C8e _ hp))
theorem X6 {iter:Expr}{body:!Stmt}{wi:TI}{g:TG}{tb:TS}{pos:Pos}(hp:PassesOwn (model X.prog X.w) X.A X.env X.xe)(hc:X.calm=true)(hi:PI X tg iter wi)(hg:PG X tg g)(hb:PSs X body tb)
  (hs:autoParam (∀x,foldedSetIterable iter X.env x=pure x) A2P._auto_1):PS X (.For tg iter body [] pos) (C1e wi g tb):=by
 intros D I h;refine wpAny_For (thn (hi pins s σ H _ I h) λv s1 h1=>thn h1 λitv s2 h2=>?_) hs;let⟨it,fp,tn,J,H2,e,I2,T,st2,f2,W,⟨m0,w0⟩,turn⟩:=h2;subst e;have stat:∀{H':Hp},(∀b∈fp,H' b=none)->∀b∈fp,Z5 X pins H' b:=λhn b hb=>⟨hn b hb,(f2 b hb).2⟩;refine codeAny_forLoop_any (λn s'=>∃i σ' H',Inv X pins σ' H' s'/\tn i s'.heap/\(∀b∈fp,H' b=none)/\W i n σ' H') ?_ m0 ⟨0,σ,H2,I2,st2,λb hb=>(f2 b hb).1,w0⟩;rintro n s3 ⟨i,σ3,H3,I3,st3,fr3,w3⟩;rcases turn i n σ3 H3 w3 with ⟨stop,qn⟩ | ⟨go,N,hN,step⟩
 ·refine wpAny_passesOwn hp (thn (T.done X rfl rfl rfl hc i pins s3 σ3 H3 X.xe I3 (stat fr3) st3 stop) λr s4 zz45=>zz45.elim λhr I4=>?_);subst hr;exact wpAny_execs_nil ⟨σ3,H3,I4,qn⟩
 ·refine wpAny_passesOwn hp (thn (T.item X rfl rfl rfl hc i pins s3 σ3 H3 X.xe I3 (stat fr3) st3 go) λr s4 zz46=>el2 zz46 λu hr h4=>?_);subst hr;refine wpAny_passesOwn hp (thn h4 λY s5 zz47=>zz47.elim λx zz48=>zz48.elim λH5 zz49=>zz49.elim λI5 zz50=>zz50.elim λr5 zz51=>zz51.elim λy5 zz52=>zz52.elim λst5 fr5=>?_);have I5':=I5.pinned (stat fr5) (T.obj _ _ st5);refine wpAny_passesOwn hp (thn (hg _ s5 σ3 H5 x u _ I5' r5 (step x H5 y5)) λY s6 zz53=>zz53.elim fun σ6 zz54=>zz54.elim λH6 zz55=>zz55.elim λI6 q6=>?_);refine wpAny_passesOwn hp (thn (hb _ s6 σ6 H6 _ I6 q6) λf s7 q7=>?_);have again:∀{σ7:St}{H7:Hp},Inv X (pins++A9q fp s5.heap) σ7 H7 s7->N σ7 H7->∃m,m<n/\∃i σ' H',Inv X pins σ' H' s7/\tn i s7.heap/\(∀b∈fp,H' b=none)/\W i m σ' H':=λ{σ7 H7} I7 n7=>by
   let⟨m',hm,w7⟩:=hN σ7 H7 n7;refine⟨m',hm,i+1,σ7,H7,I7.unpinned,T.keep _ _ _ st5 λb hb o e=>(I7.pin (b,o) (A1d _ (A1d _ (B1u hb e)))).1,λb hb=>?_,w7⟩;let⟨o,e,d⟩:=T.obj _ _ st5 b hb;exact (I7.pin (b,o) (A1d _ (A1d _ (B1u hb e)))).2.1
  cases f with
  | next=>let⟨σ7,H7,I7,n7⟩:=q7;exact again I7 n7
  | cont=>let⟨σ7,H7,I7,n7⟩:=q7;exact again I7 n7
  | brk=>let⟨σ7,H7,I7,q7⟩:=q7;exact⟨σ7,H7,I7.unpinned,q7⟩
  | ret v=>let⟨x7,σ7,H7,I7,r7,q7⟩:=q7;exact⟨x7,σ7,H7,I7.unpinned,r7,q7⟩
end
theorem A5a {K:A8}{a:Addr}{xs:!V}{g:TG}{tb:TS}{D:A0x}{σ:St}{H:Hp}(Pv:Nat->St->Hp->Prop)(h0:Pv 0 σ H)(hl:∀i σ H,i<=xs.length->Pv i σ H->SqL K H a xs)
  (hs:∀i x σ H,xs[i]?=some x->Pv i σ H->g x σ H fun σ2 H2=>tb { D with nx:=Pv (i+1),ct:=Pv (i+1),bk:=D.nx } σ2 H2) (hd:∀σ H,Pv xs.length σ H->D.nx σ H) :
  ∃W:Nat->Nat->St->Hp->Prop,(∃m,W 0 m σ H)/\∀i m σ H,W i m σ H->
   ((Itl K a).stop i H/\D.nx σ H)\/((Itl K a).go i H/\∃N:St->Hp->Prop,(∀σ' H',N σ' H'->∃m',m'<m/\W (i+1) m' σ' H')/\∀x H',(Itl K a).yld i H x H'->g x σ H' fun σ2 H2=>tb { D with nx:=N,ct:=N,bk:=D.nx } σ2 H2):=by
 refine⟨λi m σ H=>m=xs.length-i/\i<=xs.length/\Pv i σ H,⟨xs.length,by simp,Q7 _,h0⟩,?_⟩;rintro i m σ H ⟨rfl,hi,p⟩;have q:=hl i σ H hi p;by_cases hlt:i<xs.length
 ·refine .inr ⟨⟨xs,xs[i],q,by simp [hlt]⟩,Pv (i+1),fun σ' H' p'=>⟨xs.length-(i+1),by omega,rfl,hlt,p'⟩,λx H' y=>?_⟩;let⟨e,y⟩:=y;subst e;exact hs i x σ _ (y xs q) p
 ·have e:i=xs.length:=by omega
  subst e;exact .inl ⟨⟨xs,q,G3 _⟩,hd σ H p⟩
theorem B1v {lo:Int}{n:Nat}{g:TG}{tb:TS}{D:A0x}{σ:St}{H:Hp}(Pv:Nat->St->Hp->Prop)(h0:Pv 0 σ H)
  (hs:∀i σ H,i<n->Pv i σ H->g (.int (lo+i)) σ H fun σ2 H2=>tb { D with nx:=Pv (i+1),ct:=Pv (i+1),bk:=D.nx } σ2 H2) (hd:∀σ H,Pv n σ H->D.nx σ H) :
  ∃W:Nat->Nat->St->Hp->Prop,(∃m,W 0 m σ H)/\∀i m σ H,W i m σ H->
   ((Itr lo n).stop i H/\D.nx σ H)\/((Itr lo n).go i H/\∃N:St->Hp->Prop,(∀σ' H',N σ' H'->∃m',m'<m/\W (i+1) m' σ' H')/\∀x H',(Itr lo n).yld i H x H'->g x σ H' fun σ2 H2=>tb { D with nx:=N,ct:=N,bk:=D.nx } σ2 H2):=by
 refine⟨λi m σ H=>m=n-i/\i<=n/\Pv i σ H,⟨n,by simp,Q7 _,h0⟩,?_⟩;rintro i m σ H ⟨rfl,hi,p⟩;by_cases hlt:i<n
 ·refine .inr ⟨hlt,Pv (i+1),fun σ' H' p'=>⟨n-(i+1),by omega,rfl,hlt,p'⟩,λx H' y=>?_⟩;let⟨e,y⟩:=y;subst e y;exact hs i σ _ hlt p
 ·have e:i=n:=by omega
  subst e;exact .inl ⟨G3 _,hd σ H p⟩
theorem C9p {c:TT}{tb:TS}{D:A0x}{σ:St}{H:Hp}(Pv:St->Hp->Prop)(μ:St->Hp->Nat)(h0:Pv σ H)
  (hs:∀σ H,Pv σ H->c σ H λb H1=>if b=true then tb { D with nx:=fun σ' H'=>Pv σ' H'/\μ σ' H'<μ σ H,ct:=fun σ' H'=>Pv σ' H'/\μ σ' H'<μ σ H,bk:=D.nx } σ H1 else D.nx σ H1)
  (mono:∀σ H Q Q',(∀b H1,Q b H1->Q' b H1)->c σ H Q->c σ H Q'):B4x c tb D σ H:=by
 exists λm σ H=>m=μ σ H/\Pv σ H,⟨_,rfl,h0⟩;rintro m σ H ⟨rfl,p⟩;refine mono σ H _ _ (λb H1 q=>?_) (hs σ H p);cases b with
 | true=>exact⟨_,fun σ' H' zz56=>zz56.elim λp' l=>⟨_,l,rfl,p'⟩,q⟩
 | false=>exact q
abbrev R2:=V->V->Hp->VK->Prop
def OpR (X:Cx)(f:Value->Value->Sem Value)(r:R2):Prop:=
 ∀(pins:!(Addr×Obj))(s:Shared)(σ:St)(H:Hp)(x y:V)(v u:Value)(Q:VK),Inv X pins σ H s->F1 x v->F1 y u->r x y H Q->
  wpAny (model X.prog X.w) X.A (f v u) (EP X pins σ Q) X.xe s
def UnR (X:Cx)(f:Value->Sem Value)(r:V->Hp->VK->Prop):Prop:=
 ∀(pins:!(Addr×Obj))(s:Shared)(σ:St)(H:Hp)(x:V)(v:Value)(Q:VK),Inv X pins σ H s->F1 x v->r x H Q->
  wpAny (model X.prog X.w) X.A (f v) (EP X pins σ Q) X.xe s
def X7 (X:Cx)(f:Value)(r:!V->Hp->VK->Prop):Prop:=
 ∀(pins:!(Addr×Obj))(s:Shared)(σ:St)(H:Hp)(xs:!V)(us:!Value)(Q:VK),Inv X pins σ H s->E1 xs us->r xs H Q->
  wpAny (model X.prog X.w) X.A (call f us) (EP X pins σ Q) X.xe s
def tOp (r:R2)(ta tb:TE):TE:=fun σ H Q=>ta σ H λx H1=>tb σ H1 λy H2=>r x y H2 Q
def tUn (r:V->Hp->VK->Prop)(ta:TE):TE:=fun σ H Q=>ta σ H λx H1=>r x H1 Q
def rI (C:Int->Int->Prop)(g:Int->Int->V):R2:=λx y H Q=>∃i j,x=.int i/\y=.int j/\C i j/\Q (g i j) H
def rI0 (g:Int->Int->V):R2:=λx y H Q=>∃i j,x=.int i/\y=.int j/\Q (g i j) H
def rU (g:Int->V):V->Hp->VK->Prop:=λx H Q=>∃i,x=.int i/\Q (g i) H
section
variable {a b c:Expr}{tc:TE}
theorem B4y (ha:PE X a ta)(hb:PE X b tb){pins:!(Addr×Obj)}{s:Shared}{σ:St}{H:Hp}{R:V->V->Hp->Prop}(I:Inv X pins σ H s)
  (h:ta σ H λx H1=>tb σ H1 λy H2=>R x y H2) {Q:Value->Shared->Prop} {f:Value->Value->Sem Value}
  (hf:∀v u s2 x y H2,Inv X pins σ H2 s2->F1 x v->F1 y u->R x y H2->wpAny (model X.prog X.w) X.A (f v u) Q X.xe s2) :
  wpAny (model X.prog X.w) X.A (eval a X.env) (λv s₁=>wpAny (model X.prog X.w) X.A (eval b X.env) (λu s₂=>wpAny (model X.prog X.w) X.A (f v u) Q X.xe s₂) X.xe s₁) X.xe s:=by
 refine thn (ha pins s σ H _ I h) λv s1 zz57=>el5 zz57 λx H1 I1 r1 q1=>?_;refine thn (hb pins s1 σ H1 _ I1 q1) λu s2 zz58=>el5 zz58 λy H2 I2 r2 q2=>?_;exact hf v u s2 x y H2 I2 r1 r2 q2
theorem F5 {op:Operator}{r:R2}(ho:OpR X (binaryOp op) r)(ha:PE X a ta)(hb:PE X b tb):PE X (.BinOp a op b pos) (tOp r ta tb):=by
 intros Q I h;exact wpAny_BinOp (B4y ha hb I h λv u s2 x y H2 I2 rx ry q=>ho pins s2 σ H2 x y v u Q I2 rx ry q)
theorem C9q {op:UnaryOp}{r:V->Hp->VK->Prop}(ho:UnR X (unaryOp op) r)(ha:PE X a ta):PE X (.UnaryOp op a pos) (tUn r ta):=by
 intros Q I h;exact UnaryOp_ (thn (ha pins s σ H _ I h) λv s1 zz59=>el5 zz59 λx H1 I1 r1 q1=>ho pins s1 σ H1 x v Q I1 r1 q1)
theorem opI {f:Value->Value->Sem Value}{C:Int->Int->Prop}{g:Int->Int->Int}
  (rule:∀(i j:Int)(t u:Tok)(s:Shared)(Q:Value->Shared->Prop)(E:Value->Shared->Prop),C i j->Q (.int (g i j) s.toks) { s with toks:=s.toks+1 }->wpAny (model X.prog X.w) X.A (f (.int i t) (.int j u)) Q E s) :
  OpR X f (rI C λi j=>.int (g i j)):=by
 intros x y v u Q I rx ry h;let⟨i,j,rfl,rfl,hc,q⟩:=h;let⟨t,rfl⟩:=rx;let⟨t',rfl⟩:=ry;exact rule i j t t' s _ _ hc ⟨.int (g i j),H,I.tok _,⟨_,rfl⟩,q⟩
theorem C1f {f:Value->Value->Sem Value}{g:Int->Int->Int}
  (rule:∀(i j:Int)(t u:Tok)(s:Shared)(Q:Value->Shared->Prop)(E:Value->Shared->Prop),Q (.int (g i j) s.toks) { s with toks:=s.toks+1 }->wpAny (model X.prog X.w) X.A (f (.int i t) (.int j u)) Q E s) :
  OpR X f (rI0 λi j=>.int (g i j)):=by
 intros x y v u Q I rx ry h;let⟨i,j,rfl,rfl,q⟩:=h;let⟨t,rfl⟩:=rx;let⟨t',rfl⟩:=ry;exact rule i j t t' s _ _ ⟨.int (g i j),H,I.tok _,⟨_,rfl⟩,q⟩
theorem B1w {f:Value->Value->Sem Value}{g:Int->Int->Bool}
  (rule:∀(i j:Int)(t u:Tok)(s:Shared)(Q:Value->Shared->Prop)(E:Value->Shared->Prop),Q (.bool (g i j)) s->wpAny (model X.prog X.w) X.A (f (.int i t) (.int j u)) Q E s) :
  OpR X f (rI0 λi j=>.bl (g i j)):=by
 intros x y v u Q I rx ry h;let⟨i,j,rfl,rfl,q⟩:=h;let⟨t,rfl⟩:=rx;let⟨t',rfl⟩:=ry;exact rule i j t t' s _ _ ⟨.bl (g i j),H,I,rfl,q⟩
def B4z (i j:Int):Prop:=0<=j/\j<=1000000/\i.natAbs<2^64
def A9r (i j:Int):Prop:=(-(2^64)<i/\i<2^64)\/(-(2^64)<j/\j<2^64)
theorem A9r.ok {i j:Int}(h:A9r i j):IntMulOk i j:=by
 rcases h with ⟨h1,h2⟩ | ⟨h1,h2⟩
 ·exact .of_left (intBits_le_64 h1 h2)
 ·exact .of_right (intBits_le_64 h1 h2)
theorem Q4:OpR X (binaryOp .Add) (rI0 λi j=>.int (i+j)):=C1f λJ J J J J J J q=>add_int q
theorem A5b:OpR X (binaryOp .Sub) (rI0 λi j=>.int (i-j)):=C1f λJ J J J J J J q=>sub_int q
theorem A1z:OpR X (binaryOp .Mult) (rI A9r λi j=>.int (i*j)):=opI λJ J J J J J J hc q=>mul_int q hc.ok
theorem A2n:OpR X (binaryOp .Mod) (rI (λJ j=>0<j) λi j=>.int (i%j)):=opI λi j J J J J J hc q=>by
 have h1:(0:Int)<j:=hc;exact mod_int' (by omega) (by rw[Int.fmod_eq_emod_of_nonneg i (by omega)];exact q)
theorem V7:OpR X (binaryOp .Pow) (rI B4z λi j=>.int (i^j.toNat)):=opI λJ J J J J J J hc q=>pow_int_small hc.1 hc.2.1 hc.2.2 q
theorem unI {f:Value->Sem Value}{g:Int->Int}
  (rule:∀(i:Int)(t:Tok)(s:Shared)(Q:Value->Shared->Prop)(E:Value->Shared->Prop),Q (.int (g i) s.toks) { s with toks:=s.toks+1 }->wpAny (model X.prog X.w) X.A (f (.int i t)) Q E s) :
  UnR X f (rU λi=>.int (g i)):=by
 intros x v Q I rx h;let⟨i,rfl,q⟩:=h;let⟨t,rfl⟩:=rx;exact rule i t s _ _ ⟨.int (g i),H,I.tok _,⟨_,rfl⟩,q⟩
theorem C9r:UnR X (unaryOp .USub) (rU λi=>.int (-i)):=unI λJ J J J J q=>neg_int q
end
def C1g:V->V->Bool
 | .non,.non=>true | .non,.int _=>true | .int _,.non=>true | .non,.bl _=>true | .bl _,.non=>true | .non,.str _=>true | .str _,.non=>true
 | .int _,.int _=>true | .bl _,.bl _=>true | .str _,.str _=>true | .byt _,.byt _=>true
 | .int _,.str _=>true | .str _,.int _=>true | .bl _,.str _=>true | .str _,.bl _=>true
 | _,_=>false
def rEq:R2:=λx y H Q=>C1g x y=true/\Q (.bl (decide (x=y))) H
def rNe:R2:=λx y H Q=>C1g x y=true/\Q (.bl (not (decide (x=y)))) H
theorem C1h {i j:Int}:decide (V.int i=V.int j)=(i == j):=by
 rw[A3i];simp
theorem C1i {i j:Bool}:decide (V.bl i=V.bl j)=(i == j):=by
 rw[A3i];simp
theorem C1j {i j:Str}:decide (V.str i=V.str j)=(i == j):=by
 rw[A3i];simp
theorem C1k {i j:Array UInt8}:decide (V.byt i=V.byt j)=(i.toList == j.toList):=by
 rw[A3i];cases i;cases j;simp
section
variable {a b c:Expr}{tc:TE}
theorem N0 {pins:!(Addr×Obj)}{σ:St}{H:Hp}{s:Shared}{Q:VK}{k k':Bool}(I:Inv X pins σ H s)(q:Q (.bl k) H)(e:k=k'):EP X pins σ Q (.bool k') s:=by
 subst e;exact⟨.bl k,H,I,rfl,q⟩
theorem m7:OpR X (compareOp .Eq) rEq:=by
 intros x y v u Q I rx ry h;let⟨hs,q⟩:=h;cases x with
 | non=>
  cases rx;cases y with
  | non=>cases ry;exact PySem.EqNone.eq_none_none (N0 I q (by simp))
  | bl j=>cases ry;exact PySem.EqNone.eq_none_bool (N0 I q (by simp))
  | int j=>let⟨t',rfl⟩:=ry;exact PySem.EqNone.eq_none_int (N0 I q (by simp))
  | str j=>let⟨t',rfl⟩:=ry;exact PySem.EqNone.eq_none_str (N0 I q (by simp))
  | _=>exact absurd (show false=true from hs) Q2
 | bl i=>
  cases rx;cases y with
  | non=>cases ry;exact PySem.EqNone.eq_bool_none (N0 I q (by simp))
  | bl j=>cases ry;exact eq_bool (N0 I q C1i)
  | str j=>let⟨t',rfl⟩:=ry;exact PySem.EqMixed.eq_bool_str (N0 I q (by simp))
  | _=>exact absurd (show false=true from hs) Q2
 | int i=>
  let⟨t,rfl⟩:=rx;cases y with
  | non=>cases ry;exact PySem.EqNone.eq_int_none (N0 I q (by simp))
  | int j=>let⟨t',rfl⟩:=ry;exact eq_int (N0 I q C1h)
  | str j=>let⟨t',rfl⟩:=ry;exact PySem.EqMixed.eq_int_str (N0 I q (by simp))
  | _=>exact absurd (show false=true from hs) Q2
 | str i=>
  let⟨t,rfl⟩:=rx;cases y with
  | non=>cases ry;exact PySem.EqNone.eq_str_none (N0 I q (by simp))
  | bl j=>cases ry;exact PySem.EqMixed.eq_str_bool (N0 I q (by simp))
  | int j=>let⟨t',rfl⟩:=ry;exact PySem.EqMixed.eq_str_int (N0 I q (by simp))
  | str j=>let⟨t',rfl⟩:=ry;exact eq_str (N0 I q C1j)
  | _=>exact absurd (show false=true from hs) Q2
 | byt i=>
  let⟨t,rfl⟩:=rx;cases y with
  | byt j=>let⟨t',rfl⟩:=ry;exact PySem.W.eq_bytes (N0 I q C1k)
  | _=>exact absurd (show false=true from hs) Q2
 | _=>cases y <;> exact absurd (show false=true from hs) Q2
theorem A9s:OpR X (compareOp .NotEq) rNe:=by
 intros x y v u Q I rx ry h;let⟨hs,q⟩:=h;cases x with
 | non=>
  cases rx;cases y with
  | non=>cases ry;exact PySem.EqNone.ne_none_none (N0 I q (by simp))
  | bl j=>cases ry;exact PySem.EqNone.ne_none_bool (N0 I q (by simp))
  | int j=>let⟨t',rfl⟩:=ry;exact PySem.EqNone.ne_none_int (N0 I q (by simp))
  | str j=>let⟨t',rfl⟩:=ry;exact PySem.EqNone.ne_none_str (N0 I q (by simp))
  | _=>exact absurd (show false=true from hs) Q2
 | bl i=>
  cases rx;cases y with
  | non=>cases ry;exact PySem.EqNone.ne_bool_none (N0 I q (by simp))
  | bl j=>cases ry;exact ne_bool (N0 I q (congrArg not C1i))
  | str j=>let⟨t',rfl⟩:=ry;exact PySem.EqMixed.ne_bool_str (N0 I q (by simp))
  | _=>exact absurd (show false=true from hs) Q2
 | int i=>
  let⟨t,rfl⟩:=rx;cases y with
  | non=>cases ry;exact PySem.EqNone.ne_int_none (N0 I q (by simp))
  | int j=>let⟨t',rfl⟩:=ry;exact ne_int (N0 I q (congrArg not C1h))
  | str j=>let⟨t',rfl⟩:=ry;exact PySem.EqMixed.ne_int_str (N0 I q (by simp))
  | _=>exact absurd (show false=true from hs) Q2
 | str i=>
  let⟨t,rfl⟩:=rx;cases y with
  | non=>cases ry;exact PySem.EqNone.ne_str_none (N0 I q (by simp))
  | bl j=>cases ry;exact PySem.EqMixed.ne_str_bool (N0 I q (by simp))
  | int j=>let⟨t',rfl⟩:=ry;exact PySem.EqMixed.ne_str_int (N0 I q (by simp))
  | str j=>let⟨t',rfl⟩:=ry;exact ne_str (N0 I q (congrArg not C1j))
  | _=>exact absurd (show false=true from hs) Q2
 | byt i=>
  let⟨t,rfl⟩:=rx;cases y with
  | byt j=>let⟨t',rfl⟩:=ry;exact PySem.W.ne_bytes (N0 I q (congrArg not C1k))
  | _=>exact absurd (show false=true from hs) Q2
 | _=>cases y <;> exact absurd (show false=true from hs) Q2
theorem A2o:OpR X (compareOp .Lt) (rI0 λi j=>.bl (decide (i<j))):=B1w λJ J J J J J J q=>lt_int q
theorem X8:OpR X (compareOp .LtE) (rI0 λi j=>.bl (decide (i<=j))):=B1w λJ J J J J J J q=>le_int q
theorem A3r:OpR X (compareOp .Gt) (rI0 λi j=>.bl (decide (j<i))):=B1w λJ J J J J J J q=>gt_int q
theorem B40:OpR X (compareOp .GtE) (rI0 λi j=>.bl (decide (j<=i))):=B1w λJ J J J J J J q=>ge_int q
theorem C9s:OpR X (compareOp .In) (λx y H Q=>∃i j,x=.str i/\y=.str j/\Q (.bl (not ((Builtin.Str.occurrences j i 0 j.length 1).isEmpty))) H):=by
 intros x y v u Q I rx ry h;let⟨i,j,rfl,rfl,q⟩:=h;let⟨t,rfl⟩:=rx;let⟨t',rfl⟩:=ry;exact in_str (N0 I q rfl)
theorem t9:OpR X (compareOp .Is) (λx y H Q=>y=.non/\Q (.bl (decide (x=.non))) H):=by
 intros x y v u Q I rx ry h;let⟨rfl,q⟩:=h;cases ry;refine is_none_gen (N0 I q ?_);cases x <;> first
  | (cases rx;rfl)
  | (let⟨t,rfl⟩:=rx;rfl)
theorem A5c:OpR X (compareOp .IsNot) (λx y H Q=>y=.non/\Q (.bl (not (decide (x=.non)))) H):=by
 intros x y v u Q I rx ry h;let⟨rfl,q⟩:=h;cases ry;refine isnot_none_gen (N0 I q ?_);cases x <;> first
  | (cases rx;rfl)
  | (let⟨t,rfl⟩:=rx;rfl)
theorem F6 (b:Expr){op:CmpOp}(h:autoParam (op≠.In) DD._auto_1)(h2:autoParam (op≠.NotIn) DD._auto_1):behindInMarks op b=false:=by
 have e1:(op == CmpOp.In)=false:=by cases op <;> first | rfl | exact absurd rfl h
 have e2:(op == CmpOp.NotIn)=false:=by cases op <;> first | rfl | exact absurd rfl h2
 cases b <;> simp [behindInMarks,e1,e2]
theorem A3s {op:CmpOp}{r:R2}(ho:OpR X (compareOp op) r)(ha:PE X a ta)(hb:PE X b tb)(hm:behindInMarks op b=false):PE X (.Compare a [op] [b] pos) (tOp r ta tb):=by
 intros Q I h;exact wpAny_Compare1 (B4y ha hb I h λv u s2 x y H2 I2 rx ry q=>ho pins s2 σ H2 x y v u Q I2 rx ry q) hm
def C1l (t:TE):TT:=fun σ H Q=>t σ H λx H'=>∃k,x=.bl k/\Q k H'
theorem P9 {op:CmpOp}{r:R2}(ho:OpR X (compareOp op) r)(ha:PE X a ta)(hb:PE X b tb)(hm:behindInMarks op b=false):PT X (.Compare a [op] [b] pos) (C1l (tOp r ta tb)):=by
 intros Q I h;refine wpAny_isTrue_Compare1 (thn (ha pins s σ H _ I h) λv s1 zz60=>el5 zz60 λx H1 I1 r1 q1=>thn (hb pins s1 σ H1 _ I1 q1) λu s2 zz61=>el5 zz61 λy H2 I2 r2 q2=>
  thn (ho pins s2 σ H2 x y v u _ I2 r1 r2 q2) λc s3 zz62=>zz62.elim λz zz63=>zz63.elim λH3 zz64=>zz64.elim λI3 zz65=>zz65.elim λr3 zz66=>zz66.elim λk zz67=>zz67.elim λe q3=>?_) hm
 subst e;cases r3;exact wpAny_truthy_bool ⟨H3,I3,q3⟩
def B41 (r r':R2)(ta tb tc:TE):TE:=fun σ H Q=>ta σ H λx H1=>tb σ H1 λy H2=>r x y H2 λz H3=>∃k,z=.bl k/\
 (if k=true then tc σ H3 λw' H4=>r' y w' H4 Q else Q (.bl false) H3)
theorem C9t {op op':CmpOp}{r r':R2}(ho:OpR X (compareOp op) r)(ho':OpR X (compareOp op') r')(ha:PE X a ta)(hb:PE X b tb)(hc:PE X c tc)
  (hm:autoParam (lastMarks [op,op'] [b,c]=false) A4P._auto_1):PE X (.Compare a [op,op'] [b,c] pos) (B41 r r' ta tb tc):=by
 intros Q I h;refine Compare_chain (thn (ha pins s σ H _ I h) λv s1 zz68=>el5 zz68 λx H1 I1 r1 q1=>chain_link (thn (hb pins s1 σ H1 _ I1 q1) λu s2 zz69=>el5 zz69 λy H2 I2 r2 q2=>
  thn (ho pins s2 σ H2 x y v u _ I2 r1 r2 q2) λd s3 zz70=>zz70.elim λz zz71=>zz71.elim λH3 zz72=>zz72.elim λI3 zz73=>zz73.elim λr3 zz74=>zz74.elim λk zz75=>zz75.elim λe q3=>?_)) hm
 subst e;cases r3;refine wpAny_truthy_bool ?_;cases k with
 | false=>exact ite_ff ⟨.bl false,H3,I3,rfl,q3⟩
 | true=>exact ite_tt (chain_last (thn (hc pins s3 σ H3 _ I3 q3) λw' s4 zz76=>el5 zz76 λz' H4 I4 r4 q4=>ho' pins s4 σ H4 y z' u w' Q I4 r2 r4 q4))
theorem B1x {op op':CmpOp}{r r':R2}(ho:OpR X (compareOp op) r)(ho':OpR X (compareOp op') r')(ha:PE X a ta)(hb:PE X b tb)(hc:PE X c tc)
  (hm:autoParam (lastMarks [op,op'] [b,c]=false) A4P._auto_1):PT X (.Compare a [op,op'] [b,c] pos) (C1l (B41 r r' ta tb tc)):=by
 intros Q I h;refine isTrue_chain (thn (ha pins s σ H _ I h) λv s1 zz77=>el5 zz77 λx H1 I1 r1 q1=>test_link (thn (hb pins s1 σ H1 _ I1 q1) λu s2 zz78=>el5 zz78 λy H2 I2 r2 q2=>
  thn (ho pins s2 σ H2 x y v u _ I2 r1 r2 q2) λd s3 zz79=>zz79.elim λz zz80=>zz80.elim λH3 zz81=>zz81.elim λI3 zz82=>zz82.elim λr3 zz83=>zz83.elim λk zz84=>zz84.elim λe q3=>?_)) hm
 subst e;cases r3;refine wpAny_truthy_bool ?_;cases k with
 | false=>let⟨k',e',q'⟩:=q3;cases e';exact ite_ff ⟨H3,I3,q'⟩
 | true=>refine ite_tt (test_last (thn (hc pins s3 σ H3 _ I3 q3) λw' s4 zz85=>el5 zz85 λz' H4 I4 r4 q4=>thn (ho' pins s4 σ H4 y z' u w' _ I4 r2 r4 q4) λd' s5 zz86=>zz86.elim λz2 zz87=>zz87.elim λH5 zz88=>zz88.elim λI5 zz89=>zz89.elim λr5 zz90=>zz90.elim λk2 zz91=>zz91.elim λe2 q5=>?_));subst e2;cases r5;exact wpAny_truthy_bool ⟨H5,I5,q5⟩
theorem A5d:(sizeLine:Nat)<2^63:=by rw[sizeLine_eq];decide
theorem X9 {x:V}{us:!Value}(r:E1 [x] us):∃u,us=[u]/\F1 x u:=by
 cases r with
 | cons r1 r2=>cases r2;exact⟨_,rfl,r1⟩
theorem B1y {x y:V}{us:!Value}(r:E1 [x,y] us):∃u w',us=[u,w']/\F1 x u/\F1 y w':=by
 cases r with
 | cons r1 r2=>
  cases r2 with
  | cons r3 r4=>cases r4;exact⟨_,_,rfl,r1,r3⟩
theorem C1m:X7 X (.builtin "abs") (λxs H Q=>∃i,xs=[.int i]/\Q (.int (if i<0 then -i else i)) H):=by
 intros xs us Q I r h;let⟨i,rfl,q⟩:=h;let⟨u,rfl,t,rfl⟩:=X9 r;exact call_abs_int λu tk=>⟨.int (if i<0 then -i else i),H,I.tok _,⟨_,rfl⟩,q⟩
theorem B1z (hc:X.calm=true):X7 X (.builtin "max") (λxs H Q=>∃i j,xs=[.int i,.int j]/\Q (.int (if j>i then j else i)) H):=by
 intros xs us Q I r h;let⟨i,j,rfl,q⟩:=h;let⟨u,w',rfl,⟨t,rfl⟩,⟨t',rfl⟩⟩:=B1y r;refine max_two_ints (I.ok.hd hc) λh' tk k=>⟨_,H,I.kept k,?_,q⟩;by_cases hj:j>i
 ·rw[if_pos hj,if_pos hj];exact⟨_,rfl⟩
 ·rw[if_neg hj,if_neg hj];exact⟨_,rfl⟩
theorem A5e (hc:X.calm=true):X7 X (.builtin "min") (λxs H Q=>∃i j,xs=[.int i,.int j]/\Q (.int (if j<i then j else i)) H):=by
 intros xs us Q I r h;let⟨i,j,rfl,q⟩:=h;let⟨u,w',rfl,⟨t,rfl⟩,⟨t',rfl⟩⟩:=B1y r;refine min_two_ints (I.ok.hd hc) λh' tk k=>⟨_,H,I.kept k,?_,q⟩;by_cases hj:j<i
 ·rw[if_pos hj,if_pos hj];exact⟨_,rfl⟩
 ·rw[if_neg hj,if_neg hj];exact⟨_,rfl⟩
theorem C1n:X7 X (.type "int") (λxs H Q=>(∃i,xs=[.int i]/\Q (.int i) H)\/∃k,xs=[.bl k]/\Q (.int (if k then 1 else 0)) H):=by
 intros xs us Q I r h;rcases h with ⟨i,rfl,q⟩ | ⟨k,rfl,q⟩
 ·let⟨u,rfl,t,rfl⟩:=X9 r;exact call_int_int ⟨.int i,H,I,⟨_,rfl⟩,q⟩
 ·let⟨u,rfl,r1⟩:=X9 r;cases r1;exact call_int_bool ⟨.int (if k then 1 else 0),H,I.tok _,⟨_,rfl⟩,q⟩
theorem W7:X7 X (.type "str") (λxs H Q=>∃i,xs=[.int i]/\i.natAbs.log2<1920/\Q (.str (toString i)) H):=by
 intros xs us Q I r h;let⟨i,rfl,hz,q⟩:=h;let⟨u,rfl,t,rfl⟩:=X9 r;exact PySem.P.str_of_int hz ⟨.str _,H,I.tok _,⟨_,rfl⟩,q⟩
end
structure A5f (h:Heap)(x dx C:Addr)(mA:Str->Option Value):Prop where
 obj:h.get? x=some (A7d C dx)
 ns:h.Ns1 dx mA
 ne:dx≠x
set_option tactic.hygienic true in
theorem C9u {h:Heap}{dx:Addr}{mA:Str->Option Value}(n:h.Ns1 dx mA):∃od,h.get? dx=some od/\∀name,C0i name od=some (mA name):=by
 let⟨o,es,ep,ho,hd,hk,_,hm⟩:=n;refine⟨o,ho,λname=>?_⟩;have e:=hm name;unfold nsFind findBy at e;rw[<-Array.find?_toList] at e;unfold C0i;rw[hd];dsimp only;split
 ·rename_i y q;rw[q] at e;exact congrArg some e
 ·rename_i q;rw[q] at e;have a:es.toList.any (·.refKey)=false:=by
   rw[List.any_eq_false];intro y hy;let⟨z,t,hkey⟩:=hk y (Array.mem_toList_iff.mp hy);simp [DictEntry.refKey,hkey]
  have a':¬ es.toList.any (·.refKey)=true:=by rw[a];exact Q2
  rw[if_neg a'];exact congrArg some e
theorem A5f.look {h:Heap}{x dx C:Addr}{mA:Str->Option Value}(I:A5f h x dx C mA):∃od,PySem.W.InstAt h x (A7d C dx) C (some od)/\∀name,C0i name od=some (mA name):=
 let ⟨od,ho,hl⟩:=C9u I.ns
 ⟨od,⟨I.obj,rfl,rfl,ho⟩,hl⟩
variable {A:Around}{dx C f:Addr}
section
variable {prog:Program}{w:World}{K:A8}{x:Addr}{mA:Str->Option Value}{name:Str}{v:Value}
theorem C9v {expr:Bool}{Q:Value->Shared->Prop}(X:K.In s.heap)(I:A5f s.heap x dx C mA)(hg:C0j K C name=true)(hh:PySem.W.hasDictIn K C=true)
  (ha:A1q K (.ref C) name=some none) (hv:mA name=some v) (hv':PySem.W.handedIn v=true) (h:Q v { s with toks:=s.toks+1 }) :
  wpAny (model prog w) A (getAttr (.ref x) name expr) Q E s:=by
 let⟨od,J,hl⟩:=I.look;exact PySem.W.get_value X J (C8f hg).1 (PySem.W.findObj_own hh ha rfl (by rw[hl,hv])) hv' h
theorem C9w {pl:Sem Bool}{Q:Value×!Value->Shared->Prop}(X:K.In s.heap)(I:A5f s.heap x dx C mA)(hg:C0j K C name=true)
  (hf:A1q K (.ref C) name=some (some (.ref f))) (ht:PySem.W.isFn K (.ref f)=true) (hv:mA name=none) (h:Q (.ref f,[.ref x]) s) :
  wpAny (model prog w) A (getMethod (.ref x) name pl) Q E s:=by
 let⟨od,J,hl⟩:=I.look;exact PySem.W.method_fn X J (C8f hg).1 (C8f hg).2 hf (beq_iff_eq.mp ht) (by show (C0i name od).map (·.isSome)=some false;rw[hl,hv];rfl) h
theorem C9x {ns:!Str}{Q:Unit->Shared->Prop}(X:K.In s.heap)(I:A5f s.heap x dx C mA)
  (hs:A1q K (.ref C) "__setattr__" = some (some (.builtin "object.__setattr__"))) (hp:PySem.W.plainOver K C=true) (ht:PySem.W.takerIn K C name=some none) (hh:PySem.W.hasDictIn K C=true)
  (hw:PySem.Within mA ns) (hsz:ns.length<=sizeLine)
  (h:∀h',A5f h' x dx C (λy=>if y=name then some v else mA y)->Heap.SameBut dx s.heap h'->Q () { s with heap:=h',toks:=s.toks+2 }) :
  wpAny (model prog w) A (setAttr (.ref x) name v) Q E s:=by
 let⟨od,J,hl⟩:=I.look;refine PySem.W.set_plain X J hs (PySem.W.osa_open (s:={ s with toks:=s.toks+1 }) (r:=none) X J hp ht λb=>?_);let⟨cd,hc,hd'⟩:=PySem.W.any_some hh;have hx:s.heap.get? x=some ⟨.ref C,some dx,.plain,#[]⟩:=I.obj;refine wpAny_bind (wpAny_pure (wpAny_bind (wpAny_bind (wpAny_loadPart hx (wpAny_bind (PySem.W.Looks.here (s:={ s with toks:=s.toks+1 }) (PySem.W.looks_clsIn X hc) ?_))))));rw[hd'];refine wpAny_pure (a:=some dx) (wpAny_bind (wpAny_pure (wpAny_bind ?_)));refine wpAny_nsSet1 (s:={ s with toks:=s.toks+1 }) I.ns λh' hn2 hs2=>?_;let⟨oD,esD,epD,hoD,hdD,hcD⟩:=hn2.count (PySem.Within.cons name v hw);refine wpAny_bind (wpAny_lookBehind hoD (by rw[hdD];exact pastItsLine_dict (M0 hcD (by rw[J6];omega))) ?_);exact wpAny_pure (h _ ⟨(hs2.2 _ (Ne.symm I.ne)).trans I.obj,hn2,I.ne⟩ hs2)
theorem C9y {R:Result->Shared->Prop}{vs:!Value}{kw:!(Str×Value)}(X:K.In s.heap)(hm:PySem.W.makesIn K C=true)
  (hi:A1q K (.ref C) "__init__" = some (some (.ref f))) (hf:PySem.W.typeIn K (.ref f)=some (.type "function"))
  (h:codeAny (model prog w) (A.under (.builtin "type.__call__" ⟨.ref C::vs,kw⟩)) (.call (.ref f) ⟨.ref (s.heap.objs.size+1)::vs,kw⟩) (PySem.W.InitBack (s.heap.objs.size+1) R)
   { s with heap:=(s.heap.push A42).push (A7d C s.heap.objs.size) }) :
  codeAny (model prog w) A (.call (.ref C) ⟨vs,kw⟩) R s:=by
 let⟨hh,g,d,t,os⟩:=s;exact PySem.W.make_core (PySem.W.makes_of X hm) (PySem.W.looks_findIn X hi) (λself=>PySem.W.bind_fn X self hf) (.inl rfl) h
end
def T4 (f:Str)(v:V):!(Str×V)->!(Str×V)
 | []=>[(f,v)]
 | (g,x)::r=>if g=f then (g,v)::r else (g,x)::T4 f v r
theorem C1o (f g:Str)(v:V):∀fs:!(Str×V),(T4 f v fs).lookup g=if g=f then some v else fs.lookup g
 | []=>by
  show A9j g [(f,v)]=_;by_cases h:g=f
  ·have hb:(g == f)=true:=beq_iff_eq.mpr h;simp only[A9j,hb,if_pos h]
  ·have hb:(g == f)=false:=beq_eq_false_iff_ne.mpr h;simp only[A9j,hb,if_neg h]
 | (k,x)::r=>by
  have ih:=C1o f g v r;rw[show T4 f v ((k,x)::r)=(if k=f then (k,v)::r else (k,x)::T4 f v r) from rfl];by_cases hk:k=f
  ·rw[if_pos hk];by_cases h:g=k
   ·have hb:(g == k)=true:=beq_iff_eq.mpr h;simp only[A9j,hb,if_pos (h.trans hk)]
   ·have hb:(g == k)=false:=beq_eq_false_iff_ne.mpr h;simp only[A9j,hb,if_neg (λe:g=f=>h (e.trans hk.symm))]
  ·rw[if_neg hk];by_cases h:g=k
   ·have hb:(g == k)=true:=beq_iff_eq.mpr h;simp only[A9j,hb,if_neg (λe:g=f=>hk (h.symm.trans e))]
   ·have hb:(g == k)=false:=beq_eq_false_iff_ne.mpr h;simp only[A9j,hb];exact ih
theorem B42 (f:Str)(v:V):∀fs:!(Str×V),f∈(T4 f v fs).map (·.1)/\∀g,g∈fs.map (·.1)->g∈(T4 f v fs).map (·.1)
 | []=>⟨by simp [T4],λg h=>by simp at h⟩
 | (k,x)::r=>by
  let⟨i1,i2⟩:=B42 f v r;rw[show T4 f v ((k,x)::r)=(if k=f then (k,v)::r else (k,x)::T4 f v r) from rfl];by_cases hk:k=f
  ·rw[if_pos hk];subst hk;exact⟨by simp,λg h=>by simpa using h⟩
  ·rw[if_neg hk];refine⟨?_,λg h=>?_⟩
   ·rw[K9];exact E3 _ i1
   ·rw[K9] at h ⊢;rcases K7.mp h with e | e
    ·exact K7.mpr (.inl e)
    ·exact E3 _ (i2 g e)
theorem C1p (f:Str)(v:V):∀fs:!(Str×V),(T4 f v fs).length<=fs.length+1
 | []=>by simp [T4]
 | (k,x)::r=>by
  have ih:=C1p f v r;rw[show T4 f v ((k,x)::r)=(if k=f then (k,v)::r else (k,x)::T4 f v r) from rfl];by_cases hk:k=f
  ·rw[if_pos hk,J6,J6];omega
  ·rw[if_neg hk,J6,J6];omega
theorem W5.some_of {v:V}{o:Option Value}(r:W5 (some v) o):∃u,o=some u/\F1 v u:=by
 cases o with
 | none=>exact (show False from r).elim
 | some u=>exact⟨u,rfl,r⟩
theorem W5.none_of {o:Option Value}(r:W5 none o):o=none:=by
 cases o with
 | none=>rfl
 | some u=>exact (show False from r).elim
theorem C9z {v:V}{u:Value}(r:F1 v u):PySem.W.handedIn u=true:=by
 cases v with
 | non=>cases (show u=Value.none from r);rfl
 | bl b=>cases (show u=Value.bool b from r);rfl
 | int i=>let⟨t,e⟩:=(show ∃t,u=Value.int i t from r);cases e;rfl
 | str x=>let⟨t,e⟩:=(show ∃t,u=Value.str x t from r);cases e;rfl
 | byt b=>let⟨t,e⟩:=(show ∃t,u=Value.bytes b t from r);cases e;rfl
 | flt b=>let⟨t,e⟩:=(show ∃t,u=Value.float b t from r);cases e;rfl
 | ref a=>cases (show u=Value.ref a from r);rfl
 | ty n=>cases (show u=Value.type n from r);rfl
section
variable {P:Program}{w:World}{fs fs':!(Str×V)}
theorem B10 (hok:HOk P w H h)(e:H a=some (.ins C dx fs)):∃mA,A5f h a dx C mA/\(∀f,W5 (fs.lookup f) (mA f))/\PySem.Within mA (fs.map (·.1))/\fs.length<=1000/\H dx=some (.own a):=by
 let⟨d,z,ne,ob,mA,n,r,q⟩:=(show N3 P w H h a (.ins C dx fs) from hok a _ e);exact⟨mA,⟨ob,n,ne⟩,r,q,z,d⟩
end
structure Cls (K:A8)(C:Addr):Prop where
 pg:C0j K C Str.empty=true
 hd:PySem.W.hasDictIn K C=true
 po:PySem.W.plainOver K C=true
 sa:A1q K (.ref C) "__setattr__" = some (some (.builtin "object.__setattr__"))
theorem Cls.get {K:A8}{C:Addr}(c:Cls K C)(f:Str):C0j K C f=true:=c.pg
def A0z (K:A8)(C:Addr)(f:Str):Prop:=A1q K (.ref C) f=some none
theorem A0z.taker {K:A8}{C:Addr}{f:Str}(n:A0z K C f):PySem.W.takerIn K C f=some none:=by
 unfold PySem.W.takerIn;rw[show A1q K (.ref C) f=some none from n];rfl
structure B11 (K:A8)(C:Addr)(m:Str)(f:Addr):Prop where
 at_:A1q K (.ref C) m=some (some (.ref f))
 fn:PySem.W.isFn K (.ref f)=true
 kp:A7f K (.ref f)=true
section
variable {fs:!(Str×V)}{f:Str}{v:V}
theorem C90 {b:Bool}{Q:Value->Shared->Prop}(I:Inv X pins σ H s)(e:H a=some (.ins C dx fs))(c:Cls X.K C)(n:A0z X.K C f)(l:fs.lookup f=some v)
  (h:∀u s',Inv X pins σ H s'->F1 v u->Q u s'):wpAny (model X.prog X.w) A (getAttr (.ref a) f b) Q E s:=by
 let⟨mA,O,r,_,_,_⟩:=B10 I.hok e;let⟨u,hu,ru⟩:=W5.some_of (v:=v) (o:=mA f) (by rw[<-l];exact r f);exact C9v I.kIn O (c.get f) c.hd n hu (C9z ru) (h u _ (I.tok _) ru)
theorem C1q {m:Str}{g:Addr}{pl:Sem Bool}{Q:Value×!Value->Shared->Prop}(I:Inv X pins σ H s)(e:H a=some (.ins C dx fs))(c:Cls X.K C)(k:B11 X.K C m g)(l:fs.lookup m=none)
  (h:Q (.ref g,[.ref a]) s):wpAny (model X.prog X.w) A (getMethod (.ref a) m pl) Q E s:=by
 let⟨mA,O,r,_,_,_⟩:=B10 I.hok e;have hn:mA m=none:=W5.none_of (by rw[<-l];exact r m);exact C9w I.kIn O (c.get m) k.at_ k.fn hn h
theorem C91 {y:V}{u:Value}{Q:Unit->Shared->Prop}(I:Inv X pins σ H s)(e:H a=some (.ins C dx fs))(c:Cls X.K C)(n:A0z X.K C f)(hl:fs.length<1000)(ry:F1 y u)
  (h:∀s',Inv X pins σ (upd H a (.ins C dx (T4 f y fs))) s'->Q () s'):wpAny (model X.prog X.w) A (setAttr (.ref a) f u) Q E s:=by
 let⟨mA,O,r,wi,_,ho⟩:=B10 I.hok e;have hz:(fs.map (·.1)).length<=sizeLine:=by rw[B7,sizeLine_eq];omega
 refine C9x I.kIn O c.sa c.po n.taker c.hd wi hz λh' O' sb=>h _ ?_;have hd:∃o,h'.get? dx=some o:=let ⟨o,_,_,e',_⟩:=O'.ns;⟨o,e'⟩;refine I.write (x:=a) (e:=dx) (by rw[e];exact True.intro) (.inr ho) (λb q hb z=>(sb.2 b hb).trans z) hd ?_;refine⟨by rw[C4 O.ne];exact ho,?_,O.ne,O'.obj,_,O'.ns,λg=>?_,λg hg=>?_⟩
 ·have:=C1p f y fs;omega
 ·show W5 ((T4 f y fs).lookup g) (if g=f then some u else mA g);rw[C1o];by_cases q:g=f
  ·rw[if_pos q,if_pos q];exact ry
  ·rw[if_neg q,if_neg q];exact r g
 ·by_cases q:g=f
  ·rw[q];exact (B42 f y fs).1
  ·refine (B42 f y fs).2 g (wi g λz=>hg ?_);show (if g=f then some u else mA g)=none;rw[if_neg q];exact z
theorem Inv.made (I:Inv X pins σ H s):Inv X pins σ (upd (upd H s.heap.objs.size (.own (s.heap.objs.size+1))) (s.heap.objs.size+1) (.ins C s.heap.objs.size []))
  { s with heap:=(s.heap.push A42).push (A7d C s.heap.objs.size) }:=by
 have e1:(s.heap.push A42).get? s.heap.objs.size=some A42:=U3 s.heap rfl;have e2:((s.heap.push A42).push (A7d C s.heap.objs.size)).get? (s.heap.objs.size+1)=some (A7d C s.heap.objs.size):=by
  have:=U3 (s.heap.push A42) (o:=A7d C s.heap.objs.size) rfl
  rwa [C0k] at this
 have e3:(s.heap.push A42).Ns s.heap.objs.size (λJ=>none):=⟨A42,#[],_,e1,rfl,(λe he=>absurd he (by simp)),λJ=>rfl⟩;have I1:=I.laid (a:=s.heap.objs.size) (o:=.own (s.heap.objs.size+1)) (h':=s.heap.push A42) (t':=s.toks) (λb u q=>Q3 _ q) (G3 _) ⟨_,e1⟩;refine I1.laid (a:=s.heap.objs.size+1) (o:=.ins C s.heap.objs.size []) (t':=s.toks) (λb u q=>Q3 _ q) (Nat.le_of_eq (C0k _ _)) ?_;have ne:s.heap.objs.size≠s.heap.objs.size+1:=S5 (C0l _);refine⟨by rw[C4 ne,B9],Q7 _,ne,e2,λJ=>none,(Heap.Ns1.of_empty e3).at λo q=>Q3 _ q,λJ=>True.intro,λy hy=>absurd rfl hy⟩
theorem C92 {prog:Program}{w:World}{env:Env}{e:Expr}{f:Str}{pos:Pos}{s:Shared}{Q:Value->Shared->Prop}(hb:attributeBase e f env (eval e env)=eval e env)
  (h:wpAny (model prog w) A (eval e env) (λo s₁=>wpAny (model prog w) A (getAttr o f true) Q E s₁) E s):wpAny (model prog w) A (eval (.Attribute e f pos) env) Q E s:=
 Attribute_any_ h (by rw[arm_eval_Attribute,hb])
end
def C93 (K:A8)(ta:TE)(f:Str):TE:=fun σ H Q=>ta σ H λx H1=>∃a C dx fs v,x=.ref a/\H1 a=some (.ins C dx fs)/\Cls K C/\A0z K C f/\fs.lookup f=some v/\Q v H1
def C94 (K:A8)(ta tv:TE)(f:Str):TS:=λD σ H=>tv σ H λy H1=>ta σ H1 λx H2=>∃a C dx fs,x=.ref a/\H2 a=some (.ins C dx fs)/\Cls K C/\A0z K C f/\fs.length<1000/\
 D.nx σ (upd H2 a (.ins C dx (T4 f y fs)))
variable {o:Expr}
section
variable {value:Expr}{f:Str}{pos' tpos:Pos}{tv:TE}
theorem Q9 (he:PE X e ta)(hb:attributeBase e f X.env (eval e X.env)=eval e X.env):PE X (.Attribute e f pos) (C93 X.K ta f):=by
 intros Q I h;refine C92 hb (thn (he pins s σ H _ I h) λu s1 zz93=>zz93.elim λx zz94=>zz94.elim λH1 zz95=>zz95.elim λI1 zz96=>zz96.elim λrx zz97=>zz97.elim λa zz98=>zz98.elim λC zz99=>zz99.elim λdx zz100=>zz100.elim λfs zz101=>zz101.elim λv zz102=>zz102.elim λex zz103=>zz103.elim λea zz104=>zz104.elim λc zz105=>zz105.elim λn zz106=>zz106.elim λl q=>?_);subst ex;obtain rfl:u=Value.ref a:=rx;exact C90 I1 ea c n l λu' s2 I2 ru=>⟨v,H1,I2,ru,q⟩
theorem A10 (ha:PE X o ta)(hv:PE X value tv)(hs:swapsWith value (some (.Attribute o f pos')) pos.line X.env=pure false):PS X (.Assign [.Attribute o f pos'] value pos) (C94 X.K ta tv f):=by
 intros D I h;refine plainObj_wpAny_Assign_Attribute (thn (hv pins s σ H _ I h) λu s1 zz122=>el5 zz122 λy H1 I1 ry q=>thn (ha pins s1 σ H1 _ I1 q) λov s2 zz123=>zz123.elim λx zz124=>zz124.elim λH2 zz125=>zz125.elim λI2 zz126=>zz126.elim λrx zz127=>zz127.elim λa zz128=>zz128.elim λC zz129=>zz129.elim λdx zz130=>zz130.elim λfs zz131=>zz131.elim λex zz132=>zz132.elim λea zz133=>zz133.elim λc zz134=>zz134.elim λn zz135=>zz135.elim λl q2=>?_) hs;subst ex;obtain rfl:ov=Value.ref a:=rx;exact C91 I2 ea c n l ry λs3 I3=>⟨σ,_,I3,q2⟩
end
section
variable {Q:Value->Shared->Prop}{c:Value}{b:Bool}
inductive v8 (K:A8)(H:Hp):V->Value->Prop where
 | non:v8 K H .non (.type "NoneType")
 | bl (x:Bool):v8 K H (.bl x) (.type "bool")
 | int (i:Int):v8 K H (.int i) (.type "int")
 | str (x:Str):v8 K H (.str x) (.type "str")
 | flt (x:UInt64):v8 K H (.flt x) (.type "float")
 | lst {a:Addr} {xs:!V} (e:H a=some (.lst xs)):v8 K H (.ref a) (.type "list")
 | frz {a:Addr} {o:Obj} {xs:!V} (e:H a=some (.frz o (.lst xs))):v8 K H (.ref a) (.type "list")
 | tup {a:Addr} {xs:!V} (e:H a=some (.tup xs)):v8 K H (.ref a) (.type "tuple")
 | dK {a:Addr} {kvs:!(Key×V)} (e:H a=some (.dK kvs)):v8 K H (.ref a) (.type "dict")
 | dT {a:Addr} {kvs:!(!Key×V)} (e:H a=some (.dT kvs)):v8 K H (.ref a) (.type "dict")
 | ins {a C dx:Addr} {fs:!(Str×V)} (e:H a=some (.ins C dx fs)) (cl:Cls K C) (ha:A1q K (.ref C) "__class__" = some (some (.builtin "object.__class__")))
   (hn:PySem.W.specialIn K (.builtin "object.__class__") "__get__" = some (some (.builtin "getset_descriptor.__get__"))) (htk:PySem.W.takesIn K (.builtin "object.__class__")=some true)
   (hm:PySem.W.mroIn K C (.type "object")=some true):v8 K H (.ref a) (.ref C)
theorem C1r {x:V}{u t:Value}(I:Inv X pins σ H s)(rx:F1 x u)(ty:v8 X.K H x t)(e:A0t X.K t c=some b)(h:∀tk,Q (.bool b) { s with toks:=tk }) :
  wpAny (model X.prog X.w) A (call (.builtin "isinstance") [u,c]) Q E s:=by
 cases ty with
 | non=>cases (show u=Value.none from rx);exact A1r PySem.W.kitx_none I.kIn True.intro e (λz=>nomatch z) h
 | bl y=>cases (show u=Value.bool y from rx);exact A1r PySem.W.kitx_bool I.kIn True.intro e (λz=>nomatch z) h
 | int i=>let⟨t,q⟩:=(show ∃t,u=Value.int i t from rx);cases q;exact A1r PySem.W.kitx_int I.kIn True.intro e (λz=>nomatch z) h
 | str y=>let⟨t,q⟩:=(show ∃t,u=Value.str y t from rx);cases q;exact A1r PySem.W.kitx_str I.kIn True.intro e (λz=>nomatch z) h
 | flt y=>let⟨t,q⟩:=(show ∃t,u=Value.float y t from rx);cases q;exact A1r PySem.W.kitx_float I.kIn True.intro e (λz=>nomatch z) h
 | @lst a xs ea=>cases (show u=Value.ref a from rx);let⟨_,_,n,_,h1⟩:=(show N3 X.prog X.w H s.heap a (.lst xs) from I.hok a _ ea);exact A1r PySem.W.kitx_list I.kIn ⟨_,h1,rfl⟩ e (λz=>nomatch z) h
 | @frz a ob xs ea=>cases (show u=Value.ref a from rx);let⟨_,_,_,n,_,h1⟩:=(show N3 X.prog X.w H s.heap a (.frz ob (.lst xs)) from I.hok a _ ea);exact A1r PySem.W.kitx_list I.kIn ⟨_,h1,rfl⟩ e (λz=>nomatch z) h
 | @tup a xs ea=>cases (show u=Value.ref a from rx);let⟨_,_,_,p⟩:=(show N3 X.prog X.w H s.heap a (.tup xs) from I.hok a _ ea);let⟨o,h1,h2,_⟩:=p;exact A1r PySem.W.kitx_tuple I.kIn ⟨o,h1,h2⟩ e (λz=>nomatch z) h
 | @dK a kvs ea=>cases (show u=Value.ref a from rx);let⟨_,_,vs,_,p⟩:=(show N3 X.prog X.w H s.heap a (.dK kvs) from I.hok a _ ea);let⟨o,es,ep,h1,h2,_⟩:=p;exact A1r PySem.W.kitx_dict I.kIn ⟨o,h1,h2.1⟩ e (λz=>nomatch z) h
 | @dT a kvs ea=>cases (show u=Value.ref a from rx);let⟨_,_,xs,_,o,es,ep,h1,h2,_⟩:=(show N3 X.prog X.w H s.heap a (.dT kvs) from I.hok a _ ea);exact A1r PySem.W.kitx_dict I.kIn ⟨o,h1,h2.1⟩ e (λz=>nomatch z) h
 | @ins a C dx fs ea cl ha hn htk hm=>cases (show u=Value.ref a from rx);let⟨mA,O,_⟩:=B10 I.hok ea;let⟨od,J,_⟩:=O.look;exact A1r (PySem.W.kitx_own (cl.get _) cl.hd ha hn htk hm) I.kIn J e (λz=>nomatch z) h
end
structure Q5 (k:Nat)(A:Around):Prop where
 hd:A.handled=none
 dp:A.depth+3*k+5<recursionLimit
 un:A.units+16*k+200<cLine
 gd:A.guards=some []
theorem Q5.mono {j k:Nat}{A:Around}(r:Q5 k A)(h:j<=k):Q5 j A:=⟨r.hd,by have:=r.dp;omega,by have:=r.un;omega,r.gd⟩
theorem Q5.deeper {k:Nat}{A:Around}(r:Q5 (k+1) A)(env:Env):Q5 k (A.deeper env):=
 ⟨r.hd,by have:=r.dp;show A.depth+1+3*k+5<_;omega,by have:=r.un;show A.units+3+16*k+200<_;omega,r.gd⟩
theorem C95 {A:Around}{C:Addr}{us:!Value}{kw:!(Str×Value)}:(A.under (.builtin "type.__call__" ⟨.ref C::us,kw⟩)).depth=A.depth+1:=by
 first | rfl | simp [Around.under,Code.weight,Code.isCreation,Code.isGuard,Code.isCaller,Code.frames,Code.isFrame,guardIds]
theorem C96 {A:Around}{C:Addr}{us:!Value}{kw:!(Str×Value)}:(A.under (.builtin "type.__call__" ⟨.ref C::us,kw⟩)).units=A.units+1:=by
 first | rfl | simp [Around.under,Code.cUnits,Code.frames,Code.isFrame]
theorem Q5.make {k:Nat}{A:Around}(r:Q5 (k+1) A)(C:Addr)(us:!Value)(kw:!(Str×Value)):Q5 k (A.under (.builtin "type.__call__" ⟨.ref C::us,kw⟩)):=
 ⟨r.hd,by have:=r.dp;rw[C95];omega,by have:=r.un;rw[C96];omega,by first | exact r.gd | (show pushGuards _ A.guards=_;rw[r.gd];rfl)⟩
theorem Q5.depth {k:Nat}{A:Around}(r:Q5 k A):A.depth<recursionLimit:=by have:=r.dp;omega
theorem Q5.units {k:Nat}{A:Around}(r:Q5 k A):A.units+64<cLine:=by have:=r.un;omega
def W8:TA:=λJ H Q=>Q [] H
def w4 (ta:TE)(tr:TA):TA:=fun σ H Q=>ta σ H λx H1=>tr σ H1 λxs H2=>Q (x::xs) H2
variable {es:!Expr}{t:TA}
theorem A4:PA X [] W8:=λJ J J J H Q I h=>Calls.spliced_nil ⟨[],H,I,.nil,h⟩
theorem A3 (ha:PE X e te)(hr:PA X es t)(hs:autoParam (starEach (e::es) X.env=(false,eval e X.env)::starEach es X.env) RF._auto_1):PA X (e::es) (w4 te t):=by
 intro pos pins s σ H Q I h;rw[hs];show wpAny _ _ (spliced ((false,eval e X.env)::backTo pos (starEach es X.env))) _ _ s;refine Calls.spliced_cons (thn (ha pins s σ H _ I h) λu s1 zz173=>el5 zz173 λx H1 I1 r1 q1=>?_);exact thn (hr pos pins s1 σ H1 _ I1 q1) λus s2 zz174=>el5 zz174 λxs H2 I2 r2 q2=>⟨x::xs,H2,I2,.cons r1 r2,q2⟩
def C97 (t:TA):TE:=fun σ H Q=>t σ H λxs H1=>xs.length<=sizeLine/\∀p,H1 p=none->Q (.ref p) (upd H1 p (.tup xs))
def C98 (t:TA):TE:=fun σ H Q=>t σ H λxs H1=>xs.length<=sizeLine/\∀p,H1 p=none->Q (.ref p) (upd H1 p (.lst xs))
theorem w5 {x1}(h:PA X es t):PE X (.Tuple es x1 pos) (C97 t):=by
 intros Q I hq;refine wpAny_Tuple_spliced (thn (h pos pins s σ H _ I hq) λus s1 zz175=>zz175.elim λxs zz176=>zz176.elim λH1 zz177=>zz177.elim λI1 zz178=>zz178.elim λr zz179=>zz179.elim λz q=>⟨by rw[<-r.length];exact z,?_⟩);have hf:H1 s1.heap.objs.size=none:=I1.hok.fresh (G3 _);refine⟨.ref s1.heap.objs.size,upd H1 s1.heap.objs.size (.tup xs),I1.laid (t':=s1.toks) (λb u e=>Q3 _ e) (G3 _) ?_,rfl,q _ hf⟩;exact⟨z,us,r,⟨_,U3 _ rfl,rfl,_,rfl⟩⟩
theorem T0 (h:PA X es t):PE X (.List es pos) (C98 t):=by
 intros Q I hq;refine wpAny_List_spliced (thn (h pos pins s σ H _ I hq) λus s1 zz180=>zz180.elim λxs zz181=>zz181.elim λH1 zz182=>zz182.elim λI1 zz183=>zz183.elim λr zz184=>zz184.elim λz q=>⟨by rw[<-r.length];exact z,?_⟩);have hf:H1 s1.heap.objs.size=none:=I1.hok.fresh (G3 _);refine⟨.ref s1.heap.objs.size,upd H1 s1.heap.objs.size (.lst xs),I1.laid (t':=s1.toks) (λb u e=>Q3 _ e) (G3 _) ?_,rfl,q _ hf⟩;exact⟨z,us,0,r,U3 _ rfl⟩
abbrev Sp:=!V->Hp->VK->XK->Prop
abbrev CXT:=!Env->Hp->Shared->XK->Value->Shared->Prop
structure A5g (P:Program)(w:World)(K:A8)(mg:Str->Option Value)(base:Heap)(A:Around)(outer:!Env)(s:Shared)(H:Hp):Prop where
 frames:A.frames=some outer
 mod:Mod K mg base
 bs:∀b o,base.get? b=some o->s.heap.get? b=some o/\H b=none
 bsz:base.objs.size<=s.heap.objs.size
 funs:s.heap.FunFrames base outer
 frf:∀b∈frs outer,H b=none
 hok:HOk P w H s.heap
 bare:AllBare s.gens
def CE (outer:!Env)(P:Program)(w:World)(H:Hp)(s:Shared)(Q:VK)(u:Value)(s':Shared):Prop:=
 ∃v H',s'.os=s.os/\AllBare s'.gens/\Un (frs outer) [] H H' s.heap s'.heap/\HOk P w H' s'.heap/\F1 v u/\Q v H'
def CR (CX:CXT)(outer:!Env)(P:Program)(w:World)(H:Hp)(s:Shared)(Q:VK)(E:XK)(r:Result)(s':Shared):Prop:=
 match r with
 | .ok (.ret u)=>CE outer P w H s Q u s'
 | .ok _=>False
 | .error e=>CX outer H s E e s'
structure C5 (P:Program)(w:World)(K:A8)(mg:Str->Option Value)(base:Heap)(CX:CXT)(k:Nat)(f:Addr)(fd:FuncData)(ps:!Str)(sp:Sp):Prop where
 len:∀vs H Q E,sp vs H Q E->vs.length=ps.length
 run:∀(A:Around)(outer:!Env)(s:Shared)(H:Hp)(args:Args)(us:!Value)(vs:!V)(Q:VK)(E:XK),Q5 k A->A5g P w K mg base A outer s H->BindsTo s fd args (ps.zip us)->E1 vs us->sp vs H Q E->
  codeAny (model P w) A (.call (.ref f) args) (CR CX outer P w H s Q E) s
theorem C5.imp {P:Program}{w:World}{K:A8}{mg:Str->Option Value}{base:Heap}{CX:CXT}{k:Nat}{f:Addr}{fd:FuncData}{ps:!Str}{sp sp':Sp}(F:C5 P w K mg base CX k f fd ps sp)
  (h:∀vs H Q E,sp' vs H Q E->sp vs H Q E):C5 P w K mg base CX k f fd ps sp':=
 ⟨λvs H Q E q=>F.len vs H Q E (h _ _ _ _ q),λA outer s H args us vs Q E hr he hb hv hs=>F.run A outer s H args us vs Q E hr he hb hv (h _ _ _ _ hs)⟩
theorem A5g.make {P:Program}{w:World}{K:A8}{mg:Str->Option Value}{base:Heap}{A:Around}{outer:!Env}{s:Shared}{H:Hp}(e:A5g P w K mg base A outer s H)(C:Addr)(us:!Value)(kw:!(Str×Value)) :
  A5g P w K mg base (A.under (.builtin "type.__call__" ⟨.ref C::us,kw⟩)) outer s H:=⟨by first | exact e.frames | (simpa [Around.under,Code.envs,Code.isFrame,pushEnvs] using e.frames),e.mod,e.bs,e.bsz,e.funs,e.frf,e.hok,e.bare⟩
section
variable {s':Shared}
theorem Inv.env0 (I:Inv X pins σ H s):A5g X.prog X.w X.K X.mg X.base X.A X.stack s H:=
 ⟨I.ok.frames,I.ok.mod,I.bs,M0 I.ok.bsz I.sz,I.stack,I.stkFree,I.hok,I.bare⟩
theorem Inv.after {Q:VK}{u:Value}(I:Inv X pins σ H s)(h:CE X.stack X.prog X.w H s Q u s'):EP X pins σ Q u s':=by
 let⟨v,H',os,bare,un,hok,r,q⟩:=h;let⟨hh,g,d,t,os'⟩:=s';obtain rfl:os'=s.os:=os;exact⟨v,H',I.call (h':=hh) (g':=g) (d':=d) (t':=t) (ch:=[]) un hok bare (λb z=>absurd z (by simp)),r,q⟩
end
def C1s (sp:Sp)(dvs:!V)(E:XK)(t:TA):TE:=fun σ H Q=>t σ H λvs H1=>sp (vs++dvs) H1 Q E
def C1t (C:Addr)(m:Str)(sp:Sp)(dvs:!V)(E:XK)(ta:TE)(t:TA):TE:=fun σ H Q=>ta σ H λx H1=>∃a dx fs,x=.ref a/\H1 a=some (.ins C dx fs)/\fs.lookup m=none/\
 t σ H1 λvs H2=>sp (x::(vs++dvs)) H2 Q E
def C1u (C:Addr)(sp:Sp)(dvs:!V)(E:XK)(t:TA):TE:=fun σ H Q=>t σ H λvs H1=>∀x dx,H1 x=none->H1 dx=none->dx≠x->
 sp (.ref x::(vs++dvs)) (upd (upd H1 dx (.own x)) x (.ins C dx [])) (λv H2=>v=.non/\Q (.ref x) H2) E
def A0h (K:A8)(fd:FuncData)(ps:!Str)(ds:!Value):Prop:=
 ∀(s:Shared)(us:!Value),K.In s.heap->(us++ds).length=ps.length->BindsTo s fd ⟨us,[]⟩ (ps.zip (us++ds))
theorem A0h.all {K:A8}{fd:FuncData}{ps:!Str}(h:∀us:!Value,us.length=ps.length->bindArgs fd ⟨us,[]⟩=pure (ps.zip us)):A0h K fd ps []:=λs us J hl=>by
 rw[p8] at hl ⊢;exact .of_eq (h us hl)
def A2p (CX:CXT)(X:Cx)(E:XK):Prop:=∀(pins:!(Addr×Obj))(σ:St)(H:Hp)(s:Shared)(e:Value)(s':Shared),Inv X pins σ H s->CX X.stack H s E e s'->X.xe e s'
variable {p:Pos}
section
variable {CX:CXT}{k:Nat}{fd:FuncData}{ps:!Str}{sp:Sp}{dvs:!V}{ds:!Value}{E:XK}{x m:Str}{apos:Pos}
theorem B12 {pins:!(Addr×Obj)}{σ:St}{H:Hp}{s:Shared}{Q:VK}{us:!Value}{vs:!V}(F:C5 X.prog X.w X.K X.mg X.base CX k f fd ps sp)(hr:Q5 k X.A)(hb:A0h X.K fd ps ds)(hd:E1 dvs ds)(hx:A2p CX X E)
  (I:Inv X pins σ H s) (r:E1 vs us) (h:sp (vs++dvs) H Q E):wpAny (model X.prog X.w) X.A (call (.ref f) us) (EP X pins σ Q) X.xe s:=by
 have r2:E1 (vs++dvs) (us++ds):=r.append hd;have hl:(us++ds).length=ps.length:=by rw[<-r2.length];exact F.len _ _ _ _ h
 refine wpAny_call (codeAny_mono (F.run X.A X.stack s H ⟨us,[]⟩ (us++ds) (vs++dvs) Q E hr I.env0 (hb s us I.kIn hl) r2 h) λr s' hq=>?_);cases r with
 | error e=>exact hx pins σ H s e s' I hq
 | ok fl=>
  cases fl with
  | ret u=>exact I.after hq
  | next=>exact False.elim hq
  | brk=>exact False.elim hq
  | cont=>exact False.elim hq
theorem B3 (F:C5 X.prog X.w X.K X.mg X.base CX k f fd ps sp)(hr:Q5 k X.A)(hg:Gl X x)(hm:X.mg x=some (.ref f))(hk:A7f X.K (.ref f)=true)(hb:A0h X.K fd ps ds)(hd:E1 dvs ds)(hx:A2p CX X E)
  (ha:PA X (e::es) t) (hdb:autoParam ((x == ("__debug__" : Str))=false) DD._auto_1) (he:autoParam (starEach (e::es) X.env=(false,eval e X.env)::starEach es X.env) RF._auto_1) (hpl:autoParam ((backTo pos (starEach es X.env)).any (·.1)=false) RF._auto_1) :
  PE X (.Call (.Name x p) (e::es) [] pos) (C1s sp dvs E t):=by
 intros Q I h;refine wpAny_Call_Name_kw (B1p I hg hm ?_ hdb);refine C0m (h₀:=X.base) I.ok.mod.kin hk (thn (ha pos pins s σ H _ I h) λus s1 zz185=>el5 zz185 λvs H1 I1 r q=>⟨I1.kIn,?_⟩) he hpl;exact B12 F hr hb hd hx I1 r q
theorem m8 {pl:Sem Bool}(he:PE X o ta)(c:Cls X.K C)(hm:B11 X.K C m f)(F:C5 X.prog X.w X.K X.mg X.base CX k f fd ps sp)(hr:Q5 k X.A)(hb:A0h X.K fd ps ds)(hd:E1 dvs ds)(hx:A2p CX X E)(ha:PA X (e::es) t)
  (hst:autoParam (starEach (e::es) X.env=(false,eval e X.env)::starEach es X.env) RF._auto_1) (hpl:autoParam ((backTo pos (starEach es X.env)).any (·.1)=false) RF._auto_1)
  (ht:eval (.Call (.Attribute o m apos) (e::es) [] pos) X.env=(do
   let ov <-eval o X.env
   standAt apos.atName
   let (f,first) <-holding [ov] (getMethod ov m pl)
   callWith pos f first (backTo pos (starEach (e::es) X.env)) (backToKw pos (keywordEach [] X.env))):=by rfl) :
  PE X (.Call (.Attribute o m apos) (e::es) [] pos) (C1t C m sp dvs E ta t):=by
 intros Q I h;refine PySem.W.methodCall_KW (pl:=pl) (thn (he pins s σ H _ I h) λu s1 zz186=>zz186.elim λx zz187=>zz187.elim λH1 zz188=>zz188.elim λI1 zz189=>zz189.elim λrx zz190=>zz190.elim λa zz191=>zz191.elim λdx zz192=>zz192.elim λfs zz193=>zz193.elim λex zz194=>zz194.elim λea zz195=>zz195.elim λl q=>?_) ht;subst ex;obtain rfl:u=Value.ref a:=rx;refine C1q I1 ea c hm l ?_;refine C0m (first:=[.ref a]) (h₀:=X.base) I.ok.mod.kin hm.kp (thn (ha pos pins s1 σ H1 _ I1 q) λus s2 zz196=>el5 zz196 λvs H2 I2 r q2=>⟨I2.kIn,?_⟩) hst hpl;exact B12 (us:=.ref a::us) (vs:=.ref a::vs) F hr hb hd hx I2 (.cons rfl r) q2
theorem Z6 {pl:Sem Bool}(he:PE X o ta)(c:Cls X.K C)(hm:B11 X.K C m f)(F:C5 X.prog X.w X.K X.mg X.base CX k f fd ps sp)(hr:Q5 k X.A)(hb:A0h X.K fd ps ds)(hd:E1 dvs ds)(hx:A2p CX X E)
  (ht:eval (.Call (.Attribute o m apos) [] [] pos) X.env=(do
   let ov <-eval o X.env
   standAt apos.atName
   let (f,first) <-holding [ov] (getMethod ov m pl)
   callWith pos f first (backTo pos (starEach [] X.env)) (backToKw pos (keywordEach [] X.env))):=by rfl) :
  PE X (.Call (.Attribute o m apos) [] [] pos) (C1t C m sp dvs E ta W8):=by
 intros Q I h;refine PySem.W.methodCall_KW (pl:=pl) (thn (he pins s σ H _ I h) λu s1 zz197=>zz197.elim λx zz198=>zz198.elim λH1 zz199=>zz199.elim λI1 zz200=>zz200.elim λrx zz201=>zz201.elim λa zz202=>zz202.elim λdx zz203=>zz203.elim λfs zz204=>zz204.elim λex zz205=>zz205.elim λea zz206=>zz206.elim λl q=>?_) ht;subst ex;obtain rfl:u=Value.ref a:=rx;refine C1q I1 ea c hm l ?_;exact PySem.W.callWith_K0 (first:=[.ref a]) I1.kIn hm.kp (B12 (us:=[.ref a]) (vs:=[.ref a]) F hr hb hd hx I1 (.cons rfl .nil) q)
structure Mk (K:A8)(C f:Addr):Prop where
 makes:PySem.W.makesIn K C=true
 init:A1q K (.ref C) "__init__" = some (some (.ref f))
 fn:PySem.W.isFn K (.ref f)=true
 kp:A7f K (.ref C)=true
theorem C1v {pins:!(Addr×Obj)}{σ:St}{H:Hp}{s:Shared}{Q:VK}{us:!Value}{vs:!V}(M:Mk X.K C f)(F:C5 X.prog X.w X.K X.mg X.base CX k f fd ps sp)(hr:Q5 (k+1) X.A)(hb:A0h X.K fd ps ds)(hd:E1 dvs ds)
  (hx:A2p CX X E) (I:Inv X pins σ H s) (r:E1 vs us)
  (h:∀x dx,H x=none->H dx=none->dx≠x->sp (.ref x::(vs++dvs)) (upd (upd H dx (.own x)) x (.ins C dx [])) (λv H2=>v=.non/\Q (.ref x) H2) E) :
  wpAny (model X.prog X.w) X.A (call (.ref C) us) (EP X pins σ Q) X.xe s:=by
 have hq:=h (s.heap.objs.size+1) s.heap.objs.size (I.hok.fresh (A3j _)) (I.hok.fresh (G3 _)) (S5 (C0l _));have I2:=Inv.made (C:=C) I;have r2:E1 (V.ref (s.heap.objs.size+1)::(vs++dvs)) (Value.ref (s.heap.objs.size+1)::(us++ds)):=.cons rfl (r.append hd);have hl:(Value.ref (s.heap.objs.size+1)::us++ds).length=ps.length:=by
  have e:=r2.length;rw[F.len _ _ _ _ hq] at e;exact e.symm
 refine wpAny_call (C9y (f:=f) I.kIn M.makes M.init (beq_iff_eq.mp M.fn) (codeAny_mono (F.run _ X.stack _ _ ⟨Value.ref (s.heap.objs.size+1)::us,[]⟩ (Value.ref (s.heap.objs.size+1)::(us++ds)) _ _ E (hr.make C us [])
  (I2.env0.make C us []) (hb _ (Value.ref (s.heap.objs.size+1)::us) I2.kIn hl) r2 hq) λr s' hq'=>?_))
 cases r with
 | error e=>exact hx pins σ _ _ e s' I2 hq'
 | ok fl=>
  cases fl with
  | ret u=>let⟨v,H',I3,rv,ev,q3⟩:=I2.after hq';subst ev;exact⟨rv,⟨V.ref (s.heap.objs.size+1),H',I3,rfl,q3⟩⟩
  | next=>exact False.elim hq'
  | brk=>exact False.elim hq'
  | cont=>exact False.elim hq'
theorem C99 (M:Mk X.K C f)(F:C5 X.prog X.w X.K X.mg X.base CX k f fd ps sp)(hr:Q5 (k+1) X.A)(hg:Gl X x)(hm:X.mg x=some (.ref C))(hb:A0h X.K fd ps ds)(hd:E1 dvs ds)(hx:A2p CX X E)
  (ha:PA X (e::es) t) (hdb:autoParam ((x == ("__debug__" : Str))=false) DD._auto_1) (he:autoParam (starEach (e::es) X.env=(false,eval e X.env)::starEach es X.env) RF._auto_1) (hpl:autoParam ((backTo pos (starEach es X.env)).any (·.1)=false) RF._auto_1) :
  PE X (.Call (.Name x p) (e::es) [] pos) (C1u C sp dvs E t):=by
 intros Q I h;refine wpAny_Call_Name_kw (B1p I hg hm ?_ hdb);refine C0m (h₀:=X.base) I.ok.mod.kin M.kp (thn (ha pos pins s σ H _ I h) λus s1 zz207=>el5 zz207 λvs H1 I1 r q=>⟨I1.kIn,?_⟩) he hpl;exact C1v M F hr hb hd hx I1 r q
theorem B43 (M:Mk X.K C f)(F:C5 X.prog X.w X.K X.mg X.base CX k f fd ps sp)(hr:Q5 (k+1) X.A)(hg:Gl X x)(hm:X.mg x=some (.ref C))(hb:A0h X.K fd ps ds)(hd:E1 dvs ds)(hx:A2p CX X E)
  (hdb:autoParam ((x == ("__debug__" : Str))=false) DD._auto_1):PE X (.Call (.Name x p) [] [] pos) (C1u C sp dvs E W8):=by
 intros Q I h;refine wpAny_Call_Name_kw (B1p I hg hm ?_ hdb);exact PySem.W.callWith_K0 I.kIn M.kp (C1v (us:=[]) M F hr hb hd hx I .nil h)
end
section
variable {CX:CXT}{k:Nat}{fd:FuncData}{ps ks:!Str}{sp:Sp}{E:XK}{x m:Str}{apos kpos:Pos}{kws:!Keyword}{tk:TA}{nm:Option Str}
variable {g:!Value->!Value->!Value}{gV:!V->!V->!V}
end
structure C8 (N P:!Str)(sc:Scope):Prop where
 kind:sc.kind=.function
 co:sc.isCoroutine=false
 gen:sc.isGenerator=false
 nd:N.Nodup
 pre:N.take P.length=P
 par:∀x∈P,sc.names.lookup x=some .local\/sc.names.lookup x=some .cell
 nofree:∀y∈sc.names,y.2≠.free
theorem C1w {kindOf:Str->Option NameKind}{x:Str}:∀{binds:!(Str×Value)}{m:Str->Option Value},(∀v,(x,v)∉binds)->bindL kindOf binds m x=m x
 | [],_,_=>rfl
 | (n,v)::r,m,h=>by
  unfold bindL;rw[C1w λw hw=>h w (E3 _ hw)];split
  ·have:x≠n:=by rintro rfl;exact h v E5
   simp [this]
  ·rfl
theorem C1x {kindOf:Str->Option NameKind}{x:Str}:∀{binds:!(Str×Value)}{m:Str->Option Value},(∀v,(x,v)∉binds)->bindC kindOf binds m x=m x
 | [],_,_=>rfl
 | (n,v)::r,m,h=>by
  unfold bindC;rw[C1x λw hw=>h w (E3 _ hw)];split
  ·rfl
  ·have:x≠n:=by rintro rfl;exact h v E5
   simp [this]
theorem C1y {kindOf:Str->Option NameKind}{x:Str}{v:Value}:∀{P:!Str}{vs:!Value}{i:Nat}{m:Str->Option Value},P.Nodup->P[i]?=some x->vs[i]?=some v->kindOf x=some .local->
  bindL kindOf (P.zip vs) m x=some v
 | [],_,_,_,_,h,_,_=>by simp at h
 | _::_,[],_,_,_,_,h,_=>by simp at h
 | p::P,w::vs,0,m,nd,h1,h2,hk=>by
  simp at h1 h2;subst h1;subst h2;show bindL kindOf ((p,w)::P.zip vs) m p=_;unfold bindL;rw[C1w λv hv=>(B4e.mp nd).1 (B06 hv).1,if_pos hk];simp
 | p::P,w::vs,i+1,m,nd,h1,h2,hk=>by
  show bindL kindOf ((p,w)::P.zip vs) m x=_;unfold bindL;exact C1y (i:=i) (B4e.mp nd).2 (by simpa using h1) (by simpa using h2) hk
theorem C1z {kindOf:Str->Option NameKind}{x:Str}{v:Value}:∀{P:!Str}{vs:!Value}{i:Nat}{m:Str->Option Value},P.Nodup->P[i]?=some x->vs[i]?=some v->kindOf x≠some .local->
  bindC kindOf (P.zip vs) m x=some v
 | [],_,_,_,_,h,_,_=>by simp at h
 | _::_,[],_,_,_,_,h,_=>by simp at h
 | p::P,w::vs,0,m,nd,h1,h2,hk=>by
  simp at h1 h2;subst h1;subst h2;show bindC kindOf ((p,w)::P.zip vs) m p=_;unfold bindC;rw[C1x λv hv=>(B4e.mp nd).1 (B06 hv).1,if_neg hk];simp
 | p::P,w::vs,i+1,m,nd,h1,h2,hk=>by
  show bindC kindOf ((p,w)::P.zip vs) m x=_;unfold bindC;exact C1z (i:=i) (B4e.mp nd).2 (by simpa using h1) (by simpa using h2) hk
def start (N:!Str)(vs:!V):St:=vs.map some++G1 (N.length-vs.length) none
def J3 (CX:CXT)(P:Program)(w:World)(K:A8)(mg:Str->Option Value)(base:Heap)(N:!Str)(qual:Str)(scope:Scope)(f:Addr)(cd:Value)(A:Around)(outer:!Env)(s:Shared)(H:Hp)(E:XK):Cx where
 prog:=P
 w:=w
 K:=K
 mg:=mg
 base:=base
 A:=A.deeper (envOfC qual scope s.heap.objs.size f cd)
 N:=N
 s₀:=s
 H₀:=H
 env:=envOfC qual scope s.heap.objs.size f cd
 outer:=outer
 stack:=envOfC qual scope s.heap.objs.size f cd::outer
 ex:=[]
 calm:=true
 fn:=λJ=>true
 pn:=[]
 xe:=λe s'=>wpAny (model P w) (A.deeper (envOfC qual scope s.heap.objs.size f cd)) (leaving (envOfC qual scope s.heap.objs.size f cd) e) (λJ s''=>CX outer H s E e s'') (λe' s''=>CX outer H s E e' s'') s'
theorem C10 {sc:Scope}{n:Nat}{x:Str}(h:sc.names.lookup x=some .cell):∃c,(cellsFrom n sc.names []).lookup x=some c:=by
 have q:=PySem.W.cellsFrom_some sc.names n [] (.inl h);exact Option.isSome_iff_exists.mp q
theorem D0a {CX:CXT}{P:Program}{w:World}{K:A8}{mg:Str->Option Value}{base:Heap}{N ps:!Str}{qual:Str}{scope:Scope}{f:Addr}{cd:Value}{A:Around}{outer:!Env}{s s1:Shared}{H:Hp}{E:XK}{us:!Value}{vs:!V}
  (S:C8 N ps scope) (hd:A.handled=none) (e0:A5g P w K mg base A outer s H) (hl:vs.length=ps.length) (r:E1 vs us)
  (x:InCallC s s.heap.objs.size (bindL (envOfC qual scope s.heap.objs.size f cd).kindOf (ps.zip us) λJ=>none) (cellsFrom (s.heap.objs.size+1) scope.names []) (bindC (envOfC qual scope s.heap.objs.size f cd).kindOf (ps.zip us) λJ=>none) s1) :
  Inv (J3 CX P w K mg base N qual scope f cd A outer s H E) [] (start N vs) H s1:=by
 have hpl:ps.length<=N.length:=by have:=congrArg B07 S.pre;rw[X5] at this;omega
 let⟨h1,tk,rfl,hk⟩:=x.done;have noA:∀b:Addr,b∉(J3 CX P w K mg base N qual scope f cd A outer s H E).ex:=λb z=>absurd (show b∈([]:!Addr) from z) (by simp);refine⟨⟨e0.mod,S.kind,rfl,rfl,G3 _,λy z c h1 h2=>?_,λy hy=>?_,λy c J h=>?_,λJ=>hd,Around.frames_deeper e0.frames,.inr ⟨rfl,rfl⟩,λb z=>absurd z (noA b),e0.bs,e0.bsz,λb J J=>noA b,λb z=>absurd z (noA b),e0.funs,e0.frf⟩,
  rfl,e0.bare,Un.kept hk,⟨_,x.toInCall.ns,λi y v h1 h2 h3=>?_⟩,λy c h=>⟨_,x.cell y c h⟩,e0.hok.fresh (G3 _),λy c h=>?_,λp hp=>absurd (show p∈([]:!(Addr×Obj)) from hp) (by simp),e0.hok.kept hk,?_⟩
 ·exact name_of_addr x.apart (B4f h1) (B4f h2)
 ·have hy:scope.names.lookup y=some .cell\/scope.names.lookup y=some .free:=hy;rcases hy with hy | hy
  ·exact C10 hy
  ·exact absurd rfl (S.nofree _ (B4f hy))
 ·exact A3h (x.above y c (B4f h))
 ·have hi:i<vs.length:=by
   unfold start at h2;by_cases hi:i<vs.length
   ·exact hi
   ·rw[A7g (by simpa using hi)] at h2;rw[C0n] at h2;split at h2 <;> cases h2
  have ha:vs[i]?=some v:=by
   unfold start at h2;rw[A7h (by simpa using hi),M2] at h2;cases e:vs[i]? with
   | none=>rw[e] at h2;cases h2
   | some a=>rw[e] at h2;cases h2;rfl
  let⟨u,hu,rv⟩:=r.get ha;have hp:ps[i]?=some y:=by
   rw[<-S.pre,List.getElem?_take_of_lt (by omega)];exact h1
  have ndP:ps.Nodup:=by rw[<-S.pre];exact S.nd.sublist (List.take_sublist _ _)
  exists u,rv;rcases S.par y (U4 hp) with k | k
  ·exact .inl ⟨k,C1y ndP hp hu k⟩
  ·let⟨c,e⟩:=C10 (n:=s.heap.objs.size+1) k;refine .inr ⟨.inl k,c,e,?_⟩;have q:=x.cell y c e;rw[C1z ndP hp hu (by show scope.names.lookup y≠_;rw[k];decide)] at q;exact q
 ·exact e0.hok.fresh (A3h (x.above y c (B4f h)))
 ·unfold start;show _=N.length;rw[L3,B7,d9];omega
theorem D0b {CX:CXT}{P:Program}{w:World}{K:A8}{mg:Str->Option Value}{base:Heap}{k:Nat}{f:Addr}{name qual:Str}{params:Arguments}{body:!Stmt}{scope:Scope}{dV kV doc pm cdv ct oc:Value}{an od:Option Addr}
  {osl:Array (Option Value)} {N ps:!Str} {sp:Sp} (lk:K.lookup f=some ⟨oc,od,.func (A43 name qual params body scope dV kV doc pm an cdv ct),osl⟩) (hcd:C0o K cdv qual=true) (S:C8 N ps scope)
  (len:∀vs H Q E,sp vs H Q E->vs.length=ps.length)
  (hbody:∀(A:Around)(outer:!Env)(s:Shared)(H:Hp)(vs:!V)(Q:VK)(E:XK),Q5 k (A.deeper (envOfC qual scope s.heap.objs.size f cdv))->sp vs H Q E->
   ∃t,PSs (J3 CX P w K mg base N qual scope f cdv A outer s H E) body t/\t { nx:=λY H'=>Q .non H',rt:=Q } (start N vs) H) :
  C5 P w K mg base CX (k+1) f (A43 name qual params body scope dV kV doc pm an cdv ct) ps sp:=by
 refine⟨len,λA outer s H args us vs Q E hr e0 hb r hsp=>?_⟩;have hl:=len _ _ _ _ hsp;have KX:K.In s.heap:=e0.mod.kin.keeps λb o e=>(e0.bs b o e).1;have lim:s.heap.NoLimit:=e0.mod.nolimit.keeps λb o e=>(e0.bs b o e).1;have hkind:∀y∈ps.zip us,scope.names.lookup y.1=some .local\/(scope.names.lookup y.1=some .cell/\((cellsFrom (s.heap.objs.size+1) scope.names []).lookup y.1).isSome=true):=λ⟨n,v⟩ hy=>by
  rcases S.par n (B06 hy).1 with q | q
  ·exact .inl q
  ·exact .inr ⟨q,PySem.W.cellsFrom_some _ _ _ (.inl q)⟩
 refine codeAny_call_function hr.depth (KX _ _ lk) rfl S.co S.gen rfl (PySem.W.codeRec_of KX hcd) (hb _ _ _ _ ?_);refine wpAny_newFunctionEnv_cells S.kind hkind λenv he s1 x=>?_;subst he;refine⟨lim.keeps x.toInCall.keep,codeAny_func ?_⟩;let⟨t,ht,hq⟩:=hbody A outer s H vs Q E (hr.deeper _) hsp;have I:Inv (J3 CX P w K mg base N qual scope f cdv A outer s H E) [] (start N vs) H s1:=D0a S hr.hd e0 hl r x;refine wpAny_mono (ht [] s1 (start N vs) H _ I hq) (λfl s' hs=>?_) λe s' hs=>hs;have fin:∀{σ':St}{H':Hp}{v:V}{u:Value},Inv (J3 CX P w K mg base N qual scope f cdv A outer s H E) [] σ' H' s'->F1 v u->Q v H'->CE outer P w H s Q u s':=
  λ{σ' H' v u} J rv q=>⟨v,H',J.os,J.bare,J.base,J.hok,rv,q⟩
 cases fl with
 | ret u=>let⟨v,σ',H',J,rv,q⟩:=hs;exact fin J rv q
 | next=>let⟨σ',H',J,q⟩:=hs;exact fin (v:=V.non) (u:=Value.none) J rfl q
 | brk=>let⟨_,_,_,q⟩:=hs;exact False.elim q
 | cont=>let⟨_,_,_,q⟩:=hs;exact False.elim q
section
variable {x:Str}{id T:String}{r:!V->Hp->VK->Prop}
def tCB (r:!V->Hp->VK->Prop)(t:TA):TE:=fun σ H Q=>t σ H λvs H1=>r vs H1 Q
theorem K5 (hc:X7 X (.builtin id) r)(hg:Gl X x)(hm:X.mg x=none)(hv:bootBuiltins x=some (.builtin id))(ha:PA X (e::es) t)(hn:autoParam (x≠ "__name__" ) DD._auto_1)(hdb:autoParam ((x == ("__debug__" : Str))=false) DD._auto_1)
  (he:autoParam (starEach (e::es) X.env=(false,eval e X.env)::starEach es X.env) RF._auto_1) (hpl:autoParam ((backTo pos (starEach es X.env)).any (·.1)=false) RF._auto_1):PE X (.Call (.Name x p) (e::es) [] pos) (tCB r t):=by
 intros Q I h;refine wpAny_Call_Name_kw (A1y I hg hm hv ?_ hn hdb);exact PyProof.Rows.callWith_builtin1 (thn (ha pos pins s σ H _ I h) λus s1 zz213=>el5 zz213 λvs H1 I1 r1 q1=>hc pins s1 σ H1 vs us Q I1 r1 q1) he hpl
theorem M6 (hc:X7 X (.type T) r)(hg:Gl X x)(hm:X.mg x=none)(hv:bootBuiltins x=some (.type T))(ha:PA X (e::es) t)(hn:autoParam (x≠ "__name__" ) DD._auto_1)(hdb:autoParam ((x == ("__debug__" : Str))=false) DD._auto_1)
  (he:autoParam (starEach (e::es) X.env=(false,eval e X.env)::starEach es X.env) RF._auto_1) (hpl:autoParam ((backTo pos (starEach es X.env)).any (·.1)=false) RF._auto_1):PE X (.Call (.Name x p) (e::es) [] pos) (tCB r t):=by
 intros Q I h;refine wpAny_Call_Name_kw (A1y I hg hm hv ?_ hn hdb);exact PyProof.Rows.callWith_type1 (thn (ha pos pins s σ H _ I h) λus s1 zz214=>el5 zz214 λvs H1 I1 r1 q1=>hc pins s1 σ H1 vs us Q I1 r1 q1) he hpl
end
end Lake
namespace HT
open PySem PyProof.Rows
section
open PySem.SeqAt
open PySem.AutoSeq1 (wpAny_loadPart')
open PySem.MeetsSeq PySem.MeetsSeq2 PySem.MeetsSeq3
end
section
variable {prog:Program}{w:World}{A:Around}{E:Value->Shared->Prop}{s:Shared}
def sIx (n d:Nat):Option Int->Nat
 | none=>d
 | some v=>if v<0 then (v+(n:Int)).toNat else min v.toNat n
theorem sIx_none (n d:Nat):sIx n d none=d:=rfl
theorem sIx_nat (n d k:Nat):sIx n d (some (k:Int))=min k n:=by
 show (if (k:Int)<0 then ((k:Int)+(n:Int)).toNat else min (k:Int).toNat n)=min k n;rw[if_neg (by omega),A44]
end
end HT
namespace Lake
open PySem PySem.Spec PyProof.Rows
abbrev TO:=St->Hp->(Option Int->Hp->Prop)->Prop
def PO (X:Cx)(e:Option Expr)(t:TO):Prop:=
 ∀(pins:!(Addr×Obj))(s:Shared)(σ:St)(H:Hp)(Q:Option Int->Hp->Prop),Inv X pins σ H s->t σ H Q->
  wpAny (model X.prog X.w) X.A (evalPart e X.env) (λu s'=>∃o H',Inv X pins σ H' s'/\IsPart u o/\Q o H') X.xe s
def D0c:TO:=λJ H Q=>Q none H
def D0d (t:TE):TO:=fun σ H Q=>t σ H λx H1=>∃i,x=.int i/\Q (some i) H1
theorem C11 {ns:!Int}:∀{us:!Value},E1 (ns.map V.int) us->IntsAre us ns:=by
 induction ns with
 | nil=>intro us r;rw[B4g] at r;cases r;exact .nil
 | cons n ns ih=>
  intro us r;rw[K9] at r;cases r with
  | cons r1 r2=>let⟨t,e⟩:=r1;subst e;exact .cons n t (ih r2)
variable {X:Cx}
section
variable {e:Expr}{te:TE}{lo hi:Option Expr}{tl th:TO}{pos p2:Pos}
theorem A5h:PO X none D0c:=by
 intros Q I h;rw[evalPart_none];exact wpAny_pure ⟨none,H,I,.none,h⟩
theorem A5i (h:PE X e te):PO X (some e) (D0d te):=by
 intros Q I hw;rw[evalPart_some];refine thn (h pins s σ H _ I hw) λu s1 zz215=>el5 zz215 λx H1 I1 r1 q1=>?_;let⟨i,rfl,q⟩:=q1;let⟨t,rfl⟩:=r1;exact⟨some i,H1,I1,.int i t,q⟩
def SlR (X:Cx)(r:V->Option Int->Option Int->Hp->VK->Prop):Prop:=
 ∀(pins:!(Addr×Obj))(s:Shared)(σ:St)(H:Hp)(x:V)(v vl vu:Value)(lo hi:Option Int)(sl:Addr)(Q:VK),Inv X pins σ H s->F1 x v->s.heap.IsSliceOf sl vl vu .none->IsPart vl lo->IsPart vu hi->r x lo hi H Q->
  ∃T id,typeLookup (.type T) "__getitem__" = pure (some (.builtin id))/\s.TypeIs v T/\wpAny (model X.prog X.w) X.A (getItem v (.ref sl)) (EP X pins σ Q) X.xe s
def tSl (r:V->Option Int->Option Int->Hp->VK->Prop)(te:TE)(tl th:TO):TE:=fun σ H Q=>te σ H λx H1=>tl σ H1 λl H2=>th σ H2 λu H3=>r x l u H3 Q
theorem A3t {r:V->Option Int->Option Int->Hp->VK->Prop}(hr:SlR X r)(he:PE X e te)(hl:PO X lo tl)(hu:PO X hi th):PE X (.Subscript e (.Slice lo hi none p2) pos) (tSl r te tl th):=by
 intros Q I h;refine Subscript_ (thn (he pins s σ H _ I h) λv s1 zz216=>el5 zz216 λx H1 I1 r1 q1=>?_);refine wpAny_Slice (thn (hl pins s1 σ H1 _ I1 q1) λvl s2 zz217=>el5 zz217 λl H2 I2 pl q2=>thn (hu pins s2 σ H2 _ I2 q2) λvu s3 zz218=>el5 zz218 λu H3 I3 pu q3=>?_);rw[evalPart_none];refine wpAny_pure ?_;have I4:Inv X pins σ H3 { s3 with heap:=s3.heap.push { cls:=.type "slice",data:=.fields #[vl,vu,.none] } }:=I3.kept (t':=s3.toks) λb ob q=>Q3 _ q;let⟨T,id,hT,ht,hg⟩:=hr pins { s3 with heap:=s3.heap.push { cls:=.type "slice",data:=.fields #[vl,vu,.none] } } σ H3 x v vl vu l u s3.heap.objs.size Q I4 r1 (Heap.IsSliceOf.new ..) pl pu q3;show wpAny (model X.prog X.w) X.A (subscriptTail e (.Slice lo hi none p2) v (.ref s3.heap.objs.size)) (EP X pins σ Q) X.xe { s3 with heap:=s3.heap.push { cls:=.type "slice",data:=.fields #[vl,vu,.none] } };exact tail_any (ops:=[.ref s3.heap.objs.size,v]) ht hT hg (by with_unfolding_all rfl)
def A1g (xs:!V)(lo hi:Option Int):!V:=(xs.drop (HT.sIx xs.length 0 lo)).take (HT.sIx xs.length xs.length hi-HT.sIx xs.length 0 lo)
theorem D0e (xs:!V)(lo hi:Option Int):(A1g xs lo hi).length<=xs.length:=by
 unfold A1g;rw[X5,List.length_drop];omega
end
def ixN (n:Nat)(i:Int):Option Nat:=if 0<=i then (if i<n then some i.toNat else none) else if -(n:Int)<=i then some (i+n).toNat else none
def atI {α:Type}(xs:!α)(i:Int):Option α:=(ixN xs.length i).bind λj=>xs[j]?
theorem C12 {n:Nat}{i:Int}{j:Nat}(h:ixN n i=some j):seqIndex? i n=some j/\j<n/\-(n:Int)<=i/\i<n:=by
 unfold ixN at h;by_cases h0:0<=i
 ·rw[if_pos h0] at h;by_cases h1:i<n
  ·rw[if_pos h1] at h;have e:i.toNat=j:=Option.some.inj h;exact⟨by rw[seqIndex_of h0 h1,e],by omega,by omega,h1⟩
  ·rw[if_neg h1] at h;cases h
 ·rw[if_neg h0] at h;by_cases h1:-(n:Int)<=i
  ·rw[if_pos h1] at h;have e:(i+n).toNat=j:=Option.some.inj h;exact⟨by rw[seqIndex_neg (by omega) h1,e],by omega,h1,by omega⟩
  ·rw[if_neg h1] at h;cases h
theorem B13 {α:Type}{xs:!α}{i:Int}{v:α}(h:atI xs i=some v):∃j,seqIndex? i xs.length=some j/\xs[j]?=some v/\j<xs.length/\-(xs.length:Int)<=i/\i<xs.length:=by
 unfold atI at h;cases e:ixN xs.length i with
 | none=>rw[e] at h;cases h
 | some j=>rw[e] at h;let⟨h1,h2,h3,h4⟩:=C12 e;exact⟨j,h1,h,h2,h3,h4⟩
theorem f7 {α:Type}{xs:!α}{j:Nat}{v:α}(h:xs[j]?=some v):atI xs (j:Int)=some v:=by
 have hj:j<xs.length:=(X4.mp h).1;have e:ixN xs.length (j:Int)=some j:=by
  unfold ixN;rw[if_pos (by omega),if_pos (by omega)];simp
 unfold atI;rw[e];exact h
theorem B14 {α:Type}(xs:!α)(v:α):atI (xs++[v]) (-1)=some v:=by
 have hl:(xs++[v]).length=xs.length+1:=by simp
 have e:ixN (xs++[v]).length (-1)=some xs.length:=by
  unfold ixN;rw[hl,if_neg DD,if_pos (by omega)];congr 1;omega
 unfold atI;rw[e];show (xs++[v])[xs.length]?=some v;simp
def B44 (b:Expr):Prop:=∀o i,subscripted b false o i=operate [o,i] (getItem o i)
def IxR (X:Cx)(r:R2):Prop:=
 ∀(value slice:Expr)(pins:!(Addr×Obj))(s:Shared)(σ:St)(H:Hp)(x y:V)(v u:Value)(Q:VK),Inv X pins σ H s->F1 x v->F1 y u->r x y H Q->
  subscripted slice false v u=operate [v,u] (getItem v u)->wpAny (model X.prog X.w) X.A (subscriptTail value slice v u) (EP X pins σ Q) X.xe s
def MtR (X:Cx)(id:String)(r:V->!V->Hp->VK->Prop):Prop:=
 ∀(pins:!(Addr×Obj))(s:Shared)(σ:St)(H:Hp)(x:V)(xs:!V)(v:Value)(us:!Value)(Q:VK),Inv X pins σ H s->F1 x v->E1 xs us->r x xs H Q->
  wpAny (model X.prog X.w) X.A (call (.builtin id) (v::us)) (EP X pins σ Q) X.xe s
section
variable {a b:Expr}{ta tb:TE}{pos:Pos}
theorem IxR.or {r r':R2}(h:IxR X r)(h':IxR X r'):IxR X (λx y H Q=>r x y H Q\/r' x y H Q):=by
 intro value slice pins s σ H x y v u Q I rx ry q hs;rcases q with q | q
 ·exact h value slice pins s σ H x y v u Q I rx ry q hs
 ·exact h' value slice pins s σ H x y v u Q I rx ry q hs
theorem E6 {r:R2}(hr:IxR X r)(ha:PE X a ta)(hb:PE X b tb)(hs:autoParam (B44 b) IRP._auto_1):PE X (.Subscript a b pos) (tOp r ta tb):=by
 intros Q I h;exact Subscript_ (B4y ha hb I h λv u s2 x y H2 I2 rx ry q=>hr a b pins s2 σ H2 x y v u Q I2 rx ry q (hs _ _))
def C13 (K:A8):R2:=λx y H Q=>∃p xs i v,x=.ref p/\y=.int i/\SqL K H p xs/\atI xs i=some v/\Q v H
def C14 (K:A8):R2:=λx y H Q=>∃p xs i v,x=.ref p/\y=.int i/\SqT K H p xs/\atI xs i=some v/\Q v H
def C15:R2:=λx y H Q=>∃z i c,x=.str z/\y=.int i/\z.length<=sizeLine/\atI z.cps.toList i=some c/\Q (.str ⟨#[c]⟩) H
theorem G8:IxR X (C13 X.K):=by
 intro value slice pins s σ H x y v u Q I rx ry h hs;let⟨p,xs,i,z,rfl,rfl,hq,he,q⟩:=h;cases rx;let⟨t,rfl⟩:=ry;let⟨its,r,pl,hz⟩:=I.list hq;let⟨j,h1,h2,h3,h4,h5⟩:=B13 he;let⟨w,ew,rw'⟩:=r.get h2;have hl:=r.length;have hn:=A5d;have fin:EP X pins σ Q w s:=⟨z,H,I,rw',q⟩;by_cases h0:0<=i
 ·have hj:i.toNat=j:=by
   rw[seqIndex_of h0 h5] at h1;exact Option.some.inj h1
  exact item_listR pl.isList h0 (by omega) (by rw[hj];simpa using ew) fin hs
 ·have hj:(i+(its.toArray.size:Int)).toNat=j:=by
   rw[seqIndex_neg (by omega) h4] at h1;rw[R9,<-hl];exact Option.some.inj h1
  exact subscriptTail_builtinR (x:=w) pl.isList.typeIs slot_list_getitem.lookup
   (wpAny_getItem_list_neg (Q:=λr s'=>r=w/\EP X pins σ Q r s') pl.isList (by omega) (by rw[R9] <;> omega) (by omega) (by rw[hj];simpa using ew) ⟨rfl,fin⟩) hs
theorem T5:IxR X (C14 X.K):=by
 intro value slice pins s σ H x y v u Q I rx ry h hs;let⟨p,xs,i,z,rfl,rfl,hq,he,q⟩:=h;cases rx;let⟨t,rfl⟩:=ry;let⟨its,r,pl,hz⟩:=I.tuple hq;let⟨j,h1,h2,h3,h4,h5⟩:=B13 he;let⟨w,ew,rw'⟩:=r.get h2;have hl:=r.length;have hn:=A5d;have fin:EP X pins σ Q w s:=⟨z,H,I,rw',q⟩;exact subscriptTail_builtinR (x:=w) pl.typeIs slot_tuple_getitem.lookup
  (getItem_tuple (j:=j) (Q:=λr s'=>r=w/\EP X pins σ Q r s') pl (by omega) (by omega) (by rw[R9,<-hl];exact h1) (by simpa using ew) ⟨rfl,fin⟩) hs
theorem C16:IxR X C15:=by
 intro value slice pins s σ H x y v u Q I rx ry h hs;let⟨z,i,c,rfl,rfl,hz,he,q⟩:=h;let⟨t,rfl⟩:=rx;let⟨t',rfl⟩:=ry;let⟨j,h1,h2,h3,h4,h5⟩:=B13 he;have hl:z.cps.toList.length=z.length:=by simp [Str.length]
 rw[hl] at h1 h4 h5;have hn:=A5d;exact tail_any (typeIs_str s z t) slot_str_getitem.lookup (getItem_str (c:=c) (by
  have e1:decide (i < -(2^63:Int))=false:=decide_eq_false (by omega);have e2:decide (i ≥ 2^63)=false:=decide_eq_false (by omega);rw[e1,e2,Bool.or_false]) (by rw[h1];simpa using h2) ⟨.str ⟨#[c]⟩,H,I.tok _,⟨_,rfl⟩,q⟩) hs
def rIx (K:A8):R2:=λx y H Q=>C13 K x y H Q\/C14 K x y H Q\/C15 x y H Q
theorem A3u:IxR X (rIx X.K):=G8.or (T5.or C16)
theorem D0f (its:!Value)(n j:Nat)(u:Value):A7i (·.setIfInBounds j u) { cls:=.type "list",data:=.seq its.toArray n }={ cls:=.type "list",data:=.seq (its.set j u).toArray n }:=by
 simp [A7i]
theorem Inv.lst {pins:!(Addr×Obj)}{σ:St}{H:Hp}{s:Shared}{p:Addr}{xs:!V}(I:Inv X pins σ H s)(h:H p=some (.lst xs)) :
  ∃(its:!Value)(n:Nat),E1 xs its/\s.heap.get? p=some { cls:=.type "list",data:=.seq its.toArray n }/\xs.length<=sizeLine:=by
 let⟨z,its,n,r,e⟩:=I.hok p _ h;exact⟨its,n,r,e,z⟩
theorem Inv.lstUpd {pins:!(Addr×Obj)}{σ:St}{H:Hp}{s:Shared}{p:Addr}{xs ys:!V}{its its':!Value}{n n':Nat}{f:Obj->Obj}(I:Inv X pins σ H s)(h:H p=some (.lst xs))
  (ho:s.heap.get? p=some { cls:=.type "list",data:=.seq its.toArray n }) (hf:f { cls:=.type "list",data:=.seq its.toArray n }={ cls:=.type "list",data:=.seq its'.toArray n' }) (r:E1 ys its') (hz:ys.length<=sizeLine) (t:Nat) :
  Inv X pins σ (upd H p (.lst ys)) { s with heap:=s.heap.update p f,toks:=t }:=by
 have e:(s.heap.update p f).get? p=some { cls:=.type "list",data:=.seq its'.toArray n' }:=by
  rw[C0p f ho (by rw[hf] <;> rfl),hf]
 refine I.write (x:=p) (e:=p) (by rw[h];trivial) (.inl rfl) (λb u hb q=>(A7j _ _ (Ne.symm hb)).trans q) ⟨_,e⟩ ?_;exact⟨hz,its',n',r,e⟩
def C17:V->V->V->Hp->(Hp->Prop)->Prop:=λo i v H Q=>∃p xs k j,o=.ref p/\i=.int k/\H p=some (.lst xs)/\ixN xs.length k=some j/\Q (upd H p (.lst (xs.set j v)))
theorem w6:B4v X C17:=by
 intros o i v ov iv u Q I ro ri rv h;let⟨p,xs,k,j,rfl,rfl,hp,hj,q⟩:=h;cases ro;let⟨t,rfl⟩:=ri;let⟨its,n,r,ho,hz⟩:=I.lst hp;let⟨h1,h2,h3,h4⟩:=C12 hj;have hl:=r.length;have hn:=A5d;have I':Inv X pins σ (upd H p (.lst (xs.set j v))) { s with heap:=s.heap.update p (A7i (·.setIfInBounds j u)) }:=
  I.lstUpd hp ho (D0f its n j u) (r.set rv j) (by rw[j8];exact hz) s.toks
 by_cases h0:0<=k
 ·have hk:k.toNat=j:=by
   rw[seqIndex_of h0 h4] at h1;exact Option.some.inj h1
  exact PySem.W.ki_setAt ho h0 (by omega) (by rw[R9,<-hl];exact h4) (by rw[hk];exact⟨_,I',q⟩)
 ·have hk:(k+(its.toArray.size:Int)).toNat=j:=by
   rw[seqIndex_neg (by omega) h3] at h1;rw[R9,<-hl];exact Option.some.inj h1
  exact PySem.W.ki_setBack ho (by omega) (by rw[R9,<-hl];exact h3) (by omega) (by rw[hk];exact⟨_,I',q⟩)
theorem D0g (lo hi:Option Int)(n:Nat):(sliceBounds lo hi none n).1=((HT.sIx n 0 lo:Nat):Int)/\(sliceBounds lo hi none n).2.1=((HT.sIx n n hi:Nat):Int)/\(sliceBounds lo hi none n).2.2=1:=by
 refine⟨?_,?_,rfl⟩
 ·cases lo with
  | none=>simp [sliceBounds,HT.sIx]
  | some i=>
   simp only[sliceBounds,HT.sIx,Option.getD_none,show (1:Int)>0 by decide,if_true];by_cases h:i<0
   ·simp only[h,if_true] <;> omega
   ·simp only[h,if_false] <;> omega
 ·cases hi with
  | none=>simp [sliceBounds,HT.sIx]
  | some i=>
   simp only[sliceBounds,HT.sIx,Option.getD_none,show (1:Int)>0 by decide,if_true];by_cases h:i<0
   ·simp only[h,if_true] <;> omega
   ·simp only[h,if_false] <;> omega
theorem D0h (its:!Value)(lo hi:Option Int):slicePick its.toArray lo hi none=((its.drop (HT.sIx its.length 0 lo)).take (HT.sIx its.length its.length hi-HT.sIx its.length 0 lo)).toArray:=by
 let⟨h1,h2,h3⟩:=D0g lo hi its.toArray.size;unfold slicePick;rw[h1,h2,h3];simp only[sliceRange_one,pick_run,R9] <;> rfl
def D0i (K:A8):V->Option Int->Option Int->Hp->VK->Prop:=λx lo hi H Q=>∃a xs,x=.ref a/\SqL K H a xs/\∀p,H p=none->Q (.ref p) (upd H p (.lst (A1g xs lo hi)))
theorem A7t:SlR X (D0i X.K):=by
 intros x v vl vu lo hi sl Q I rx hs pl pu h;let⟨a,xs,rfl,hx,q⟩:=h;cases rx;let⟨its,r,ht,hz⟩:=I.list hx;have hlen:=r.length;exists "list",_,slot_list_getitem.lookup,ht.isList.typeIs;refine wpAny_getItem_list_slice ht.isList hs pl pu .none (by simp) ?_ (by rw[R9] <;> omega);rw[D0h,<-hlen];refine⟨.ref s.heap.objs.size,_,I.laid (t':=s.toks) (o:=.lst (A1g xs lo hi)) (λb ob q=>Q3 _ q) (G3 _) ?_,rfl,q _ (I.hok.fresh (G3 _))⟩;exact⟨M0 (D0e xs lo hi) hz,_,0,(r.drop (HT.sIx xs.length 0 lo)).take (HT.sIx xs.length xs.length hi-HT.sIx xs.length 0 lo),U3 _ rfl⟩
def A2q:V->Bool
 | .non=>true
 | .bl _=>true
 | .int _=>true
 | .str _=>true
 | _=>false
def eqV:V->V->Bool
 | .non,.non=>true
 | .bl a,.bl b=>a == b
 | .bl a,.int b=>(if a then 1 else 0) == b
 | .int a,.bl b=>a == (if b then 1 else 0)
 | .int a,.int b=>a == b
 | .str a,.str b=>a == b
 | _,_=>false
theorem D0j {A:Around}{s:Shared}{y x:V}{u v:Value}(ry:F1 y u)(rx:F1 x v)(fy:A2q y=true)(fx:A2q x=true):SeqAt.EqAt A s u v (eqV y x):=by
 cases y with
 | non=>
  cases ry;cases x with
  | non=>cases rx;exact SeqAt.EqAt.same _
  | bl b=>cases rx;exact SeqAt.EqAt.none_bool b
  | int b=>let⟨t,rfl⟩:=rx;exact SeqAt.EqAt.none_int b t
  | str b=>let⟨t,rfl⟩:=rx;exact SeqAt.EqAt.none_str b t
  | _=>exact absurd (show false=true from fx) Q2
 | bl a=>
  cases ry;cases x with
  | non=>cases rx;exact SeqAt.EqAt.bool_none a
  | bl b=>cases rx;exact SeqAt.EqAt.bool_bool a b
  | int b=>let⟨t,rfl⟩:=rx;exact SeqAt.EqAt.bool_int a b t
  | str b=>let⟨t,rfl⟩:=rx;exact SeqAt.EqAt.bool_str a b t
  | _=>exact absurd (show false=true from fx) Q2
 | int a=>
  let⟨t',rfl⟩:=ry;cases x with
  | non=>cases rx;exact SeqAt.EqAt.int_none a t'
  | bl b=>cases rx;exact SeqAt.EqAt.int_bool a t' b
  | int b=>let⟨t,rfl⟩:=rx;exact SeqAt.EqAt.int_int a t' b t
  | str b=>let⟨t,rfl⟩:=rx;exact SeqAt.EqAt.int_str a t' b t
  | _=>exact absurd (show false=true from fx) Q2
 | str a=>
  let⟨t',rfl⟩:=ry;cases x with
  | non=>cases rx;exact SeqAt.EqAt.str_none a t'
  | bl b=>cases rx;exact SeqAt.EqAt.str_bool a t' b
  | int b=>let⟨t,rfl⟩:=rx;exact SeqAt.EqAt.str_int a t' b t
  | str b=>let⟨t,rfl⟩:=rx;exact SeqAt.EqAt.str_str a t' b t
  | _=>exact absurd (show false=true from fx) Q2
 | _=>exact absurd (show false=true from fy) Q2
def eqU (x:V)(u:Value):Bool:=match u with
 | .none=>eqV .non x
 | .bool b=>eqV (.bl b) x
 | .int i _=>eqV (.int i) x
 | .str z _=>eqV (.str z) x
 | _=>false
theorem C18 {x y:V}{u:Value}(r:F1 y u)(f:A2q y=true):eqU x u=eqV y x:=by
 cases y with
 | non=>cases r;rfl
 | bl b=>cases r;rfl
 | int i=>let⟨t,rfl⟩:=r;rfl
 | str z=>let⟨t,rfl⟩:=r;rfl
 | _=>exact absurd (show false=true from f) Q2
theorem A9t {x:V}:∀{xs:!V}{us:!Value},E1 xs us->xs.all A2q=true->us.any (eqU x)=xs.any λy=>eqV y x
 | _,_,.nil,_=>rfl
 | y::xs,u::us,.cons r t,f=>by
  rw[List.all_cons,Z2] at f;rw[A45,A45,C18 r f.1,A9t t f.2]
theorem A9u {A:Around}{s:Shared}{x:V}{v:Value}(rx:F1 x v)(fx:A2q x=true):∀{xs:!V}{us:!Value},E1 xs us->xs.all A2q=true->∀u∈us,SeqAt.EqAt A s u v (eqU x u)
 | _,_,.nil,_=>λu hu=>by cases hu
 | y::xs,u::us,.cons r t,f=>λu' hu=>by
  rw[List.all_cons,Z2] at f;rcases K7.mp hu with rfl | hu
  ·rw[C18 r f.1];exact D0j r rx f.1 fx
  ·exact A9u rx fx t f.2 u' hu
def inV (x:V)(xs:!V):Bool:=xs.any λy=>eqV y x
def rIn (K:A8)(neg:Bool):R2:=λx y H Q=>∃p xs,y=.ref p/\(SqL K H p xs\/SqT K H p xs)/\A2q x=true/\xs.all A2q=true/\Q (.bl (if neg then not (inV x xs) else inV x xs)) H
theorem D0k:OpR X (compareOp .In) (rIn X.K false):=by
 intros x y v u Q I rx ry h;let⟨p,xs,rfl,hq,fx,fs,q⟩:=h;cases ry;rcases hq with hq | hq
 ·let⟨its,r,pl,hz⟩:=I.list hq;refine SeqAt.in_listAt (eqU x) pl.isList (λw hw=>A9u rx fx r fs w (by simpa using hw)) ⟨.bl _,H,I,rfl,?_⟩;rw[show its.toArray.any (eqU x)=its.any (eqU x) by simp,A9t r fs];exact q
 ·let⟨its,r,pl,hz⟩:=I.tuple hq;refine SeqAt.in_tupleAt (eqU x) pl (λw hw=>A9u rx fx r fs w (by simpa using hw)) ⟨.bl _,H,I,rfl,?_⟩;rw[show its.toArray.any (eqU x)=its.any (eqU x) by simp,A9t r fs];exact q
theorem C19:OpR X (compareOp .NotIn) (rIn X.K true):=by
 intros x y v u Q I rx ry h;let⟨p,xs,rfl,hq,fx,fs,q⟩:=h;cases ry;rcases hq with hq | hq
 ·let⟨its,r,pl,hz⟩:=I.list hq;refine SeqAt.notIn_listAt (eqU x) pl.isList (λw hw=>A9u rx fx r fs w (by simpa using hw)) ⟨.bl _,H,I,rfl,?_⟩;rw[show its.toArray.any (eqU x)=its.any (eqU x) by simp,A9t r fs];exact q
 ·let⟨its,r,pl,hz⟩:=I.tuple hq;refine SeqAt.notIn_tupleAt (eqU x) pl (λw hw=>A9u rx fx r fs w (by simpa using hw)) ⟨.bl _,H,I,rfl,?_⟩;rw[show its.toArray.any (eqU x)=its.any (eqU x) by simp,A9t r fs];exact q
theorem V8:X7 X (.builtin "len") (λxs H Q=>∃p ys,xs=[.ref p]/\(SqL X.K H p ys\/SqT X.K H p ys)/\Q (.int ys.length) H):=by
 intros xs us Q I r h;let⟨p,ys,rfl,hq,q⟩:=h;let⟨u,rfl,rx⟩:=X9 r;cases rx;have hn:=A5d;rcases hq with hq | hq
 ·let⟨its,r',pl,hz⟩:=I.list hq;have hlen:=r'.length;exact Calls.call_len_list pl.isList (by simp only[R9] <;> omega) ⟨.int ys.length,H,I.tok _,⟨s.toks+1,by rw[R9,hlen]⟩,q⟩
 ·let⟨its,r',pl,hz⟩:=I.tuple hq;have hlen:=r'.length;exact len_tuple pl (by simp only[R9] <;> omega) ⟨.int ys.length,H,I.tok _,⟨s.toks+1,by rw[R9,hlen]⟩,q⟩
theorem D0l:X7 X (.builtin "len") (λxs H Q=>∃z,xs=[.str z]/\z.length<=sizeLine/\Q (.int z.length) H):=by
 intros xs us Q I r h;let⟨z,rfl,hz,q⟩:=h;let⟨u,rfl,t,rfl⟩:=X9 r;have hn:=A5d;exact len_str (by omega) ⟨.int z.length,H,I.tok _,⟨_,rfl⟩,q⟩
theorem A3v:X7 X (.type "list") (λxs H Q=>∃p ys,xs=[.ref p]/\(SqL X.K H p ys\/SqT X.K H p ys)/\∀l,H l=none->Q (.ref l) (upd H l (.lst ys))):=by
 intros xs us Q I r h;let⟨p,ys,rfl,hq,q⟩:=h;let⟨u,rfl,rx⟩:=X9 r;cases rx;have fin:∀(its:!Value),E1 ys its->ys.length<=sizeLine->∀(h':Heap)(c':Nat),(∀b o',s.heap.get? b=some o'->h'.get? b=some o')->
   h'.get? s.heap.objs.size=some { cls:=.type "list",dict:=none,data:=.seq its.toArray c',slots:=#[] }->EP X pins σ Q (.ref s.heap.objs.size) { s with heap:=h' }:=λits r' hz h' c' kp e=>
  ⟨.ref s.heap.objs.size,_,I.laid (t':=s.toks) kp (G3 _) (show N3 X.prog X.w _ h' _ (.lst ys) from ⟨hz,its,c',r',e⟩),rfl,q _ (I.hok.fresh (G3 _))⟩
 rcases hq with hq | hq
 ·let⟨its,r',pl,hz⟩:=I.list hq;have hlen:=r'.length;let⟨o,ho,hc,n,hd⟩:=pl.isList;exact call_list_seq p (.inl rfl) ho hc hd (λh' c' kp e=>fin its r' hz h' c' kp e) (by simp only[R9] <;> omega)
 ·let⟨its,r',pl,hz⟩:=I.tuple hq;have hlen:=r'.length;let⟨o,ho,hc,n,hd⟩:=pl;exact call_list_seq p (.inr rfl) ho hc hd (λh' c' kp e=>fin its r' hz h' c' kp e) (by simp only[R9] <;> omega)
def tyV (K:A8)(T:String)(x:V)(H:Hp):Prop:=match x with
 | .str _=>T = "str"
 | .int _=>T = "int"
 | .ref p=>(T = "list" /\∃xs,SqL K H p xs)\/(T = "tuple" /\∃o,K.lookup p=some o/\o.cls=.type "tuple" /\o.dict=none)\/
   (T = "dict" /\((∃kvs,H p=some (.dK kvs))\/∃kvs,H p=some (.dT kvs)))\/(T = "set" /\∃S n,H p=some (.set S n))
 | _=>False
theorem D0m {pins:!(Addr×Obj)}{σ:St}{H:Hp}{s:Shared}{T:String}{x:V}{v:Value}(I:Inv X pins σ H s)(r:F1 x v)(ty:tyV X.K T x H) :
  s.TypeIs v T/\∀a,v=.ref a->∃ob,s.heap.get? a=some ob/\ob.dict=none:=by
 cases x with
 | str z=>let⟨t,rfl⟩:=r;cases (show T = "str" from ty);exact⟨typeIs_str s z t,λJ e=>nomatch e⟩
 | int i=>let⟨t,rfl⟩:=r;cases (show T = "int" from ty);exact⟨typeIs_int s i t,λJ e=>nomatch e⟩
 | ref p=>
  cases r;rcases ty with ⟨rfl,xs,hq⟩ | ⟨rfl,o,hk,hc,hd⟩ | ⟨rfl,hk⟩ | ⟨rfl,S,n,hk⟩
  ·let⟨its,_,pl,_⟩:=I.list hq;refine⟨pl.isList.typeIs,λa e=>?_⟩;cases e;let⟨o,n,e,c,hd,_⟩:=pl;exact⟨o,e,hd⟩
  ·refine⟨⟨o,I.kIn p o hk,hc⟩,λa e=>?_⟩;cases e;exact⟨o,I.kIn _ o hk,hd⟩
  ·have z:∃o,s.heap.get? p=some o/\o.ExactDict:=by
    rcases hk with ⟨kvs,hk⟩ | ⟨kvs,hk⟩
    ·let⟨_,_,_,_,o,_,_,e,ex,_⟩:=I.hok p _ hk;exact⟨o,e,ex⟩
    ·let⟨_,_,_,_,o,_,_,e,ex,_⟩:=I.hok p _ hk;exact⟨o,e,ex⟩
   let⟨o,e,ex⟩:=z;refine⟨⟨o,e,ex.1⟩,λa e2=>?_⟩;cases e2;exact⟨o,e,ex.2.1⟩
  ·let⟨o,_,_,_,e,ex,_⟩:=I.hok p _ hk;refine⟨⟨o,e,ex.1⟩,λa e2=>?_⟩;cases e2;exact⟨o,e,ex.2.1⟩
 | _=>exact False.elim ty
def tBM (K:A8)(T:String)(r:V->!V->Hp->VK->Prop)(to:TE)(t:TA):TE:=fun σ H Q=>to σ H λx H1=>tyV K T x H1/\t σ H1 λxs H2=>r x xs H2 Q
variable {o e:Expr}{es:!Expr}{to:TE}{t:TA}{name:Str}{apos cpos:Pos}{T id:String}{r:V->!V->Hp->VK->Prop}
theorem L8 (pa:PlainAttrs T)(slot:Slot T name id)(hty:typeOf (.builtin id)=pure (.type "method_descriptor"))(hm:MtR X id r)(ho:PE X o to)(ha:PA X (e::es) t)
  (hbase:autoParam (attributeBase o name X.env (eval o X.env)=eval o X.env) RF._auto_1)
  (hfew:((backTo cpos (starEach (e::es) X.env)).all (λx=>not x.1)&&(backToKw cpos (keywordEach [] X.env)).all (λx=>x.1.isSome)
   &&decide ((e::es).length+([]:!Keyword).length+(if ([]:!Keyword).isEmpty then 0 else 1)<30))=true:=by rfl)
  (hline:autoParam ((apos.endLine == cpos.line)=true) RF._auto_1) (hs:autoParam (starEach (e::es) X.env=(false,eval e X.env)::starEach es X.env) RF._auto_1) (hplain:autoParam ((backTo cpos (starEach es X.env)).any (·.1)=false) RF._auto_1) :
  PE X (.Call (.Attribute o name apos) (e::es) [] cpos) (tBM X.K T r to t):=by
 intros Q I h;refine wpAny_Call_method_late hbase hfew hline rfl (thn (ho pins s σ H _ I h) λv s1 zz224=>zz224.elim λx zz225=>zz225.elim λH1 zz226=>zz226.elim λI1 zz227=>zz227.elim λr1 zz228=>zz228.elim λty q1=>?_);let⟨h1,h2⟩:=D0m I1 r1 ty;exists T,id,pa,slot,hty,h1,h2;have hA:=ha cpos pins s1 σ H1 _ I1 q1;rw[hs] at hA ⊢;refine Calls.callWith_builtin (by show (false||(backTo cpos (starEach es X.env)).any (·.1))=false;rw[hplain] <;> rfl) (Calls.evalArgs_plain ?_);exact thn hA λus s2 zz229=>el5 zz229 λvs H2 I2 r2 q2=>hm pins s2 σ H2 x vs v us Q I2 r1 r2 q2
end
def MtM (X:Cx)(id:String)(r:V->!V->Hp->VK->Prop):Prop:=
 ∀(pins:!(Addr×Obj))(s:Shared)(σ:St)(H:Hp)(x:V)(xs:!V)(v:Value)(us:!Value)(Q:VK),Inv X pins σ H s->F1 x v->E1 xs us->r x xs H Q->
  wpAny (model X.prog X.w) X.A (call (.builtin id) (v::us)) (EP X pins σ Q) X.xe s
theorem E1.one {x:V}{us:!Value}(h:E1 [x] us):∃u,us=[u]/\F1 x u:=by
 cases h with
 | cons r t=>cases t;exact⟨_,rfl,r⟩
theorem E1.two {x y:V}{us:!Value}(h:E1 [x,y] us):∃u v,us=[u,v]/\F1 x u/\F1 y v:=by
 cases h with
 | cons r t=>let⟨v,rfl,q⟩:=E1.one t;exact⟨_,_,rfl,r,q⟩
theorem E1.eraseIdx:∀{xs:!V}{us:!Value}(i:Nat),E1 xs us->E1 (xs.eraseIdx i) (us.eraseIdx i)
 | _,_,_,.nil=>.nil
 | _,_,0,.cons _ t=>t
 | _,_,i+1,.cons r t=>.cons r (E1.eraseIdx i t)
theorem E1.rep {xs:!V}{us:!Value}(h:E1 xs us):∀k:Nat,E1 (G1 k xs).flatten (G1 k us).flatten
 | 0=>.nil
 | k+1=>by
  rw[A0u,A0u,A3k,A3k];exact E1.append h (E1.rep h k)
theorem C2a {α:Type}:∀(l:!α)(i:Nat),(l.eraseIdx i).length<=l.length
 | [],_=>G3 _
 | _::_,0=>A3j _
 | _::r,i+1=>Nat.succ_le_succ (C2a r i)
theorem C2b (its:!Value):∀(k:Nat)(acc:!Value),
  List.foldl (λx1 x2=>x1++x2) acc.toArray (G1 k its.toArray)=(acc++(G1 k its).flatten).toArray
 | 0,acc=>by simp
 | k+1,acc=>by
  have e:acc.toArray++its.toArray=(acc++its).toArray:=by simp
  have e2:(acc++its)++(G1 k its).flatten=acc++(G1 (k+1) its).flatten:=by
   rw[A0u,A3k,j9]
  rw[<-e2,<-C2b its k (acc++its),<-e,A0u,List.foldl_cons]
section
variable {pins:!(Addr×Obj)}{σ:St}{H:Hp}{s:Shared}{l b:Addr}{xs ys zs:!V}
theorem Inv.lset {its its':!Value}{n:Nat}{f:Array Value->Array Value}{t':Nat}(I:Inv X pins σ H s)(hH:H l=some (.lst xs))
  (e:s.heap.get? l=some { cls:=.type "list",data:=.seq its.toArray n }) (hf:f its.toArray=its'.toArray) (hv:E1 ys its') (hz:ys.length<=sizeLine) :
  Inv X pins σ (upd H l (.lst ys)) { s with heap:=s.heap.update l (A7i f),toks:=t' }:=by
 have q:=PySem.IsL.update e f;rw[hf] at q;refine I.write (x:=l) (e:=l) (by rw[hH];exact trivial) (.inl rfl) (λb' u hb hu=>(A7j s.heap (A7i f) (Ne.symm hb)).trans hu) ⟨_,q⟩ ?_;exact⟨hz,its',_,hv,q⟩
theorem Inv.lnew {its:!Value}{t':Nat}(I:Inv X pins σ H s)(hv:E1 ys its)(hz:ys.length<=sizeLine) :
  Inv X pins σ (upd H s.heap.objs.size (.lst ys)) { s with heap:=s.heap.push { cls:=.type "list",data:=.seq its.toArray },toks:=t' }:=
 I.laid (λJ J q=>Q3 _ q) (G3 _) ⟨hz,its,0,hv,U3 _ rfl⟩
theorem Inv.fresh (I:Inv X pins σ H s):H s.heap.objs.size=none:=I.hok.fresh (G3 _)
theorem Inv.lstM (I:Inv X pins σ H s)(hH:H l=some (.lst xs)):xs.length<=sizeLine/\∃(its:!Value)(n:Nat),E1 xs its/\xs.length=its.length/\s.heap.get? l=some { cls:=.type "list",data:=.seq its.toArray n }:=by
 let⟨z,its,n,r,e⟩:=I.hok l _ hH;exact⟨z,its,n,r,r.length,e⟩
theorem D0n {n:Nat}(h:n<=sizeLine):Builtin.List.listTooLong n=false:=by
 unfold Builtin.List.listTooLong;exact decide_eq_false (by omega)
end
def B45:V->!V->Hp->VK->Prop:=λx vs H Q=>∃l xs y,x=.ref l/\vs=[y]/\H l=some (.lst xs)/\xs.length<sizeLine/\Q .non (upd H l (.lst (xs++[y])))
theorem T6:MtM X "list.append" B45:=by
 intros x vs v us Q I rx rv h;let⟨l,xs,y,rfl,rfl,hH,hz,q⟩:=h;cases rx;let⟨u,rfl,ru⟩:=rv.one;let⟨z,its,n,r,hl,e⟩:=I.lstM hH;refine call_meets F.slot_list_append ⟨_,e,rfl⟩ F.entry_list_append (F.args_list_append_2 _ _) (PySem.list_append l its.toArray n u (by rw[R9];omega)) ⟨e,?_⟩;refine⟨.non,_,I.lset (its':=its++[u]) hH e (by simp) (r.append (.cons ru .nil)) ?_,rfl,q⟩;rw[L3,C8g];omega
def D0o:V->!V->Hp->VK->Prop:=λx vs H Q=>∃l xs i k y,x=.ref l/\vs=[.int i]/\H l=some (.lst xs)/\-(2^63)<=i/\i<2^63/\seqIndex? i xs.length=some k/\xs[k]?=some y/\Q y (upd H l (.lst (xs.eraseIdx k)))
theorem D0p:MtM X "list.pop" D0o:=by
 intros x vs v us Q I rx rv h;let⟨l,xs,i,k,y,rfl,rfl,hH,h1,h2,hk,hy,q⟩:=h;cases rx;let⟨u,rfl,ru⟩:=rv.one;let⟨t,rfl⟩:=ru;let⟨z,its,n,r,hl,e⟩:=I.lstM hH;let⟨w,hw,rw'⟩:=r.get hy;refine call_meets F.slot_list_pop ⟨_,e,rfl⟩ F.entry_list_pop (F.args_list_pop_2 _ _)
  (MeetsSeq.list_pop_at l its.toArray n i t k w (fitsIndex_both h1 h2) (by rw[R9,<-hl];exact hk) (by rw[<-B08];exact hw) (by rw[R9];omega)) ⟨e,?_⟩
 refine⟨y,_,I.lset (its':=its.eraseIdx k) hH e ?_ (r.eraseIdx k) ?_,rw',q⟩
 ·show its.toArray.eraseIdxIfInBounds k=(its.eraseIdx k).toArray;rw[List.eraseIdxIfInBounds_toArray]
 ·have:=C2a xs k;omega
def D0q:R2:=λx y H Q=>∃l b xs zs,x=.ref l/\y=.ref b/\H l=some (.lst xs)/\H b=some (.lst zs)/\xs.length+zs.length<=sizeLine/\∀p,H p=none->Q (.ref p) (upd H p (.lst (xs++zs)))
theorem A5j:OpR X (binaryOp .Add) D0q:=by
 intros x y v u Q I rx ry h;let⟨l,b,xs,zs,rfl,rfl,hH,hB,hz,q⟩:=h;cases rx;cases ry;let⟨z,its,n,r,hl,e⟩:=I.lstM hH;let⟨z2,its2,n2,r2,hl2,e2⟩:=I.lstM hB;refine PySem.P.add_list e e2 ?_ (by rw[R9,R9];omega);have ea:its.toArray++its2.toArray=(its++its2).toArray:=by simp
 rw[ea];exact⟨.ref _,_,I.lnew (t':=s.toks) (r.append r2) (by rw[L3];omega),rfl,q _ I.fresh⟩
def D0r:R2:=λx y H Q=>∃l k xs,x=.ref l/\y=.int k/\H l=some (.lst xs)/\-(2^63)<=k/\k<2^63/\xs.length*k.toNat<=sizeLine/\
 ∀p,H p=none->Q (.ref p) (upd H p (.lst (G1 k.toNat xs).flatten))
theorem D0s {α:Type}(xs:!α)(k:Nat):(G1 k xs).flatten.length=k*xs.length:=by
 induction k with
 | zero=>simp
 | succ k ih=>rw[A0u,A3k,L3,ih,Nat.succ_mul,Nat.add_comm]
theorem B46:OpR X (binaryOp .Mult) D0r:=by
 intros x y v u Q I rx ry h;let⟨l,k,xs,rfl,rfl,hH,h1,h2,hz,q⟩:=h;cases rx;let⟨t,rfl⟩:=ry;let⟨z,its,n,r,hl,e⟩:=I.lstM hH;have hlen:its.toArray.size*k.toNat<=sizeLine:=by rw[R9,<-hl];exact hz
 have hcap:¬ its.toArray.size*k.toNat>(2^63-1)/8:=by
  have:(sizeLine:Nat)<=(2^63-1)/8:=by decide
  omega
 have hfit:¬ (not (Builtin.List.listFitsIndex k))=true:=by
  rw[fitsIndex_both h1 h2];exact Q2
 have hlong:¬ Builtin.List.listTooLong (its.toArray.size*k.toNat)=true:=by
  rw[D0n hlen];exact Q2
 have hnew:List.foldl (λx1 x2=>x1++x2) #[] (G1 (if its.toArray.isEmpty=true then 0 else k.toNat) its.toArray)=(G1 k.toNat its).flatten.toArray:=by
  have f0:∀m:Nat,List.foldl (λx1 x2=>x1++x2) #[] (G1 m its.toArray)=(G1 m its).flatten.toArray:=λm=>by
   have:=C2b its m [];rw[T2] at this;exact this
  rw[f0];cases its with
  | nil=>simp
  | cons a r'=>rw[if_neg (by simp)]
 refine wpAny_binaryOp_repeat_ref (T:= "list") (U:= "int") DD ⟨_,e,rfl⟩ (λs'=>typeIs_int s' k t) noFill_list_mul F.fills_int_mul F.slot_int_rmul repeat_list F.slot_int_index.lookup
  (call_meets F.slot_int_rmul (typeIs_int s k t) F.entry_int_rmul (F.args_int_rmul_2 _ _) (int___rmul___int_list k t l its.toArray n)
   ⟨e,rfl,⟨_,e,rfl⟩,call_meets F.slot_list_mul ⟨_,e,rfl⟩ F.entry_list_mul (F.args_list_mul_2 _ _) (AutoListH.list___mul___list_int_3 l its.toArray n k t hfit hcap hlong) ⟨e,?_⟩⟩)
 rw[hnew];exact⟨.ref _,_,I.lnew (t':=s.toks) (r.rep k.toNat) (by rw[D0s,Nat.mul_comm];exact hz),rfl,q _ I.fresh⟩
section
variable {prog:Program}{w:World}{A:Around}{E:Value->Shared->Prop}{s:Shared}
set_option maxRecDepth 100000 in
end
end Lake
namespace Att
open PySem PySem.W PySem.Calls PyProof.Rows
theorem D0t {P:Params}{h:Heap}:∀(ns:!Int)(vs:!Value),WellAll P h vs (ns.map WData.int)->IntsAre vs ns:=by
 intro ns
 induction ns with
 | nil=>intro vs w;rw[B4g] at w;cases w;exact .nil
 | cons n ns ih=>
  intro vs w;rw[K9] at w;cases w with
  | cons a b=>cases a;exact .cons _ _ (ih _ b)
theorem D0u {l:OpenLaw}{n:Nat}(hn:l.most=some n){P:Params}{h:Heap}{args:!WData}{vals:!Value}
  (hpre:l.row.toRowW.claim.pre args=true) (hwl:WellAll P h vals args) :
  ∃a vs ns,vals=[Value.ref a]/\args=[WData.list (ns.map WData.int)]/\h.get? a=some { cls:=.type "list",data:=.seq vs.toArray }/\IntsAre vs ns/\ns.length<=n:=by
 have hsh:WShape.hasAll [] args [.list .int]=true:=(pre_splitW hpre).1;have hc:l.pre.holds [] { args:=args }=true:=(pre_splitW hpre).2;let⟨d,r,rfl,h1,h2⟩:=hasAllW_cons hsh;obtain rfl:=hasAllW_nil h2;let⟨xs,rfl,h3⟩:=hasW_list h1;let⟨ns,rfl⟩:=items_int h3;have hlen:ns.length<=n:=by
  unfold OpenLaw.pre at hc;have h4:(WTm.not (.lt (.lit (.int (n:Int))) (.len (.arg 0)))).holds [] { args:=[.list (ns.map .int)] }=true:=by
   have h4:=(holds_andW hc).1;rw[hn] at h4;exact h4
  have h5:=condW_of h4 (w_not (w_lt w_lit (w_len_list (w_arg rfl))));rw[B7] at h5;refine Nat.le_of_not_lt λq=>?_;have q':(n:Int)<((ns.length:Nat):Int):=by omega
  first
   | (rw[decide_eq_true q'] at h5;exact absurd h5 DD)
   | (simp at h5;omega)
 cases hwl with
 | cons w1 w2=>
  cases w2;cases w1 with
  | list ho hall=>exact⟨_,_,ns,rfl,rfl,ho,D0t ns _ hall,hlen⟩
theorem D0v (l:OpenLaw)(args:!WData):l.row.toRowW.claim.post args (.bool true) args=true:=
 postW_of (r:=l.row.toRowW) (X:=(true == true))
  (show WShape.has [] (.bool true) .bool=true by first | rfl | decide | simp [WShape.has,WShape.arms,WShape.armsAll])
  (show (WTm.eq .res (.lit (.bool true))).value [] { args:=args,res:=some (.bool true),after:=args }=some (.bool (true == true)) from w_eq_bool (w_res rfl) w_lit) rfl
theorem attach_call {l:OpenLaw}{n:Nat}{q:Program}{loose:!Str}{XP:(Str->Option Value)->Heap->Prop}{YP:World->Heap->Prop}{d:DefRec}
  (hn:l.most=some n) (hdf:d.params.defaults=[])
  (call:∀(w:World)(s₀ s₁:Shared)(mg mb:Str->Option Value)(fa:Addr)(o:Obj)(pm cd doc:Value)(a:Addr)(vs:!Value)(ns:!Int),
   Ground q loose [] XP w s₀ mg mb s₁.heap->YP w s₁.heap->
   s₁.heap.get? fa=some o->o.data=.func (docDef d.name d.params d.body d.scope pm cd doc)->s₁.heap.CodeRec cd d.name->mg d.name=some (.ref fa)->
   s₁.heap.get? a=some { cls:=.type "list",data:=.seq vs.toArray }->IntsAre vs ns->ns.length<=n->s₁.gens=#[]->
   codeAny (model l.prog w) callerA (.call (.ref fa) ⟨[.ref a],[]⟩) (λr s'=>r=.ok (.ret (.bool true))/\OldK s₁.heap s'.heap/\s'.os=s₁.os/\AllBare s'.gens) s₁) :
  WalkO q loose XP YP l.row.toRowW d [] (λf vs=>PySem.call f vs):=by
 intro w s₀ s₁ mg mb G Y fa o pm cd doc dV kV ho hd hcd hD hmg hg args vals as hpre hlay hrd hwl hlo;obtain rfl:dV=.none:=Dflts.none hD hdf;obtain rfl:kV=.none:=Dflts.noKw hD;let⟨a,vs,ns,rfl,rfl,hobj,hints,hlen⟩:=D0u hn hpre hwl;refine enter_call (codeAny_mono (call w s₀ s₁ mg mb fa o pm cd doc a vs ns G Y ho (fd_plain hd) hcd hmg hobj hints hlen hg) λr s' hq=>?_);let⟨rfl,h2,h3,h4⟩:=hq;exact⟨.inl ⟨.bool true,.bool true,[],rfl,λJ=>rfl,.bool true,D0v l _,λJ=>⟨List.Pairwise.nil,λJ hm=>(nomatch hm)⟩⟩,h2,h3,h4⟩
section
variable {prog:Program}{w:World}{A:Around}{E:Value->Shared->Prop}{s:Shared}{K:Frag}
def E4g (h:Heap)(L d:Addr):!(Addr×Obj):=(U2 h.objs.size).filterMap λa=>if a=L\/a=d then none else (h.get? a).map λo=>(a,o)
end
end Att
namespace Lake
open PySem PySem.Spec PyProof.Rows
theorem B47:∀{vs:!Value}{ns:!Int},IntsAre vs ns->E1 (ns.map V.int) vs
 | _,_,.nil=>.nil
 | _,_,.cons n t h=>.cons ⟨t,rfl⟩ (B47 h)
def B48 (H:Hp):Prop:=∀b,H b=none\/∃o xs,H b=some (.frz o (.lst xs))
theorem D0w {P:Program}{w:World}{K:A8}{mg mb:Str->Option Value}{CX:CXT}{k:Nat}{fa a:Addr}{fd:FuncData}{x:Str}{sp:Sp}{s₁:Shared}{vs:!Value}{ns:!Int}
  (KX:K.In s₁.heap) (hns:s₁.heap.Ns mainGlobals mg) (hb:s₁.heap.Ns builtinsNs mb) (hbb:∀x:Str,x≠ "__name__" ->mb x=bootBuiltins x) (hlim:s₁.heap.NoLimit) (hg:s₁.gens=#[])
  (ha:s₁.heap.get? a=some { cls:=.type "list",data:=.seq vs.toArray }) (hi:IntsAre vs ns) (hl:ns.length<=sizeLine) (hr:Q5 k callerA)
  (F:∀base:Heap,K.In base->base.Ns mainGlobals mg->C5 P w K mg base CX k fa fd [x] sp) (hbind:∀(s:Shared)(u:Value),BindsTo s fd ⟨[u],[]⟩ [(x,u)])
  (hsp:∀H:Hp,B48 H->SqL K H a (ns.map V.int)->sp [.ref a] H (λv J=>v=.bl true) λJ J J=>False)
  (hCX:∀H e s',CX [] H s₁ (λJ J J=>False) e s'->False) :
  codeAny (model P w) callerA (.call (.ref fa) ⟨[.ref a],[]⟩) (λr s'=>r=.ok (.ret (.bool true))/\OldK s₁.heap s'.heap/\s'.os=s₁.os/\AllBare s'.gens) s₁:=by
 have rv:=B47 hi;have lenV:=hi.length;have core:∀H:Hp,B48 H->SqL K H a (ns.map V.int)->HOk P w H s₁.heap->(∀b,H b≠none->b=a)->(H a≠none->K.lookup a=none)->
   codeAny (model P w) callerA (.call (.ref fa) ⟨[.ref a],[]⟩) (λr s'=>r=.ok (.ret (.bool true))/\OldK s₁.heap s'.heap/\s'.os=s₁.os/\AllBare s'.gens) s₁:=by
  intro H hO hS hok hA hK;have base_of:∀{b:Addr}{o:Obj},s₁.heap.get? b=some o->H b=none->(A2l s₁.heap H).get? b=some o:=λe n=>C82 e n;have noA:∀{b:Addr}{o:Obj}{es:Array DictEntry}{ep:Nat},s₁.heap.get? b=some o->o.data=.dict es ep->H b=none:=λ{b o es ep} e d=>by
   cases q:H b with
   | none=>rfl
   | some u=>have e':b=a:=hA b (by rw[q];simp);subst e';rw[ha] at e;cases e;have d':Data.seq vs.toArray _=Data.dict es ep:=d;cases d'
  have nsK:∀{b:Addr}{m:Str->Option Value},s₁.heap.Ns b m->(A2l s₁.heap H).Ns b m:=λ{b m} ⟨o,es,ep,e,d,r⟩=>⟨o,es,ep,base_of e (noA e d),d,r⟩;have hKb:K.In (A2l s₁.heap H):=λb o e=>base_of (KX b o e) (by
   cases q:H b with
   | none=>rfl
   | some u=>
    have e':b=a:=hA b (by rw[q];simp);subst e';rw[hK (by rw[q];simp)] at e;cases e)
  have hM:Mod K mg (A2l s₁.heap H):=⟨hKb,nsK hns,⟨mb,nsK hb,hbb⟩,let ⟨mc,h1,h2⟩:=hlim;⟨mc,nsK h1,h2⟩⟩;have e0:A5g P w K mg (A2l s₁.heap H) callerA [] s₁ H:=⟨rfl,hM,λb o e=>C83 e,Nat.le_of_eq (C81 _ _),trivial,λb hb=>absurd (show b∈([]:!Addr) from hb) (by simp),hok,.of_eq hg⟩;refine codeAny_mono ((F _ hKb (nsK hns)).run callerA [] s₁ H ⟨[.ref a],[]⟩ [.ref a] [.ref a] _ _ hr e0 (hbind s₁ (.ref a)) (.cons rfl .nil) (hsp H hO hS)) λr s' h=>?_;cases r with
  | error e=>exact (hCX H e s' h).elim
  | ok fl=>
   cases fl with
   | next=>exact False.elim h
   | brk=>exact False.elim h
   | cont=>exact False.elim h
   | ret u=>
    let⟨v,H',os,bare,un,hok',r',q⟩:=h;have q':v=.bl true:=q;subst q';obtain rfl:u=Value.bool true:=r';refine⟨rfl,OldK.of_keep λb o e=>?_,os,bare⟩;cases q:H b with
    | none=>exact un.keep b o e q (by intro z;exact absurd (show b∈([]:!Addr) from z) (by simp)) (by simp)
    | some u=>
     rcases hO b with z | ⟨ob,xs,z⟩
     ·rw[q] at z;cases z
     ·have z2:=un.frzs b ob _ z;let⟨e1,_⟩:=hok b _ z;let⟨e2,_⟩:=hok' b _ z2;rw[e] at e1;cases e1;exact e2
 cases hk:K.lookup a with
 | some o=>have e:=KX a o hk;rw[ha] at e;cases e;refine core (λJ=>none) (λJ=>.inl rfl) (.inr ⟨_,vs.toArray,_,hk,rfl,rfl,rfl,by rw[R9,lenV];exact hl,by simpa using rv⟩) (λb u z=>by have z':(none:Option HO)=some u:=z;cases z') (λb z=>absurd rfl z) λz=>absurd rfl z
 | none=>
  refine core (λb=>if b=a then some (.frz { cls:=.type "list",data:=.seq vs.toArray } (.lst (ns.map V.int))) else none) (λb=>?_) (.inl (.inr ⟨{ cls:=.type "list",data:=.seq vs.toArray },if_pos rfl⟩)) (λb u z=>?_) (λb z=>?_) λJ=>hk
  ·by_cases hb:b=a
   ·exact .inr ⟨_,_,if_pos hb⟩
   ·exact .inl (if_neg hb)
  ·by_cases hb:b=a
   ·have z':=(if_pos hb).symm.trans z;cases z';subst hb;exact⟨ha,by rw[B7];exact hl,vs,_,rv,ha⟩
   ·have z':=(if_neg hb).symm.trans z;cases z'
  ·by_cases hb:b=a
   ·exact hb
   ·exact absurd (if_neg hb) z
theorem walk_of {l:PySem.W.OpenLaw}{n k:Nat}{q:Program}{loose:!Str}{XP:(Str->Option Value)->Heap->Prop}{YP:World->Heap->Prop}{d:DefRec}{K:Params->A8}{CX:World->CXT}{sp:World->Sp}{x:Str}
  (hn:l.most=some n) (hn2:n<=sizeLine) (hdf:d.params.defaults=[]) (hr:Q5 k callerA)
  (hY:∀(w:World)(h:Heap),YP w h->(K w.params).In h)
  (F:∀(w:World)(mg:Str->Option Value)(fa:Addr)(h:Heap),(K w.params).In h->h.Ns mainGlobals mg->mg d.name=some (.ref fa)->
   ∃fd:FuncData,(∀(s:Shared)(u:Value),BindsTo s fd ⟨[u],[]⟩ [(x,u)])/\
    ∀base:Heap,(K w.params).In base->base.Ns mainGlobals mg->C5 l.prog w (K w.params) mg base (CX w) k fa fd [x] (sp w))
  (hsp:∀(w:World)(H:Hp)(a:Addr)(ns:!Int),ns.length<=n->B48 H->SqL (K w.params) H a (ns.map V.int)->sp w [.ref a] H (λv J=>v=.bl true) λJ J J=>False)
  (hCX:∀(w:World)(H:Hp)(s:Shared)(e:Value)(s':Shared),CX w [] H s (λJ J J=>False) e s'->False) :
  PySem.W.WalkO q loose XP YP l.row.toRowW d [] (λf vs=>PySem.call f vs):=by
 refine Att.attach_call hn hdf λw s₀ s₁ mg mb fa o pm cd doc a vs ns G Y ho hd hcd hmg hobj hints hlen hg=>?_;have KX:=hY w _ Y;let⟨fd,hb,hF⟩:=F w mg fa _ KX G.T.g hmg;exact D0w KX G.T.g G.T.b G.T.builtins G.T.nolimit hg hobj hints (M0 hlen hn2) hr hF hb (λH hO hS=>hsp w H a ns hlen hO hS) λH e s'=>hCX w H s₁ e s'
def Z7 (s:Stmt)(j:Nat):Stmt:=match s with
 | .ClassDef _ _ _ body _ _ _ _ _ _ _=>body.getD j (.Pass ⟨0,0,0,0⟩)
 | _=>.Pass ⟨0,0,0,0⟩
def A5k (s:Stmt):Arguments:=match s with
 | .FunctionDef _ a _ _ _ _ _ _ _ _=>a
 | _=>{ posonlyargs:=[],args:=[],vararg:=none,kwonlyargs:=[],kw_defaults:=[],kwarg:=none,defaults:=[] }
def A2r (s:Stmt):!Stmt:=match s with
 | .FunctionDef _ _ b _ _ _ _ _ _ _=>b
 | _=>[]
def B5 (s:Stmt):Scope:=match s with
 | .FunctionDef _ _ _ _ _ _ sc _ _ _=>sc
 | _=>{ kind:=.function,names:=[],isGenerator:=false,isCoroutine:=false }
abbrev CX0:CXT:=λJ J J J J J=>False
abbrev E0:XK:=λJ J J=>False
theorem A7 {X:Cx}:A2p CX0 X E0:=λJ J J J J J J h=>h.elim
structure Fun (K:A8)(x qual:Str)(st:Stmt)(f:Addr)(fd:FuncData):Prop where
 ex:∃(oc:Value)(od:Option Addr)(kV doc pm:Value)(an:Option Addr)(cdv ct:Value)(osl:Array (Option Value)),
  fd=A43 x qual (A5k st) (A2r st) (B5 st) .none kV doc pm an cdv ct/\K.lookup f=some ⟨oc,od,.func fd,osl⟩/\C0o K cdv qual=true
 kp:A7f K (.ref f)=true
section
variable {P:Program}{w:World}{K:A8}{mg:Str->Option Value}{base:Heap}
theorem Fun.ok {x qual:Str}{st:Stmt}{f:Addr}{fd:FuncData}{N ps:!Str}{k:Nat}{sp:Sp}(F:Fun K x qual st f fd)(S:C8 N ps (B5 st))(len:∀vs H Q E,sp vs H Q E->vs.length=ps.length)
  (hbody:∀(cdv:Value)(A:Around)(outer:!Env)(s:Shared)(H:Hp)(vs:!V)(Q:VK)(E:XK),Q5 k (A.deeper (envOfC qual (B5 st) s.heap.objs.size f cdv))->sp vs H Q E->
   ∃t,PSs (J3 CX0 P w K mg base N qual (B5 st) f cdv A outer s H E).nox (A2r st) t/\t { nx:=λJ H'=>Q .non H',rt:=Q } (start N vs) H):C5 P w K mg base CX0 (k+1) f fd ps sp:=by
 let⟨oc,od,kV,doc,pm,an,cdv,ct,osl,rfl,lk,hcd⟩:=F.ex;refine D0b lk hcd S len λA outer s H vs Q E hr hsp=>?_;let⟨t,h,q⟩:=hbody cdv A outer s H vs Q E hr hsp;exact⟨t,h.nox,q⟩
theorem Fun.binds {x qual:Str}{st:Stmt}{f:Addr}{fd:FuncData}{ps:!Str}(F:Fun K x qual st f fd)
  (h:∀(kV doc pm:Value)(an:Option Addr)(cdv ct:Value)(us:!Value),us.length=ps.length->bindArgs (A43 x qual (A5k st) (A2r st) (B5 st) .none kV doc pm an cdv ct) ⟨us,[]⟩=pure (ps.zip us)):A0h K fd ps []:=by
 let⟨oc,od,kV,doc,pm,an,cdv,ct,osl,rfl,lk,hcd⟩:=F.ex;exact .all (h kV doc pm an cdv ct)
theorem D0x {x qual:Str}{st:Stmt}{f:Addr}{oc:Value}{od an:Option Addr}{osl:Array (Option Value)}{kV doc pm cdv ct:Value}(l:K.lookup f=some ⟨oc,od,.func (A43 x qual (A5k st) (A2r st) (B5 st) .none kV doc pm an cdv ct),osl⟩)
  (c:C0o K cdv qual=true) (k:A7f K (.ref f)=true):Fun K x qual st f (A43 x qual (A5k st) (A2r st) (B5 st) .none kV doc pm an cdv ct):=⟨⟨oc,od,kV,doc,pm,an,cdv,ct,osl,rfl,l,c⟩,k⟩
end
theorem B15 {n:Nat}(h:n<=1000):n<sizeLine:=A2f h (DD)
section
variable {X:Cx}
theorem pv (i:Nat){x:Str}{pos:Pos}(hN:autoParam (X.N[i]?=some x) RF._auto_1)(hv:Vis X.env.scope x:=by first | exact B6 rfl | exact Or.inr (B6 rfl) | exact Or.inr (Or.inr rfl))(hd:autoParam ((x == ("__debug__" : Str))=false) DD._auto_1)
  (hcd:autoParam ((x == ("__classdict__" : Str))=false) DD._auto_1):PE X (.Name x pos) (A0g i):=C85 hN hv hd hcd
end
theorem G5 {A B:Prop}(h:B):if false=true then A else B:=by
 rw[if_neg Q2];exact h
theorem L4 {A B:Prop}(h:A):if true=true then A else B:=by
 rw[if_pos rfl];exact h
theorem A7u {c A B:Prop}[Decidable c](h1:c->A)(h2:¬ c->B):if c then A else B:=by
 by_cases h:c
 ·rw[if_pos h];exact h1 h
 ·rw[if_neg h];exact h2 h
def Same (H H':Hp):Prop:=∀b o,H b=some o->H' b=some o
theorem Same.refl (H:Hp):Same H H:=λJ J h=>h
end Lake
set_option maxHeartbeats 4000000
namespace Lake
open PySem PySem.Spec PyProof.Rows
def f9 (cells:!(Str×Addr)):!(Str×NameKind)->!(Str×Addr)->!(Str×Addr)
 | [],cs=>cs
 | (n,k)::r,cs=>f9 cells r (if k == .free then (n,(cells.lookup n).getD 0)::cs else cs)
theorem C2c {scope:Scope}{env:Env}(h:∀y∈scope.names,y.2=.free->∃c,env.cells.lookup y.1=some c):closureFor scope env=pure (f9 env.cells scope.names []):=by
 have key:∀(l:!(Str×NameKind))(cs:!(Str×Addr)),(∀y∈l,y.2=.free->∃c,env.cells.lookup y.1=some c)->
   (forIn l cs λ(x:Str×NameKind) (r:!(Str×Addr))=>if (x.2 == NameKind.free)=true then do let a <-cellOf env x.1;pure (ForInStep.yield ((x.1,a)::r)) else pure (ForInStep.yield r):Sem (!(Str×Addr)))=pure (f9 env.cells l cs):=by
  intro l
  induction l with
  | nil=>intro cs _;rfl
  | cons y r ih=>
   intro cs hl;let⟨n,k⟩:=y;rw[List.forIn_cons];by_cases hk:k=.free
   ·subst hk;let⟨c,hc⟩:=hl (n,.free) E5 rfl;have hc':env.cells.lookup n=some c:=hc;have e1:cellOf env n=pure c:=by unfold cellOf;rw[hc']
    simp only[beq_self_eq_true,if_true,e1,pure_bind];rw[ih _ λz hz=>hl z (E3 _ hz)];show _=pure (f9 env.cells r (if (NameKind.free == NameKind.free)=true then (n,(env.cells.lookup n).getD 0)::cs else cs));rw[hc'];rfl
   ·have hb:(k == NameKind.free)=false:=by simpa using hk
    simp only[hb,B4h,if_false,pure_bind];rw[ih _ λz hz=>hl z (E3 _ hz)];show _=pure (f9 env.cells r (if (k == NameKind.free)=true then (n,(env.cells.lookup n).getD 0)::cs else cs));rw[hb];rfl
 have k2:=key scope.names [] h;have e:closureFor scope env=((forIn scope.names [] λ(x:Str×NameKind) (r:!(Str×Addr))=>if (x.2 == NameKind.free)=true then do let a <-cellOf env x.1;pure (ForInStep.yield ((x.1,a)::r)) else pure (ForInStep.yield r):Sem (!(Str×Addr))) >>= λcs=>pure cs):=rfl;rw[e,k2];rfl
set_option tactic.hygienic true in
theorem C2d {cells:!(Str×Addr)}:∀{l:!(Str×NameKind)}{cs:!(Str×Addr)},(∀y∈l,y.2=.free->∃c,cells.lookup y.1=some c)->(∀x c,cs.lookup x=some c->cells.lookup x=some c)->
  ∀x c,(f9 cells l cs).lookup x=some c->cells.lookup x=some c
 | [],_,_,h,x,c,e=>h x c e
 | (n,k)::r,cs,hl,h,x,c,e=>by
  unfold f9 at e;refine C2d (l:=r) (λz hz=>hl z (E3 _ hz)) (λy d q=>?_) x c e;split at q
  ·rename_i hk;let⟨c0,hc0⟩:=hl (n,k) E5 (by simpa using hk);have hc0':cells.lookup n=some c0:=hc0;rw[hc0'] at q;rw[A1s] at q;split at q
   ·rename_i hb;have:=eq_of_beq hb;subst this;rw[hc0'];exact q
   ·exact h y d q
  ·exact h y d q
theorem C2e {cells:!(Str×Addr)}{x:Str}:∀{l:!(Str×NameKind)}{cs:!(Str×Addr)},(∃c,cs.lookup x=some c)->∃c,(f9 cells l cs).lookup x=some c
 | [],_,h=>h
 | (n,k)::r,cs,h=>by
  unfold f9;refine C2e (l:=r) ?_;split
  ·rw[A1s];split
   ·exact⟨_,rfl⟩
   ·exact h
  ·exact h
theorem B49 {cells:!(Str×Addr)}{x:Str}:∀{l:!(Str×NameKind)}{cs:!(Str×Addr)},(x,NameKind.free)∈l->∃c,(f9 cells l cs).lookup x=some c
 | (n,k)::r,cs,h=>by
  unfold f9;rcases K7.mp h with e | h
  ·injection e with e1 e2
   subst e1 e2;refine C2e (l:=r) ?_;simp only[beq_self_eq_true,if_true];rw[A1s];simp
  ·exact B49 (l:=r) h
structure CA where
 s:Shared
 H:Hp
 C:Addr
 fp:!Addr
abbrev Z8 (X:Cx)(scope:Scope)(N':!Str)(a:CA):Cx where
 prog:=X.prog
 w:=X.w
 K:=X.K
 mg:=X.mg
 base:=X.base
 A:=X.A
 N:=N'
 s₀:=a.s
 H₀:=a.H
 env:=compEnvC scope (f9 X.env.cells scope.names []) a.C X.env
 outer:=X.stack
 stack:=X.stack
 ex:=a.fp
 fn:=λJ=>false
 calm:=X.calm
 pn:=[]
 xe:=λJ J=>False
structure N1 (N N':!Str)(osc scope:Scope)(j:Nat)(x:Str):Prop where
 nd:N'.Nodup
 at_:N'[j]?=some x
 sub:∀(i:Nat) y,i≠j->N'[i]?=some y->N[i]?=some y
 len:N'.length<=N.length+1
 kind:scope.kind=.function
 cell:∀y∈scope.names,y.2≠.cell
 names:∀y∈scope.names,y.2=.local->scope.names.lookup y.1=some .local
 only:∀y∈scope.names,y.2=.local->y.1=x\/y.1∉N'
 loc:scope.names.lookup x=some .local
 okind:osc.kind=.function
 free:∀y∈scope.names,y.2=.free->osc.names.lookup y.1=some .cell
def C2f (N:!Str)(osc scope:Scope)(x:Str):Bool:=
 decide (N++[x]).Nodup&&decide (scope.kind=.function)&&decide (osc.kind=.function)&&(scope.names.lookup x == some .local)&&
  scope.names.all λy=>match y.2 with
   | .cell=>false
   | .local=>scope.names.lookup y.1 == some .local&&(y.1 == x||not ((N++[x]).contains y.1))
   | .free=>osc.names.lookup y.1 == some .cell
   | _=>true
theorem N1.new {N:!Str}{osc scope:Scope}{x:Str}(h:C2f N osc scope x=true):N1 N (N++[x]) osc scope N.length x:=by
 unfold C2f at h;simp only[Z2,decide_eq_true_eq,B09,beq_iff_eq] at h;let⟨⟨⟨⟨h1,h2⟩,h3⟩,h4⟩,h5⟩:=h;refine⟨h1,by simp,λi y ne e=>?_,by simp,h2,λy hy e=>?_,λy hy e=>?_,λy hy e=>?_,h4,h3,λy hy e=>?_⟩
 ·by_cases hi:i<N.length
  ·rw[A7h hi] at e;exact e
  ·rw[A7g (by omega)] at e;cases q:i-N.length with
   | zero=>exact absurd (by omega) ne
   | succ k=>rw[q] at e;simp at e
 ·have:=h5 y hy;rw[e] at this;cases this
 ·have:=h5 y hy;rw[e] at this;simp only[Z2,beq_iff_eq] at this;exact this.1
 ·have:=h5 y hy;rw[e] at this;simp only[Z2,A9k,beq_iff_eq,C0q,List.contains_eq_mem,decide_eq_false_iff_not] at this;exact this.2
 ·have:=h5 y hy;rw[e] at this;simp only[beq_iff_eq] at this;exact this
def T7 (n j:Nat)(σ:St):St:=((σ++[none]).take n).set j none
theorem C2g {n j i:Nat}{σ:St}{v:V}(h:(T7 n j σ)[i]?=some (some v)):i≠j/\σ[i]?=some (some v):=by
 unfold T7 at h;by_cases e:i=j
 ·subst e;rw[A46] at h;simp only[if_true] at h;split at h <;> cases h
 ·exists e;rw[A2e (Ne.symm e)] at h;have h2:(σ++[none])[i]?=some (some v):=by
   by_cases hi:i<n
   ·rw[List.getElem?_take_of_lt hi] at h;exact h
   ·rw[A2g (by rw[X5];omega)] at h;cases h
  by_cases hi:i<σ.length
  ·rw[A7h hi] at h2;exact h2
  ·rw[A7g (by omega)] at h2;cases q:i-σ.length with
   | zero=>rw[q] at h2;cases h2
   | succ k=>rw[q] at h2;cases h2
theorem D0y {n j:Nat}{σ:St}(h:n<=σ.length+1):(T7 n j σ).length=n:=by
 unfold T7;rw[j8,X5,L3];simp;omega
theorem A9v {env:Env}:∀{names:!(Str×NameKind)}{x:Str},((names.map λ(n,k)=>if (k == NameKind.free&&env.scope.kind == .function&&env.kindOf n == some .cell) then (n,NameKind.cell) else (n,k)).lookup x=some .cell\/
  (names.map λ(n,k)=>if (k == NameKind.free&&env.scope.kind == .function&&env.kindOf n == some .cell) then (n,NameKind.cell) else (n,k)).lookup x=some .free)->(∀y∈names,y.2≠.cell)->(x,NameKind.free)∈names
 | [],_,h,_=>by rcases h with h | h <;> cases h
 | (n,k)::r,x,h,hc=>by
  rw[K9] at h;dsimp only at h;by_cases hk:(k == NameKind.free&&env.scope.kind == .function&&env.kindOf n == some .cell)=true
  ·rw[if_pos hk] at h;simp only[A1s] at h;cases hx:x == n with
   | true=>
    have e:=eq_of_beq hx;subst e;have k':k=.free:=by
     rw[Z2,Z2] at hk
     simpa using hk.1.1
    subst k';exact E5
   | false=>simp only[hx] at h;exact E3 _ (A9v h λy hy=>hc y (E3 _ hy))
  ·rw[if_neg hk] at h;simp only[A1s] at h;cases hx:x == n with
   | true=>
    have e:=eq_of_beq hx;subst e;simp only[hx] at h;rcases h with h | h
    ·exact absurd (Option.some.inj h) (hc (x,k) E5)
    ·have:=Option.some.inj h;subst this;exact E5
   | false=>simp only[hx] at h;exact E3 _ (A9v h λy hy=>hc y (E3 _ hy))
theorem B16 {env:Env}:∀{names:!(Str×NameKind)}{x:Str},(names.map λ(n,k)=>if (k == NameKind.free&&env.scope.kind == .function&&env.kindOf n == some .cell) then (n,NameKind.cell) else (n,k)).lookup x=some .local->(x,NameKind.local)∈names
 | [],_,h=>by cases h
 | (n,k)::r,x,h=>by
  rw[K9] at h;dsimp only at h;by_cases hk:(k == NameKind.free&&env.scope.kind == .function&&env.kindOf n == some .cell)=true
  ·rw[if_pos hk] at h;simp only[A1s] at h;cases hx:x == n with
   | true=>simp only[hx] at h;cases h
   | false=>simp only[hx] at h;exact E3 _ (B16 h)
  ·rw[if_neg hk] at h;simp only[A1s] at h;cases hx:x == n with
   | true=>have e:=eq_of_beq hx;subst e;simp only[hx] at h;have:=Option.some.inj h;subst this;exact E5
   | false=>simp only[hx] at h;exact E3 _ (B16 h)
variable {X:Cx}{pins:!(Addr×Obj)}{H:Hp}{s:Shared}
section
variable {σ:St}
structure Own (X:Cx)(pins:!(Addr×Obj))(H:Hp)(C:Addr):Prop where
 no:H C=none
 ne:C≠X.env.locals
 ab:X.s₀.heap.objs.size<=C
 ce:∀x c,X.env.cells.lookup x=some c->c≠C
 pi:∀p∈X.pn++pins,p.1≠C
theorem Inv.own {C:Addr}{H':Hp}(I:Inv X pins σ H s)(h:s.heap.objs.size<=C)(hn:H' C=none):Own X pins H' C:=by
 refine⟨hn,A9i (U1 I.lt h),M0 I.sz h,λx c e z=>?_,λp hp z=>?_⟩
 ·let⟨v,q⟩:=I.cell x c e;exact absurd (U1 q.lt (by rw[z];exact h)) (A1p _)
 ·exact absurd (U1 (K3 (I.pin p hp).1) (by rw[z];exact h)) (A1p _)
theorem Inv.own_turn {C:Addr}{h':Heap}(I:Inv X pins σ H s)(o:Own X pins H C)(hs:Heap.SameBut C s.heap h'):Inv X pins σ H { s with heap:=h' }:=
 I.turned (t':=s.toks) (λb ob hb e=>(hs.2 b hb).trans e) o.no o.ne (.inr o.ab) o.ce o.pi
theorem Inv.track {D:Addr}{ys:!V}{its:!Value}{n:Nat}(I:Inv X pins σ H s)(o:Own X pins H D)(e:s.heap.get? D=some { cls:=.type "list",data:=.seq its.toArray n })(r:E1 ys its)(hz:ys.length<=sizeLine) :
  Inv X pins σ (upd H D (.lst ys)) s:=by
 have nD:∀b u,H b=some u->b≠D:=λb u q z=>by rw[z,o.no] at q;cases q
 have hok:HOk X.prog X.w (upd H D (.lst ys)) s.heap:=λb u q=>by
  by_cases hb:b=D
  ·subst hb;rw[B9] at q;cases q;exact⟨hz,its,n,r,e⟩
  ·rw[C4 hb] at q;exact (I.hok b u q).stay (λJ J J z=>z) (λc z=>by rw[C4 (nD c _ z)];exact z) λc xs z=>by rw[C4 (nD c _ z)];exact z
 have:=I.step (H':=upd H D (.lst ys)) (h':=s.heap) (g':=s.gens) (t':=s.toks) (d':=s.drawn) (ch:=[D]) (λb hb=>by
   have e':b=D:=by simpa using hb
   subst e';exact⟨.inr o.ab,o.ne,o.ce,o.pi⟩) (λb ob J J J q J=>q) (λb ob J J J q J=>⟨ob.slots,q⟩) (λb ob hc q z=>by rw[C4 (by simpa using hc)];exact z) (λb ob J q=>⟨ob,q⟩)
  (λb xs q=>by rw[C4 (nD b _ q)];exact q) (λb ob u q=>by rw[C4 (nD b _ q)];exact q) (λb ps q=>⟨#[],by rw[C4 (nD b _ q),q];simp⟩) (λm z=>z) hok I.bare
 exact this
end
variable {prog:Program}{A:Around}{R:Result->Shared->Prop}
section
variable {w:World}
theorem D0z {elt target iter:Expr}{ifs:!Expr}{scope:Scope}{pos:Pos}{it acc:Value}{env:Env}(I:Nat->Shared->Prop)
  (turn:∀n s,I n s->∀E:Value->Shared->Prop,wpAny (model prog w) A (pyNext it) (λr s₁=>match r with
   | none=>R (.ok .next) s₁
   | some v=>wpAny (model prog w) A (letOwnedTupleGo target it v) (λJ s₁'=>wpAny (model prog w) A (assign target env v) (λJ s₂=>
     wpAny (model prog w) A (forIn ifs true λc r=>if r=true then do let ok <-isTrue c env (eval c env);pure (ForInStep.yield ok) else pure (ForInStep.yield r)) (λok s₃=>
      if ok=true then wpAny (model prog w) A (eval elt env) (λx s₄=>
       wpAny (model prog w) A (call (.builtin "list.append") [acc,x]) (λJ s₅=>∃m,m<n/\I m s₅) E s₄) E s₃
      else ∃m,m<n/\I m s₃) E s₂) E s₁') E s₁) E s)
  (n:Nat) (h:I n s) :
  codeAny (model prog w) A (.compLoop (.ListComp elt [⟨target,iter,ifs,0⟩] scope pos) 0 it acc env) R s:=by
 refine codeAny_loop rfl I (λn s hI=>?_) n h;show wpAny _ A ((compTurn (.ListComp elt [⟨target,iter,ifs,0⟩] scope pos) 0 it acc env).onRaise (λx=>do noteFrame x env;theTreesLotGoes x)) _ _ s;refine wpAny_noted ?_;rw[compTurn_list];refine wpAny_bind (wpAny_standAt (wpAny_bind (wpAny_mono (turn n s hI _) (λr s₁ h₁=>?_) λJ J h'=>h')));cases r with
 | none=>exact wpAny_pure h₁
 | some v=>
  refine wpAny_bind (wpAny_mono h₁ (λJ s₁' h₁'=>?_) λJ J h'=>h');refine wpAny_bind (wpAny_mono h₁' (λJ s₂ h₂=>wpAny_bind (wpAny_mono h₂ (λok s₃ h₃=>?_) λJ J h'=>h')) λJ J h'=>h');cases ok with
  | false=>exact wpAny_pure ⟨rfl,h₃⟩
  | true=>exact wpAny_bind (wpAny_bind (wpAny_mono h₃ (λx s₄ h₄=>wpAny_bind (wpAny_mono h₄ (λJ s₅ h₅=>wpAny_pure (wpAny_pure ⟨rfl,h₅⟩)) λJ J h'=>h')) λJ J h'=>h'))
end
def PTs (X:Cx)(ifs:!Expr)(t:TT):Prop:=
 ∀(pins:!(Addr×Obj))(s:Shared)(σ:St)(H:Hp)(Q:Bool->Hp->Prop),Inv X pins σ H s->t σ H Q->
  wpAny (model X.prog X.w) X.A (forIn ifs true λc r=>if r=true then do let ok <-isTrue c X.env (eval c X.env);pure (ForInStep.yield ok) else pure (ForInStep.yield r)) (TP X pins σ Q) X.xe s
def A00:TT:=λJ H Q=>Q true H
theorem m9 {X:Cx}:PTs X [] A00:=λJ J J H J I h=>wpAny_tests_nil ⟨H,I,h⟩
theorem B5a {X:Cx}{c:Expr}{t:TT}(h:PT X c t):PTs X [c] t:=λpins s σ H Q I q=>wpAny_tests_one (h pins s σ H Q I q)
def A2s (σ:St)(n j:Nat)(tt:CA->TT)(te:CA->TE)(J:It)(H1:Hp)(Q:!V->Hp->Prop):Prop:=
 ∃W:Nat->Nat->!V->Hp->Prop,(∃m,W 0 m [] H1)/\∀i m ys H,W i m ys H->ys.length<=sizeLine/\
  ((J.stop i H/\Q ys H)\/(J.go i H/\∃N:!V->Hp->Prop,(∀ys' H',N ys' H'->∃m',m'<m/\W (i+1) m' ys' H')/\
   ∀x H',J.yld i H x H'->∀a:CA,tt a ((T7 n j σ).set j (some x)) H' λb H2=>if b=true then te a ((T7 n j σ).set j (some x)) H2 λy H3=>N (ys++[y]) H3 else N ys H2))
def A7v (wi:TI)(n j:Nat)(tt:CA->TT)(te:CA->TE):TE:=fun σ H Q=>wi σ H λJ H1=>A2s σ n j tt te J H1 λys H2=>∀p,H2 p=none->Q (.ref p) (upd H2 p (.lst ys))
section
variable {σ:St}
theorem C2h {elt iter:Expr}{x:Str}{px pos:Pos}{ifs:!Expr}{scope:Scope}{N':!Str}{j:Nat}{tt:CA->TT}{te:CA->TE}{it:Addr}{fp:!Addr}{tn:Nat->Heap->Prop}{J:It}{Q:!V->Hp->Prop}
  {RR:Value->Addr->Result->Shared->Prop} {E:Value->Shared->Prop}
  (S:N1 X.N N' X.env.scope scope j x) (hc:X.calm=true)
  (ht:∀a:CA,PTs (Z8 X scope N' a) ifs (tt a)) (he:∀a:CA,PE (Z8 X scope N' a) elt (te a))
  (I:Inv X pins σ H s) (T:A3q X.prog X.w X.K (.Name x px) J fp it tn) (st:tn 0 s.heap) (f2:∀b∈fp,Z5 X pins H b) (h:A2s σ N'.length j tt te J H Q)
  (hRR:∀(D C:Addr)(ys:!V)(H':Hp)(s':Shared)(m:Str->Option Value),s'.heap.Ns C m->Own X pins (upd H' D (.lst ys)) C->Inv X pins σ (upd H' D (.lst ys)) s'->H' D=none->Q ys H'->RR (.ref D) C (.ok .next) s') :
  wpAny (model X.prog X.w) X.A (newList []) (λacc s₃=>wpAny (model X.prog X.w) X.A (newFunctionEnv scope X.env.globals (f9 X.env.cells scope.names []) [] X.env.qual none .none (some X.env)) (λcenv s₄=>
   codeAny (model X.prog X.w) X.A (.compStart (.ListComp elt [⟨.Name x px,iter,ifs,0⟩] scope pos) 0 (.ref it) acc { cenv with scope:=relabel scope X.env }) (RR acc cenv.locals) s₄) E s₃) E s:=by
 refine wpAny_newObj_type (wpAny_newFunctionEnv S.cell (by intro y hy;simp at hy) (λh₁ hns₁ hsb₁=>?_) S.kind);dsimp only at hns₁ hsb₁ ⊢;generalize hH2:s.heap.push { cls:=.type "list",dict:=none,data:=.seq ([]:!Value).toArray }=H2 at hns₁ hsb₁ ⊢;have hC:H2.objs.size=s.heap.objs.size+1:=by rw[<-hH2,C0k]
 have hDC:s.heap.objs.size≠H2.objs.size:=by rw[hC];exact S5 (C0l _)
 have hCle:s.heap.objs.size<=H2.objs.size:=by rw[hC];exact A3j _
 have below:∀b,b<s.heap.objs.size->b≠H2.objs.size/\b≠s.heap.objs.size:=λb hb=>⟨by rw[hC];exact S5 (Nat.lt_succ_of_lt hb),S5 hb⟩;have old:∀b o,s.heap.get? b=some o->h₁.get? b=some o:=λb o e=>hsb₁.extBut b o (below b (K3 e)).1 (Q3 _ (hH2▸Q3 _ e));have hacc:h₁.get? s.heap.objs.size=some { cls:=.type "list",data:=.seq ([]:!Value).toArray }:=hsb₁.extBut _ _ hDC (Q3 _ (hH2▸U3 _ rfl));have fplt:∀b∈fp,b<s.heap.objs.size:=λb hb=>let ⟨_,e,_⟩:=T.obj 0 _ st b hb;K3 e;have hcells:∀y∈scope.names,y.2=.free->∃c,X.env.cells.lookup y.1=some c:=λy hy e=>I.ok.has y.1 (.inl (S.free y hy e));have sub:∀y c,(f9 X.env.cells scope.names []).lookup y=some c->X.env.cells.lookup y=some c:=C2d hcells (λy c e=>by cases e)
 let a:CA:=⟨s,H,H2.objs.size,fp⟩
 have ok:(Z8 X scope N' a).Ok:=by
  refine⟨I.ok.mod,S.kind,I.ok.glob,I.ok.blt,hCle,λy z c e1 e2=>I.ok.inj y z c (sub y c e1) (sub z c e2),λy hy=>?_,λy c z=>?_,I.ok.hd,I.ok.frames,.inl rfl,λb hb=>⟨(below b (fplt b hb)).1,λy c e=>(f2 b hb).2.2.2.2.1 y c (sub y c e)⟩,I.bs,
   M0 I.ok.bsz I.sz,λb o e hb=>?_,λb hb z=>?_,I.stack,I.stkFree⟩
  ·exact B49 (A9v hy S.cell)
  ·cases z
  ·rcases (f2 b hb).2.2.2.1 with z | z
   ·exact I.ok.noex b o e z
   ·exact absurd (U1 (K3 (I.ok.bs b o e).1) z) (A1p _)
  ·rcases K7.mp (I.stkSub b z) with e | e
   ·exact (f2 b hb).2.1 e
   ·exact (f2 b hb).2.2.1 e
 have look:∀(h':Heap)(m':Str->Option Value),(∀y c,X.env.cells.lookup y=some c->∀v,s.heap.IsCell c v->h'.IsCell c v)->∀(i:Nat)(y:Str)(v:V),N'[i]?=some y->(T7 N'.length j σ)[i]?=some (some v)->
   Vis (relabel scope X.env) y->∃u,F1 v u/\C02 (compEnvC scope (f9 X.env.cells scope.names []) H2.objs.size X.env) h' m' y u:=by
  intro h' m' kc i y v e1 e2 e3;let⟨ne,e4⟩:=C2g e2;have e5:=S.sub i y ne e1;have hy:(y,NameKind.free)∈scope.names:=by
   rcases e3 with e3 | e3 | e3
   ·rcases S.only _ (B16 e3) rfl with z | z
    ·exact absurd (B1n S.nd e1 (by rw[S.at_];exact congrArg some z.symm)) ne
    ·exact absurd (U4 e1) z
   ·exact A9v (.inl e3) S.cell
   ·exact A9v (.inr e3) S.cell
  have kcell:X.env.scope.names.lookup y=some .cell:=S.free _ hy rfl;let⟨m0,hn0,hl0⟩:=I.loc;let⟨u,r,l⟩:=hl0 i y v e5 e4 (.inr (.inl kcell));refine⟨u,r,.inr ⟨?_,?_⟩⟩
  ·rcases e3 with e3 | e3 | e3
   ·rcases S.only _ (B16 e3) rfl with z | z
    ·exact absurd (B1n S.nd e1 (by rw[S.at_];exact congrArg some z.symm)) ne
    ·exact absurd (U4 e1) z
   ·exact .inl e3
   ·exact .inr e3
  ·rcases l with ⟨k,_⟩ | ⟨k,c,e,z⟩
   ·have k':X.env.scope.names.lookup y=some .local:=k;rw[kcell] at k';cases k'
   ·let⟨c',e'⟩:=B49 (cells:=X.env.cells) (cs:=[]) hy;have e'':=sub y c' e';rw[e] at e'';cases e'';exact⟨c,e',kc y c e _ z⟩
 have cellOld:∀y c,X.env.cells.lookup y=some c->∀v,s.heap.IsCell c v->h₁.IsCell c v:=λy c Y v zz232=>el2 zz232 λo ho hd=>⟨o,old c o ho,hd⟩;have fr0:∀b,s.heap.objs.size<=b->H b=none:=λb hb=>I.hok.fresh hb;have noPn:∀p,p∉(Z8 X scope N' a).pn++([]:!(Addr×Obj)):=λp hp=>by simp at hp
 have I0:Inv (Z8 X scope N' a) [] (T7 N'.length j σ) H { s with heap:=h₁,toks:=s.toks+([]:!(Str×Value)).length }:=by
  refine⟨ok,rfl,I.bare,Un.kept old,⟨_,hns₁,look h₁ _ cellOld⟩,λy c e=>?_,fr0 _ hCle,λy c e=>I.freeC y c (sub y c e),λp hp=>absurd hp (noPn p),I.hok.kept old,D0y (by rw[I.len];exact S.len)⟩;let⟨v,z⟩:=I.cell y c (sub y c e);exact⟨v,cellOld y c (sub y c e) v z⟩
 let⟨W,⟨m0,w0⟩,turn⟩:=h;have loop:∀s₃:Shared,s₃={ s with heap:=h₁,toks:=s.toks+([]:!(Str×Value)).length }->
   codeAny (model X.prog X.w) X.A (.compLoop (.ListComp elt [⟨.Name x px,iter,ifs,0⟩] scope pos) 0 (.ref it) (.ref s.heap.objs.size) (compEnvC scope (f9 X.env.cells scope.names []) H2.objs.size X.env)) (RR (.ref s.heap.objs.size) H2.objs.size) s₃:=by
  rintro s₃ rfl;refine D0z (λk s'=>∃(i:Nat)(ys:!V)(its:!Value)(n:Nat)(H':Hp),Inv (Z8 X scope N' a) [] (T7 N'.length j σ) H' s'/\s'.heap.get? s.heap.objs.size=some { cls:=.type "list",data:=.seq its.toArray n }/\E1 ys its/\
   H' s.heap.objs.size=none/\tn i s'.heap/\(∀b∈fp,H' b=none)/\W i k ys H') ?_ m0
   ⟨0,[],[],0,H,I0,hacc,.nil,fr0 _ (G3 _),T.keep _ _ _ st λb hb o e=>old b o e,λb hb=>(f2 b hb).1,w0⟩
  rintro k s' ⟨i,ys,its,n,H',I',hD,rv,nD',st',fr',w'⟩ E';let⟨hz,hw⟩:=turn i k ys H' w';have ownD:Own (Z8 X scope N' a) [] H' s.heap.objs.size:=⟨nD',hDC,G3 _,λy c e z=>by
   let⟨v,q⟩:=I.cell y c (sub y c e);exact absurd q.lt (by rw[z];exact A1p _),λp hp=>absurd hp (noPn p)⟩
  have fpok:∀(pl:!(Addr×Obj))(H'':Hp),(∀b∈fp,H'' b=none)->(∀p∈pl,p.1∉fp)->∀b∈fp,Z5 (Z8 X scope N' a) pl H'' b:=λpl H'' hn hpl b hb=>
   ⟨hn b hb,(below b (fplt b hb)).1,λz=>by
    rcases K7.mp (I.stkSub b z) with e | e
    ·exact (f2 b hb).2.1 e
    ·exact (f2 b hb).2.2.1 e,.inl hb,λy c e=>(f2 b hb).2.2.2.2.1 y c (sub y c e),λp hp z=>by
    have hp':p∈pl:=by simpa using hp
    exact hpl p hp' (z▸hb)⟩
  have nDfp:s.heap.objs.size∉fp:=λz=>absurd (fplt _ z) (A1p _);have pinD:∀p∈([(s.heap.objs.size,{ cls:=.type "list",data:=.seq its.toArray n })]:!(Addr×Obj)),s'.heap.get? p.1=some p.2/\H' p.1=none/\p.1≠(Z8 X scope N' a).env.locals/\p.1∉(Z8 X scope N' a).fs/\∀v,p.2.data≠.cell v:=λp hp=>by
   have e:p=(s.heap.objs.size,{ cls:=.type "list",data:=.seq its.toArray n }):=by simpa using hp
   subst e;refine⟨hD,nD',hDC,λz=>?_,λv z=>by cases z⟩;rcases K7.mp (I.stkSub _ z) with e | e
   ·exact absurd I.lt (by rw[<-e];exact A1p _)
   ·exact I.nofs (G3 _) e
  have Ip:=I'.pins_of pinD;have hpl:∀p∈([(s.heap.objs.size,{ cls:=.type "list",data:=.seq its.toArray n })]:!(Addr×Obj)),p.1∉fp:=λp hp=>by
   have e:p=(s.heap.objs.size,{ cls:=.type "list",data:=.seq its.toArray n }):=by simpa using hp
   subst e;exact nDfp
  rcases hw with ⟨stop,q⟩ | ⟨go,N,hN,step⟩
  ·refine thn (T.done (Z8 X scope N' a) rfl rfl rfl hc i _ s' _ H' E' Ip (fpok _ H' fr' hpl) st' stop) λr s4 zz233=>zz233.elim λhr I4=>?_;subst hr;have hD4:=(I4.pin (s.heap.objs.size,{ cls:=.type "list",data:=.seq its.toArray n }) (by simp)).1;have J4:Inv X pins σ H' s4:=I.call' (ch:=fp) I4.os I4.base I4.hok I4.bare λb hb=>⟨(f2 b hb).2.2.2.1,(f2 b hb).2.1,(f2 b hb).2.2.2.2.1,(f2 b hb).2.2.2.2.2⟩;let⟨m4,hn4,_⟩:=I4.loc;have hC4:H' H2.objs.size=none:=I4.free;exact hRR _ _ ys H' s4 m4 hn4 (I.own hCle (by rw[C4 (Ne.symm hDC)];exact hC4)) (J4.track (I.own (G3 _) nD') hD4 rv hz) nD' q
  ·refine thn (T.item (Z8 X scope N' a) rfl rfl rfl hc i _ s' _ H' E' Ip (fpok _ H' fr' hpl) st' go) λr s5 zz234=>el2 zz234 λu hr h5=>?_;subst hr;refine thn h5 λY s6 zz235=>zz235.elim λxv zz236=>zz236.elim λH6 zz237=>zz237.elim λI6 zz238=>zz238.elim λr6 zz239=>zz239.elim λy6 zz240=>zz240.elim λst6 fr6=>?_;have I6':=I6.pinned (fpok _ H6 fr6 hpl) (T.obj _ _ st6);refine wpAny_assign_Name (B1o I6' S.nd S.at_ (.inl (lookup_relabel_local S.loc)) r6 (λs7 I7=>?_) (.inr (lookup_relabel_local S.loc)));have wk:∀(i:Nat) v,(T7 N'.length j σ)[i]?=some (some v)->((T7 N'.length j σ).set j (some xv))[i]?=some (some v):=λi v e=>by
    rw[A2e (Ne.symm (C2g e).1)];exact e
   refine wpAny_mono (ht a _ s7 _ H6 _ I7 (step xv H6 y6 a)) (λok s8 zz241=>el2 zz241 λH8 I8 q8=>?_) λY Y z=>z.elim;have tnk:∀{H9:Hp}{s9:Shared}{σ9:St},Inv (Z8 X scope N' a) ([(s.heap.objs.size,{ cls:=.type "list",data:=.seq its.toArray n })]++A9q fp s6.heap) σ9 H9 s9->tn (i+1) s9.heap/\(∀b∈fp,H9 b=none)/\s9.heap.get? s.heap.objs.size=some { cls:=.type "list",data:=.seq its.toArray n }/\H9 s.heap.objs.size=none:=λ{H9 s9 σ9} I9=>by
    refine⟨T.keep _ _ _ st6 λb hb o e=>(I9.pin (b,o) (A1d _ (A1d _ (B1u hb e)))).1,λb hb=>?_,?_⟩
    ·let⟨o,e,d⟩:=T.obj _ _ st6 b hb;exact (I9.pin (b,o) (A1d _ (A1d _ (B1u hb e)))).2.1
    ·have z:=I9.pin (s.heap.objs.size,{ cls:=.type "list",data:=.seq its.toArray n }) (A1d _ (C8e _ (by simp)));exact⟨z.1,z.2.1⟩
   cases ok with
   | false=>obtain⟨m',hm,w8⟩:∃m',m'<k/\W (i+1) m' ys H8:=hN _ _ (by simpa using q8);let⟨t1,t2,t3,t4⟩:=tnk I8;exact⟨m',hm,i+1,ys,its,n,H8,(I8.pins_of (pins':=[]) λp hp=>nomatch hp).weak (by rw[j8]) wk,t3,rv,t4,t1,t2,w8⟩
   | true=>have q8':=q8;simp only[if_true] at q8';refine wpAny_mono (he a _ s8 _ H8 _ I8 q8') (λu9 s9 zz242=>el5 zz242 λv9 H9 I9 r9 q9=>?_) λY Y z=>z.elim;let⟨m',hm,w9⟩:=hN _ _ q9;let⟨t1,t2,t3,t4⟩:=tnk I9;have hl:=rv.length;refine append_at (hsz:=by show its.toArray.size<=sizeLine;rw[R9,<-hl];exact hz) t3 λh' hs' hD'=>?_;have J9:=((I9.pins_of (pins':=[]) λp hp=>nomatch hp).weak (σ':=T7 N'.length j σ) (by rw[j8]) wk).own_turn (C:=s.heap.objs.size) ⟨t4,ownD.ne,ownD.ab,ownD.ce,ownD.pi⟩ hs';refine⟨m',hm,i+1,ys++[v9],its++[u9],n+1,H9,J9,?_,E1.append rv (.cons r9 .nil),t4,T.keep _ _ _ t1 λb hb o e=>(hs'.2 b λz=>nDfp (z▸hb)).trans e,t2,w9⟩;rw[List.push_toArray] at hD';exact hD'
 exact codeAny_compStart_list (loop _ rfl) (T.self _ 0 _ _ _ (T.keep _ _ _ st λb hb o e=>old b o e) (loop _ rfl))
theorem W9 {elt iter:Expr}{x:Str}{px pos:Pos}{ifs:!Expr}{scope:Scope}{N':!Str}{j:Nat}{wi:TI}{tt:CA->TT}{te:CA->TE}{osc:Scope}{N:!Str}
  (S:N1 N N' osc scope j x) (hc:X.calm=true) (hi:PI X (.Name x px) iter wi) (ht:∀a:CA,PTs (Z8 X scope N' a) ifs (tt a)) (he:∀a:CA,PE (Z8 X scope N' a) elt (te a))
  (ho:autoParam (X.env.scope=osc) RF._auto_1) (hN:autoParam (X.N=N) RF._auto_1) (hs:autoParam (∀x,foldedSetIterable iter X.env x=pure x) A2P._auto_1):PE X (.ListComp elt [⟨.Name x px,iter,ifs,0⟩] scope pos) (A7v wi N'.length j tt te):=by
 subst ho hN;intros Q I h;rw[eval_ListComp];have hcells:∀y∈scope.names,y.2=.free->∃c,X.env.cells.lookup y.1=some c:=λy hy e=>I.ok.has y.1 (.inl (S.free y hy e));refine wpAny_comprehension_free (use:=none) rfl hs (C2c hcells) S.kind S.names (wpAny_mono (hi pins s σ H _ I h) (λxv s₁ h₁=>wpAny_mono h₁ (λitv s₂ h₂=>?_) λY Y e=>e) λY Y e=>e);let⟨it,fp,tn,J,H2,rfl,I2,T,st2,f2,q2⟩:=h₂;refine C2h (RR:=λacc C=>compPost (model X.prog X.w) X.A X.xe none (EP X pins σ Q) acc C) S hc ht he I2 T st2 f2 q2 ?_;intro D C ys H' s' m hn own I' hD q;refine⟨m,hn,λh' hs'=>⟨.ref D,_,I'.own_turn own hs',rfl,q D hD⟩⟩
set_option tactic.hygienic true in
theorem A7w {elt iter:Expr}{x y:Str}{px pos py spos:Pos}{ifs:!Expr}{scope:Scope}{N':!Str}{j i:Nat}{wi:TI}{tt:CA->TT}{te:CA->TE}{osc:Scope}{N:!Str}
  (nd:X.N.Nodup) (hi':X.N[i]?=some y) (hy:Loc X.env.scope y)
  (S:N1 N N' osc scope j x) (hc:X.calm=true) (hi:PI X (.Name x px) iter wi) (ht:∀a:CA,PTs (Z8 X scope N' a) ifs (tt a)) (he:∀a:CA,PE (Z8 X scope N' a) elt (te a))
  (hsw:autoParam (swapsWith (.ListComp elt [⟨.Name x px,iter,ifs,0⟩] scope pos) (some (.Name y py)) spos.line X.env=pure true) RF._auto_1)
  (hf:autoParam (X.fn y=true\/X.env.scope.names.lookup y=some .local) A0P._auto_1)
  (ho:autoParam (X.env.scope=osc) RF._auto_1) (hN:autoParam (X.N=N) RF._auto_1) (hs:autoParam (∀x,foldedSetIterable iter X.env x=pure x) A2P._auto_1) :
  PS X (.Assign [.Name y py] (.ListComp elt [⟨.Name x px,iter,ifs,0⟩] scope pos) spos) (λD σ H=>A7v wi N'.length j tt te σ H λv H1=>D.nx (σ.set i (some v)) H1):=by
 subst ho hN;intros D I h;have hcells:∀y∈scope.names,y.2=.free->∃c,X.env.cells.lookup y.1=some c:=λy hy e=>I.ok.has y.1 (.inl (S.free y hy e));rw[exec_Assign_Name_used _ _ _ _ hsw];refine wpAny_bind (wpAny_standAt (wpAny_bind ?_));show wpAny _ X.A (do let _ <-comprehension (.ListComp elt [⟨.Name x px,iter,ifs,0⟩] scope pos) scope X.env _ (newList []) false (eval iter X.env) (some (assign (.Name y py) X.env))) _ _ s;refine wpAny_bind (wpAny_mono (wpAny_comprehension_free (use:=some (assign (.Name y py) X.env)) (Q:=λY s'=>SP X pins D .next s') rfl hs (C2c hcells) S.kind S.names
  (wpAny_mono (hi pins s σ H _ I h) (λxv s₁ h₁=>wpAny_mono h₁ (λitv s₂ h₂=>?_) λY Y e=>e) λY Y e=>e)) (λY s' hq=>wpAny_pure (wpAny_pure hq)) λY Y e=>e)
 let⟨it,fp,tn,J,H2,rfl,I2,T,st2,f2,q2⟩:=h₂;refine C2h (RR:=λacc C=>compPost (model X.prog X.w) X.A X.xe (some (assign (.Name y py) X.env)) (λY s'=>SP X pins D .next s') acc C) S hc ht he I2 T st2 f2 q2 ?_;intro Da C ys H' s' m hn own I' hD q;show wpAny _ X.A (assign (.Name y py) X.env (.ref Da)) _ _ _;refine wpAny_assign_Name (C03 (v:=V.ref Da) I' nd hi' hy rfl (λs2 I2' hsb=>?_) hf);let⟨b,hs2,hb⟩:=hsb;have hCb:C≠b:=by
  rcases hb with rfl | hb
  ·exact own.ne
  ·exact λz=>own.ce _ _ hb z.symm
 refine⟨m,hn.sameBut hs2 hCb,λh' hs'=>⟨_,_,I2'.own_turn own hs',q Da hD⟩⟩
end
theorem D00 {lo:Int}{n nn j:Nat}{σ:St}{tt:CA->TT}{te:CA->TE}{H1:Hp}{Q:!V->Hp->Prop}(Pv:Nat->!V->Hp->Prop)(hz:n<sizeLine)(h0:Pv 0 [] H1)(hl:∀i ys H,i<=n->Pv i ys H->ys.length<=i)
  (hs:∀i ys H,i<n->Pv i ys H->∀a:CA,tt a ((T7 nn j σ).set j (some (.int (lo+i)))) H λb H2=>if b=true then te a ((T7 nn j σ).set j (some (.int (lo+i)))) H2 λy H3=>Pv (i+1) (ys++[y]) H3 else Pv (i+1) ys H2)
  (hd:∀ys H,Pv n ys H->Q ys H):A2s σ nn j tt te (Itr lo n) H1 Q:=by
 refine⟨λi m ys H=>m=n-i/\i<=n/\Pv i ys H,⟨n,by simp,Q7 _,h0⟩,?_⟩;rintro i m ys H ⟨rfl,hi,p⟩;have hy:=hl i ys H hi p;refine⟨by omega,?_⟩;by_cases hlt:i<n
 ·refine .inr ⟨hlt,Pv (i+1),λys' H' p'=>⟨n-(i+1),by omega,rfl,hlt,p'⟩,λx H' y=>?_⟩;let⟨e,e2⟩:=y;subst e e2;exact hs i ys _ hlt p
 ·have e:i=n:=by omega
  subst e;exact .inl ⟨G3 _,hd ys H p⟩
theorem A7x {K:A8}{a0:Addr}{xs:!V}{nn j:Nat}{σ:St}{tt:CA->TT}{te:CA->TE}{H1:Hp}{Q:!V->Hp->Prop}(Pv:Nat->!V->Hp->Prop)(hz:xs.length<sizeLine)(h0:Pv 0 [] H1)
  (hl:∀i ys H,i<=xs.length->Pv i ys H->ys.length<=i/\SqL K H a0 xs)
  (hs:∀i x ys H,xs[i]?=some x->Pv i ys H->∀a:CA,tt a ((T7 nn j σ).set j (some x)) H λb H2=>if b=true then te a ((T7 nn j σ).set j (some x)) H2 λy H3=>Pv (i+1) (ys++[y]) H3 else Pv (i+1) ys H2)
  (hd:∀ys H,Pv xs.length ys H->Q ys H):A2s σ nn j tt te (Itl K a0) H1 Q:=by
 refine⟨λi m ys H=>m=xs.length-i/\i<=xs.length/\Pv i ys H,⟨xs.length,by simp,Q7 _,h0⟩,?_⟩;rintro i m ys H ⟨rfl,hi,p⟩;let⟨hy,q⟩:=hl i ys H hi p;refine⟨by omega,?_⟩;by_cases hlt:i<xs.length
 ·refine .inr ⟨⟨xs,xs[i],q,by simp [hlt]⟩,Pv (i+1),λys' H' p'=>⟨xs.length-(i+1),by omega,rfl,hlt,p'⟩,λx H' y=>?_⟩;let⟨e,y⟩:=y;subst e;exact hs i x ys _ (y xs q) p
 ·have e:i=xs.length:=by omega
  subst e;exact .inl ⟨⟨xs,q,G3 _⟩,hd ys H p⟩
def B5b (_ j:Int):Prop:=0<j/\j<100000000000000000000000000000000000000000000000000000000000000
theorem B5c:OpR X (binaryOp .FloorDiv) (rI B5b λi j=>.int (i/j)):=opI λi j J J J J J hc q=>by
 have h1:(0:Int)<j:=hc.1;have h2:j<2^250:=Int.lt_trans hc.2 (DD);refine floordiv_int (by omega) (by rw[Int.fdiv_eq_ediv_of_nonneg i (by omega)];exact q) (.inl (PyProof.noPylong_of_log2 ?_));have h3:j.natAbs<2^250:=by
  have:((j.natAbs:Nat):Int)<((2^250:Nat):Int):=by
   rw[Int.natAbs_of_nonneg (Int.le_of_lt h1)];exact h2
  exact Int.ofNat_lt.mp this
 have h4:j.natAbs≠0:=by omega
 exact Nat.lt_trans ((Nat.log2_lt h4).mpr h3) (DD)
theorem C2i:∀{bs:!Bool}{us:!Value},E1 (bs.map V.bl) us->LSm.BoolsAre us bs
 | [],_,.nil=>.nil
 | b::bs,_,.cons r t=>by
  cases (show _=Value.bool b from r);exact .cons b (C2i t)
theorem B5d (hc:X.calm=true):X7 X (.builtin "all") (λxs H Q=>∃(p:Addr)(bs:!Bool),xs=[.ref p]/\SqL X.K H p (bs.map V.bl)/\Q (.bl (bs.all id)) H):=by
 intros xs us Q I r h;let⟨p,bs,rfl,hq,q⟩:=h;let⟨u,rfl,rx⟩:=X9 r;cases rx;let⟨its,rv,pl,hz⟩:=I.list hq;have hb:=C2i rv;have hl:=pl.isList;have hlt:p<s.heap.objs.size:=by let⟨_,e,_⟩:=hl;exact K3 e
 refine call_all_walk (wpAny_pyIter_list hl ?_);refine⟨s.heap.objs.size,[s.heap.objs.size,p],[s.heap.objs.size],its.toArray.size,_,_,λi=>(bs[i]?).getD true,rfl,Walks.list (A:=X.A.in1) (I.ok.hd hc) _ p (S5 hlt) its.toArray,
  ⟨⟨_,U3 _ rfl,rfl,rfl⟩,hl.push _⟩,λi v s' Q' E' hP hQ=>?_,λh' tk hk=>?_⟩
 ·let⟨b,e,rfl⟩:=hb.get i v (by simpa using hP);simp only[e,Option.getD_some] at hQ;exact wpAny_truthy_bool hQ
 ·have e:((U2 its.toArray.size).all λi=>(bs[i]?).getD true)=bs.all id:=by
   rw[R9,hb.length];exact LSm.range_all bs
  rw[e];exact⟨.bl _,H,I.kept (t':=tk) (LSm.kept_iter hk),rfl,q⟩
theorem C2j:X7 X (.builtin "isinstance") (λxs H Q=>∃x cv c t b,xs=[x,cv]/\F1 cv c/\v8 X.K H x t/\A0t X.K t c=some b/\Q (.bl b) H):=by
 intros xs us Q I r h;let⟨x,cv,c,t,b,rfl,rc,ty,k,q⟩:=h;let⟨u,w',rfl,r1,r2⟩:=B1y r;have e:w'=c:=by
  cases cv with
  | non=>exact r2.trans rc.symm
  | bl y=>exact r2.trans rc.symm
  | ref y=>exact r2.trans rc.symm
  | ty y=>exact r2.trans rc.symm
  | int y=>let⟨t1,rfl⟩:=rc;exfalso;unfold A0t A7k at k;cases ty <;> simp at k
  | str y=>let⟨t1,rfl⟩:=rc;exfalso;unfold A0t A7k at k;cases ty <;> simp at k
  | byt y=>let⟨t1,rfl⟩:=rc;exfalso;unfold A0t A7k at k;cases ty <;> simp at k
  | flt y=>let⟨t1,rfl⟩:=rc;exfalso;unfold A0t A7k at k;cases ty <;> simp at k
 subst e;exact C1r I r1 ty k λtk=>⟨.bl b,H,I.tok tk,rfl,q⟩
mutual
inductive A0i (K:A8)(H:Hp):V->PyData->Prop
 | non:A0i K H .non .none
 | bl (b):A0i K H (.bl b) (.bool b)
 | int (i):A0i K H (.int i) (.int i)
 | str (x):A0i K H (.str x) (.str x)
 | lst {a xs ds}:SqL K H a xs->A01 K H xs ds->A0i K H (.ref a) (.list ds)
 | tup {a xs ds}:SqT K H a xs->A01 K H xs ds->A0i K H (.ref a) (.tuple ds)
inductive A01 (K:A8)(H:Hp):!V->!PyData->Prop
 | nil:A01 K H [] []
 | cons {x xs d ds}:A0i K H x d->A01 K H xs ds->A01 K H (x::xs) (d::ds)
end
section
variable {σ:St}
theorem dv_ind {K:_}{H:Hp}{m1:V->PyData->Prop}{m2:!V->!PyData->Prop}(c1:m1 .non .none)(c2:∀b,m1 (.bl b) (.bool b))(c3:∀i,m1 (.int i) (.int i))(c4:∀x,m1 (.str x) (.str x))(c5:∀{a xs ds},SqL K H a xs->A01 K H xs ds->m2 xs ds->m1 (.ref a) (.list ds))(c6:∀{a xs ds},SqT K H a xs->A01 K H xs ds->m2 xs ds->m1 (.ref a) (.tuple ds))(c8:m2 [] [])(c9:∀{x xs d ds},A0i K H x d->A01 K H xs ds->m1 x d->m2 xs ds->m2 (x::xs) (d::ds)):(∀{v d},A0i K H v d->m1 v d)/\∀{vs ds},A01 K H vs ds->m2 vs ds:=
 ⟨λt=>A0i.rec (motive_1:=λv d J=>m1 v d) (motive_2:=λv d J=>m2 v d) c1 c2 c3 c4 c5 c6 c8 c9 t,λt=>A01.rec (motive_1:=λv d J=>m1 v d) (motive_2:=λv d J=>m2 v d) c1 c2 c3 c4 c5 c6 c8 c9 t⟩
theorem dv_reads (I:Inv X pins σ H s):(∀{x d},A0i X.K H x d->∀u,F1 x u->∃as,Reads s.heap u d as)/\∀{xs ds},A01 X.K H xs ds->∀us,E1 xs us->∃as,ReadsAll s.heap us ds as:=dv_ind (m1:=λx d=>∀u,F1 x u->∃as,Reads s.heap u d as) (m2:=λxs ds=>∀us,E1 xs us->∃as,ReadsAll s.heap us ds as) (λJ r=>by cases r;exact⟨_,.none⟩) (λb J r=>by cases r;exact⟨_,.bool b⟩) (λi J r=>by let⟨t,rfl⟩:=r;exact⟨_,.int i t⟩) (λx J r=>by let⟨t,rfl⟩:=r;exact⟨_,.str x t⟩) (λhq J hs J r=>by cases r;let⟨its,rv,pl,hz⟩:=I.list hq;let⟨as,ra⟩:=hs _ rv;let⟨o,e,c,n,d⟩:=pl.isList;exact⟨_,.list e c d (by simpa using ra)⟩) (λhq J hs J r=>by cases r;let⟨its,rv,pl,hz⟩:=I.tuple hq;let⟨as,ra⟩:=hs _ rv;let⟨o,e,c,n,d⟩:=pl;exact⟨_,.tuple e c d (by simpa using ra)⟩) (λJ r=>by cases r;exact⟨_,.nil⟩) λJ J h t J r=>by
 cases r with
 | cons r rs=>let⟨as,ra⟩:=h _ r;let⟨bs,rb⟩:=t _ rs;exact⟨_,.cons ra rb⟩
theorem A0i.reads (I:Inv X pins σ H s){x:V}{d:PyData}{u:Value}(t:A0i X.K H x d)(r:F1 x u):∃as,Reads s.heap u d as:=(dv_reads I).1 t u r
theorem A01.reads (I:Inv X pins σ H s){xs:!V}{ds:!PyData}{us:!Value}(t:A01 X.K H xs ds)(r:E1 xs us):∃as,ReadsAll s.heap us ds as:=(dv_reads I).2 t us r
end
def B5e (K:A8)(neg:Bool):R2:=λx y H Q=>∃da db,A0i K H x da/\A0i K H y db/\da.canLay0=true/\db.canLay0=true/\min da.depth db.depth<=64/\Q (.bl (if neg then not (PyData.eqv da db) else PyData.eqv da db)) H
theorem A9w (hu:X.A.units+64<cLine):OpR X (compareOp .Eq) (B5e X.K false):=by
 intros x y v u Q I rx ry h;let⟨da,db,d1,d2,c1,c2,hd,q⟩:=h;let⟨as,ra⟩:=d1.reads I rx;let⟨bs,rb⟩:=d2.reads I ry;exact SeqAt.compareEq_reads ra rb c1 c2 (by omega) ⟨.bl _,H,I,rfl,q⟩
theorem A9x (hu:X.A.units+64<cLine):OpR X (compareOp .NotEq) (B5e X.K true):=by
 intros x y v u Q I rx ry h;let⟨da,db,d1,d2,c1,c2,hd,q⟩:=h;let⟨as,ra⟩:=d1.reads I rx;let⟨bs,rb⟩:=d2.reads I ry;exact SeqAt.compareNe_reads ra rb c1 c2 (by omega) ⟨.bl _,H,I,rfl,q⟩
theorem C2k:C1a X (λo i H Q=>∃p xs j v,o=.ref p/\i=.int j/\0<=j/\SqL X.K H p xs/\atI xs j=some v/\Q v H):=by
 intros o i ov iv Q I r1 r2 h;let⟨p,xs,j,v,rfl,rfl,h0,hq,he,q⟩:=h;cases r1;let⟨t,rfl⟩:=r2;let⟨its,r,pl,hz⟩:=I.list hq;let⟨k,h1,h2,h3,h4,h5⟩:=B13 he;let⟨w,ew,rw'⟩:=r.get h2;have hl:=r.length;have hn:=A5d;have hj:j.toNat=k:=by
  rw[seqIndex_of h0 h5] at h1;exact Option.some.inj h1
 exact wpAny_getItem_list pl.isList h0 (by omega) (by rw[hj];simpa using ew) ⟨v,H,I,rw',q⟩
theorem N9 {st:Stmt}{t:TS}(h:PS X st t):PS X st (λD σ H=>∃M:St->Hp->Prop,t { D with nx:=M } σ H/\∀σ' H',M σ' H'->D.nx σ' H'):=by
 intros D I q;let⟨M,q1,q2⟩:=q;refine thn (h pins s σ H _ I q1) λf s' z=>?_;cases f with
 | next=>let⟨σ',H',I',m⟩:=z;exact⟨σ',H',I',q2 _ _ m⟩
 | brk=>exact z
 | cont=>exact z
 | ret v=>exact z
theorem A1h:bootBuiltins "list" = some (.type "list"):=by decide +kernel
theorem C2l:bootBuiltins "abs" = some (.builtin "abs"):=by decide +kernel
theorem A5l:bootBuiltins "min" = some (.builtin "min"):=by decide +kernel
theorem A7y:bootBuiltins "max" = some (.builtin "max"):=by decide +kernel
theorem A7z:bootBuiltins "isinstance" = some (.builtin "isinstance"):=by decide +kernel
theorem A9y:bootBuiltins "int" = some (.type "int"):=by decide +kernel
theorem D01:bootBuiltins "bool" = some (.type "bool"):=by decide +kernel
theorem B5f:bootBuiltins "all" = some (.builtin "all"):=by decide +kernel
theorem D02:bootBuiltins "tuple" = some (.type "tuple"):=by decide +kernel
theorem C2m:bootBuiltins "sorted" = some (.builtin "sorted"):=by decide +kernel
theorem D03:bootBuiltins "range" = some (.type "range"):=by decide +kernel
theorem T9:bootBuiltins "len" = some (.builtin "len"):=by decide +kernel
theorem U0:bootBuiltins "str" = some (.type "str"):=by decide +kernel
theorem D04:bootBuiltins "zip" = some (.type "zip"):=by decide +kernel
theorem D05:bootBuiltins "enumerate" = some (.type "enumerate"):=by decide +kernel
section
variable {es:!Expr}{env:Env}
theorem F2 {c j p}:starEach (.Constant c j p::es) env=(false,eval (.Constant c j p) env)::starEach es env:=by rfl
theorem A0 {c p}:starEach (.Name c p::es) env=(false,eval (.Name c p) env)::starEach es env:=by rfl
theorem G6 {a o b p}:starEach (.BinOp a o b p::es) env=(false,eval (.BinOp a o b p) env)::starEach es env:=by rfl
theorem C2n {o b p}:starEach (.UnaryOp o b p::es) env=(false,eval (.UnaryOp o b p) env)::starEach es env:=by rfl
theorem B17 {a o b p}:starEach (.Compare a o b p::es) env=(false,eval (.Compare a o b p) env)::starEach es env:=by rfl
theorem C6 {a o b p}:starEach (.Call a o b p::es) env=(false,eval (.Call a o b p) env)::starEach es env:=by rfl
theorem B0 {a o p}:starEach (.Subscript a o p::es) env=(false,eval (.Subscript a o p) env)::starEach es env:=by rfl
theorem P2 {a o p}:starEach (.Attribute a o p::es) env=(false,eval (.Attribute a o p) env)::starEach es env:=by rfl
theorem B5g {a p}:starEach (.List a p::es) env=(false,eval (.List a p) env)::starEach es env:=by rfl
theorem g4 {a k p}:starEach (.Tuple a k p::es) env=(false,eval (.Tuple a k p) env)::starEach es env:=by rfl
theorem A0j {a b c p}:starEach (.ListComp a b c p::es) env=(false,eval (.ListComp a b c p) env)::starEach es env:=by rfl
theorem A5 {pos:Pos}:(backTo pos (starEach [] env)).any (·.1)=false:=by rfl
theorem A9 {pos:Pos}{e:Expr}(hs:starEach (e::es) env=(false,eval e env)::starEach es env)(h:(backTo pos (starEach es env)).any (·.1)=false):(backTo pos (starEach (e::es) env)).any (·.1)=false:=by
 rw[hs];exact h
end
section
variable {pos:Pos}
theorem D06:X7 X (.type "range") (λxs H Q=>∃j:Int,xs=[.int j]/\∀p,H p=none->Q (.ref p) (upd H p (.rng 0 j))):=by
 intros xs us Q I r h;let⟨j,rfl,q⟩:=h;let⟨u,rfl,t,rfl⟩:=X9 r;exact call_range_1 ⟨.ref _,_,I.laid (t':=s.toks+1+1) (λb o e=>Q3 _ e) (G3 _) (show N3 X.prog X.w _ _ _ (.rng 0 j) from ⟨_,_,_,U3 _ rfl⟩),rfl,q _ (I.hok.fresh (G3 _))⟩
def A3w (n:Nat):!V:=(U2 n).map λi=>V.int ((i:Nat):Int)
theorem D07 {n:Nat}{acc:Array Value}(h:ItemsOf (λi v=>∃t,v=Value.int (0+i*1) t) acc n):E1 (A3w n) acc.toList:=by
 have key:∀(us:!Value)(k:Nat),(∀(j:Nat) v,us[j]?=some v->∃t,v=Value.int (((k+j:Nat):Int)) t)->E1 ((List.range' k us.length).map λi=>V.int ((i:Nat):Int)) us:=by
  intro us
  induction us with
  | nil=>intro k _;exact .nil
  | cons u r ih=>
   intro k hk;rw[J6,List.range'_succ,K9];refine .cons ?_ (ih (k+1) λj v e=>?_)
   ·let⟨t,e⟩:=hk 0 u rfl;exact⟨t,e⟩
   ·let⟨t,e⟩:=hk (j+1) v (by simpa using e);exact⟨t,by rw[e];congr 1;omega⟩
 have e:A3w n=(List.range' 0 acc.toList.length).map λi=>V.int ((i:Nat):Int):=by
  unfold A3w;rw[List.range_eq_range',A7e,h.1]
 rw[e];refine key acc.toList 0 λj v hj=>?_;let⟨t,e⟩:=h.2 j v (by rw[<-B08];exact hj);exact⟨t,by rw[e];congr 1;omega⟩
theorem D08 (hc:X.calm=true):X7 X (.type "list") (λxs H Q=>∃(p:Addr)(hi:Int),xs=[.ref p]/\H p=some (.rng 0 hi)/\0<=hi/\hi<=100000/\∀l,H l=none->Q (.ref l) (upd H l (.lst (A3w hi.toNat)))):=by
 intros xs us Q I r h;let⟨p,hi,rfl,hp,h0,h1,q⟩:=h;let⟨u,rfl,rx⟩:=X9 r;cases rx;let⟨t,u,v,e⟩:=(show N3 X.prog X.w H s.heap p (.rng 0 hi) from I.hok p _ hp);have hn:Builtin.Range.rangeSize 0 hi 1=((hi.toNat:Nat):Int):=by
  unfold Builtin.Range.rangeSize;rw[if_pos (DD)];split
  ·rw[Int.ediv_one];omega
  ·omega
 refine call_list_range (I.ok.hd hc) (show IsRange s.heap p 0 hi 1 t u v from e) (small_one DD DD (by omega) (by omega)) hn (by omega) λh' tk acc' c' hk hS hacc=>?_;have hv:=D07 hacc;refine⟨.ref s.heap.objs.size,_,I.laid (t':=tk) hk (G3 _) (show N3 X.prog X.w _ h' _ (.lst (A3w hi.toNat)) from ⟨?_,acc'.toList,c',hv,?_⟩),rfl,q _ (I.hok.fresh (G3 _))⟩
 ·unfold A3w;rw[B7,m5,sizeLine_eq];omega
 ·simpa using hS
end
section
variable {σ:St}{h':Heap}
theorem Inv.turned2 {t':Nat}{e it:Addr}(I:Inv X pins σ H s)(k:∀b o,b≠e->b≠it->s.heap.get? b=some o->h'.get? b=some o)(fe:Z5 X pins H e)(fi:Z5 X pins H it):Inv X pins σ H { s with heap:=h',toks:=t' }:=by
 let⟨e0,e1,e2,e3,e4,e5⟩:=fe;let⟨f0,f1,f2,f3,f4,f5⟩:=fi;have nit:∀b u,H b=some u->b≠it:=λb u e z=>by rw[z,f0] at e;cases e
 have nie:∀b u,H b=some u->b≠e:=λb u q z=>by rw[z,e0] at q;cases q
 have kc:∀b o,b∉[e,it]->s.heap.get? b=some o->h'.get? b=some o:=λb o hc q=>k b o (λz=>hc (by simp [z])) (λz=>hc (by simp [z])) q;refine I.step (g':=s.gens) (d':=s.drawn) (ch:=[e,it]) (λb hb=>?_) (λb o J J hc e J=>kc b o hc e) (λb o J J hc e J=>⟨o.slots,kc b o hc e⟩) (λJ J J J n=>n)
  (λb o hc e=>⟨o,kc b o hc e⟩) (λJ J e=>e) (λJ J J e=>e) (λb ps e=>⟨#[],by rw[e];simp⟩) (λm hm=>?_) (λb u q=>?_) I.bare
 ·rcases K7.mp hb with z | z
  ·subst z;exact⟨e3,e1,e4,e5⟩
  ·have z':b=it:=by simpa using z
   subst z';exact⟨f3,f1,f4,f5⟩
 ·let⟨o,es,ep,ho,r⟩:=hm;exact⟨o,es,ep,k _ o (Ne.symm e1) (Ne.symm f1) ho,r⟩
 ·refine (I.hok b u q).stay (λc v hc z=>k c v ?_ ?_ z) (λJ z=>z) λJ J z=>z
  ·rcases hc with z | z
   ·rw[z];exact nie b u q
   ·exact nie c _ z
  ·rcases hc with z | z
   ·rw[z];exact nit b u q
   ·exact nit c _ z
end
def Ite (K:A8)(a:Addr):It:=
 ⟨λi H=>∃xs x,SqL K H a xs/\xs[i]?=some x,λi H x H'=>∃p v,x=.ref p/\H p=none/\H'=upd H p (.tup [.int ((i:Nat):Int),v])/\∀xs,SqL K H a xs->xs[i]?=some v,λi H=>∃xs,SqL K H a xs/\xs.length<=i⟩
theorem D09 {P:Program}{w:World}{K:A8}{elts:!Expr} {x1} {tpos:Pos} (a e it:Addr) (hne:e≠it):A3q P w K (.Tuple elts x1 tpos) (Ite K a) [e,it] e (λi h=>(∃old,IsEnum h e it ((i:Nat):Int) old)/\h.IsListIter it a i) where
 mem:=by simp
 obj:=λi h st b hb=>by
  let⟨⟨old,h1⟩,h2⟩:=st;rcases K7.mp hb with z | z
  ·subst z;exact⟨_,h1,λv z=>by
    have z':Data.fields _=Data.cell v:=z;cases z'⟩
  ·have z':b=it:=by simpa using z
   subst z';let⟨o,e,c,d⟩:=h2;exact⟨o,e,λv z=>by rw[d] at z;cases z⟩
 keep:=λi h h' st k=>by
  let⟨⟨old,h1⟩,h2⟩:=st;exact⟨⟨old,k e (by simp) _ h1⟩,h2.at λo q=>k it (by simp) o q⟩
 item:=by
  intro X hP hw hK hc i pins s σ H E I hf st hg;subst hP hw hK;let⟨⟨old,st1⟩,st2⟩:=st;let⟨xs,x,hq,hx⟩:=hg;let⟨its,rv,p,hz⟩:=I.list hq;let⟨u,hu,ru⟩:=rv.get hx;have fe:=hf e (by simp);have fi:=hf it (by simp);have le:e<s.heap.objs.size:=K3 st1;have li:it<s.heap.objs.size:=by let⟨_,q,_⟩:=id st2;exact K3 q
  refine wpAny_pyNext_enum_item st1 st2 p.isList (x:=u) (by simpa using hu) hne λh' ho hit' hT hsz hk=>?_;refine⟨_,rfl,wpAny_letOwnedTupleGo_enum ho λh2 he2 hs2=>?_⟩;replace hs2:Heap.SameBut e h' h2:=hs2;have hn:H s.heap.objs.size=none:=I.hok.fresh (G3 _);have I1:Inv X pins σ (upd H s.heap.objs.size (.tup [.int ((i:Nat):Int),x])) { s with heap:=s.heap.push { cls:=.type "tuple",data:=.seq #[.int i s.toks,u] },toks:=s.toks }:=
   I.laid (λb o q=>Q3 _ q) (G3 _) ⟨SZ (n:=2),[.int i s.toks,u],.cons ⟨_,rfl⟩ (.cons ru .nil),⟨_,U3 _ rfl,rfl,_,rfl⟩⟩
  have ge:∀b,b<s.heap.objs.size->Z5 X pins H b->Z5 X pins (upd H s.heap.objs.size (.tup [.int ((i:Nat):Int),x])) b:=λb hb f=>⟨by rw[C4 (S5 hb)];exact f.1,f.2⟩;have I2:=I1.turned2 (h':=h2) (t':=s.toks+1) (e:=e) (it:=it) (λb o n1 n2 q=>by
   rw[hs2.2 b n1];rcases Heap.get?_push_cases q with ⟨z,z2⟩ | q
   ·subst z z2;exact hT
   ·exact hk b o n1 n2 q) (ge e le fe) (ge it li fi)
  refine⟨.ref s.heap.objs.size,_,I2,rfl,⟨_,x,rfl,hn,rfl,λys hy=>by rw[I.list_inj hy hq];exact hx⟩,⟨⟨u,he2⟩,hit'.at λo q=>(hs2.2 it hne.symm).trans q⟩,λb hb=>?_⟩;rcases K7.mp hb with z | z
  ·subst z;exact (ge b le fe).1
  ·have z':b=it:=by simpa using z
   subst z';exact (ge b li fi).1
 done:=by
  intro X hP hw hK hc i pins s σ H E I hf st hg;subst hP hw hK;let⟨⟨old,st1⟩,st2⟩:=st;let⟨xs,hq,hx⟩:=hg;let⟨its,rv,p,hz⟩:=I.list hq;have hl:=rv.length;exact wpAny_pyNext_enum_end (I.ok.hd hc) st1 st2 p.isList (by simp;omega) λh' eb=>⟨rfl,I.turned2 (t':=s.toks) (λb o n1 n2 q=>eb b o n2 q) (hf e (by simp)) (hf it (by simp))⟩
 self:=λJ J J J J st h=>by
  let⟨⟨old,st1⟩,_⟩:=st;exact wpAny_pyIter_enum st1 h
def C2o (K:A8)(ta:TA):TI:=fun σ H R=>ta σ H λvs H1=>∃a,vs=[.ref a]/\(∃xs,SqL K H1 a xs)/\R (Ite K a) H1
theorem C2p {elts:!Expr} {x1} {tpos:Pos} {a:Expr} {ta:TA} {p pos:Pos} (hg:Gl X "enumerate") (hm:X.mg "enumerate" = none) (ha:PA X [a] ta) (hs:autoParam (starEach [a] X.env=[(false,eval a X.env)]) RF._auto_1):PI X (.Tuple elts x1 tpos) (.Call (.Name "enumerate" p) [a] [] pos) (C2o X.K ta):=by
 intros R I h;refine Call_ (A1y I hg hm D05 (PyProof.Rows.callWith_type1 (thn (ha pos pins s σ H _ I h) λus s1 zz244=>el5 zz244 λvs H1 I1 r1 q1=>?_) hs rfl));let⟨a',e,⟨xs,hq⟩,q⟩:=q1;subst e;let⟨u,rfl,rx⟩:=X9 r1;cases rx;let⟨its,rv,pl,hz⟩:=I1.list hq;refine call_enumerate_list pl.isList λh' he hit hsz hk=>?_;refine wpAny_pyIter_enum (s:={ s1 with heap:=h' }) he ?_;have I2:Inv X pins σ H1 { s1 with heap:=h' }:=I1.kept (t':=s1.toks) hk;refine⟨_,[s1.heap.objs.size+1,s1.heap.objs.size],_,_,H1,rfl,I2,D09 a' _ _ (A9i (C0l _)),⟨⟨.none,he⟩,hit⟩,λb hb=>?_,q⟩;rcases K7.mp hb with z | z
 ·subst z;exact I1.fpOk (A3j _) (I1.hok.fresh (A3j _))
 ·have z':b=s1.heap.objs.size:=by simpa using z
  subst z';exact I1.fpOk (G3 _) (I1.hok.fresh (G3 _))
theorem Y5 {st:Stmt}:PS X st (λJ J J=>False):=λJ J J J J J h=>h.elim
section
variable {σ:St}
end
def C2q (K:A8):V->!V->Hp->VK->Prop:=λx vs H Q=>∃(l:Addr)(ns:!Int)(k:Int),x=.ref l/\vs=[.int k]/\SqL K H l (ns.map V.int)/\k∈ns/\ns.length<=100000/\Q (.int (ns.idxOf k:Nat)) H
theorem C2r:MtM X "list.index" (C2q X.K):=by
 intros x vs v us Q I rx rv h;let⟨l,ns,k,rfl,rfl,hq,hk,hn,q⟩:=h;cases rx;let⟨u,rfl,t,rfl⟩:=X9 rv;let⟨its,r,pl,hz⟩:=I.list hq;have hi:=C11 r;let⟨⟨cls,dd,data,sl⟩,ho,hc,n,hd⟩:=pl.isList;simp only at hc hd;subst hc hd;have hlen:=hi.length;have hj:ns.idxOf k<ns.length:=B4i.mpr hk;refine call_meets C8h ⟨_,ho,rfl⟩ PySem.F.entry_list_index (PySem.F.args_list_index_2 _ _)
  (SeqAt.list_indexAt l its.toArray n dd sl (.int k t) (isInt k) (ns.idxOf k) (by simpa [hlen] using hj) (by omega) ?_ ?_) ⟨ho,λy hy=>(eq_isInt k t hi y (by simpa using hy)).at _ _,⟨.int _,H,I.tok _,⟨_,rfl⟩,q⟩⟩
 ·show isInt k its[ns.idxOf k]=true;rw[isInt_at k hi _ (by omega) hj]
  simpa using C8i hj
 ·intro j hjs hlt;show isInt k its[j]=false;rw[isInt_at k hi j (by simpa using hjs) (by omega)];exact ne_of_lt_idxOf hlt _
inductive A9z (K:A8)(H:Hp):V->Value->Prop where
 | o {x:V} {t:Value}:v8 K H x t->A9z K H x t
 | f {a:Addr} {o:Obj} {kvs:!(!Key×V)}:H a=some (.frz o (.dT kvs))->A9z K H (.ref a) (.type "dict")
theorem B18:X7 X (.builtin "isinstance") (λxs H Q=>∃x cv c t b,xs=[x,cv]/\F1 cv c/\A9z X.K H x t/\A0t X.K t c=some b/\Q (.bl b) H):=by
 intros xs us Q I r h;let⟨x,cv,c,t,b,rfl,rc,ty,k,q⟩:=h;let⟨u,w',rfl,r1,r2⟩:=B1y r;have e:w'=c:=by
  cases cv with
  | non=>exact r2.trans rc.symm
  | bl y=>exact r2.trans rc.symm
  | ref y=>exact r2.trans rc.symm
  | ty y=>exact r2.trans rc.symm
  | int y=>
   let⟨t1,rfl⟩:=rc;exfalso;unfold A0t A7k at k;cases ty with
   | o ty=>cases ty <;> simp at k
   | f e=>simp at k
  | str y=>
   let⟨t1,rfl⟩:=rc;exfalso;unfold A0t A7k at k;cases ty with
   | o ty=>cases ty <;> simp at k
   | f e=>simp at k
  | byt y=>
   let⟨t1,rfl⟩:=rc;exfalso;unfold A0t A7k at k;cases ty with
   | o ty=>cases ty <;> simp at k
   | f e=>simp at k
  | flt y=>
   let⟨t1,rfl⟩:=rc;exfalso;unfold A0t A7k at k;cases ty with
   | o ty=>cases ty <;> simp at k
   | f e=>simp at k
 subst e;cases ty with
 | o ty=>exact C1r I r1 ty k λtk=>⟨.bl b,H,I.tok tk,rfl,q⟩
 | @f a o kvs ea=>cases (show u=Value.ref a from r1);let⟨_,_,_,xs,_,o',es,ep,h1,h2,_⟩:=(show N3 X.prog X.w H s.heap a (.frz o (.dT kvs)) from I.hok a _ ea);exact A1r PySem.W.kitx_dict I.kIn ⟨o',h1,h2.1⟩ k (λz=>nomatch z) λtk=>⟨.bl b,H,I.tok tk,rfl,q⟩
theorem E1.rev:∀{xs:!V}{us:!Value},E1 xs us->E1 xs.reverse us.reverse
 | _,_,.nil=>.nil
 | _::xs,_::us,.cons r t=>by
  rw[C0r,C0r];exact (E1.rev t).append (.cons r .nil)
theorem D1a:typeLookup (.type "list_reverseiterator") "__len__" = pure none:=by
 rw[typeLookup_type,builtinLookup_eq_fast];kernel_rfl
theorem D1b:typeLookup (.type "list_reverseiterator") "__length_hint__" = pure (some (.builtin "list_reverseiterator.__length_hint__")):=by
 rw[typeLookup_type,builtinLookup_eq_fast];kernel_rfl
section
variable {w:World}{E:Value->Shared->Prop}
theorem D1c {r l:Addr}{i:Int}{Q:Bool->Shared->Prop}(hr:s.heap.IsRevIter r l i)(h:∀tk,Q false { s with toks:=tk }):wpAny (model prog w) A (Builtin.List.listLengthHint (.ref r)) Q E s:=by
 have hT:=hr.typeIs;unfold Builtin.List.listLengthHint;refine wpAny_bind (wpAny_specialOf hT D1a ?_);show wpAny _ A (specialOf (Value.ref r) (Str.ofString "__length_hint__") >>= _) _ _ _;refine wpAny_bind (wpAny_specialOf hT D1b ?_);generalize hid:("list_reverseiterator.__length_hint__" : String)=id0
 wp_delta
 rw[show splitId id0=some ("list_reverseiterator","__length_hint__") from by subst hid;decide +kernel];subst hid;refine wpAny_bind (wpAny_isInstance (b:=true) hT (by rw[isSubtype_type];kernel_rfl) ?_);exact wpAny_pure (h s.toks)
theorem D1d {r l:Addr}{items:Array Value}{Q:Value->Shared->Prop}(hh:A.handled=none)(hr:s.heap.IsRevIter r l ((items.size:Int)-1))(hl:s.heap.IsList l items)(hne:l≠r)(hz:items.size<=sizeLine)
  (hQ:∀(h':Heap)(tk:Nat)(acc:Array Value)(c:Nat),(∀b o,b≠r->s.heap.get? b=some o->h'.get? b=some o)->h'.get? s.heap.objs.size=some { cls:=.type "list",dict:=none,data:=.seq acc c,slots:=#[] }->
   ItemsOf (λi v=>items[items.size-1-i]?=some v) acc items.size->Q (.ref s.heap.objs.size) { s with heap:=h',toks:=tk }):wpAny (model prog w) A (call (.type "list") [.ref r]) Q E s:=by
 have rlt:r<s.heap.objs.size:=by let⟨_,q,_⟩:=hr;exact K3 q
 have llt:l<s.heap.objs.size:=by let⟨_,q,_⟩:=hl;exact K3 q
 refine callType_codes (Q₁:=λobj t=>obj=.ref s.heap.objs.size/\t={ s with heap:=s.heap.push { cls:=.type "list",data:=.seq #[] } }) F.called_list (F.typeCall_list_1 _) F.entry_list_init (code_list_new _ ⟨rfl,rfl⟩) λobj t ht=>?_;let⟨rfl,rfl⟩:=ht;have hS:(s.heap.push { cls:=.type "list",data:=.seq #[] }).get? s.heap.objs.size=some { cls:=.type "list",data:=.seq #[] }:=U3 _ rfl;exists ⟨_,hS,rfl⟩,F.args_list_init_2 _ _;generalize hh2:s.heap.push { cls:=.type "list",data:=.seq #[] }=h2 at hS;have old:∀b o,s.heap.get? b=some o->h2.get? b=some o:=λb o e=>hh2▸Q3 _ e;have hSr:s.heap.objs.size≠r:=A9i rlt;have hSl:s.heap.objs.size≠l:=A9i llt;show wpAny _ _ (do let was <-Builtin.List.listItems (.ref s.heap.objs.size);Builtin.List.listUpdate (.ref s.heap.objs.size) (λJ=>#[]);letGo was.toList.reverse;Builtin.List.listExtendWith (.ref s.heap.objs.size) (.ref r) .none) _ _ _;refine wpAny_bind ?_;unfold Builtin.List.listItems;refine wpAny_bind (wpAny_seqItems hS rfl (wpAny_pure ?_));show wpAny _ _ (updateSeq s.heap.objs.size (λJ=>#[]) >>= λJ=>letGo (#[]:Array Value).toList.reverse >>= λJ=>Builtin.List.listExtendWith (.ref s.heap.objs.size) (.ref r) .none) _ _ _;refine wpAny_bind (wpAny_updateSeq hS rfl ?_);have hS3:=C0p (A7i (λJ=>(#[]:Array Value))) hS rfl;refine wpAny_bind (wpAny_letGo ?_);have oth:∀b o,b≠s.heap.objs.size->h2.get? b=some o->(h2.update s.heap.objs.size (A7i (λJ=>(#[]:Array Value)))).get? b=some o:=λb o n e=>(A7j _ _ (Ne.symm n)).trans e;generalize h2.update s.heap.objs.size (A7i (λJ=>(#[]:Array Value)))=h3 at hS3 oth;have old3:∀b o,s.heap.get? b=some o->h3.get? b=some o:=λb o e=>oth b o (S5 (K3 e)) (old b o e);have hr3:h3.IsRevIter r l ((items.size:Int)-1):=hr.at λo e=>old3 r o e;have hl3:h3.IsList l items:=hl.at λo e=>old3 l o e;have W:=(Walks.listRev (prog:=prog) (w:=w) (A:=A.in1.in1) hh r l hne items).toS;unfold Builtin.List.listExtendWith;refine wpAny_bind (wpAny_typeOf (T:= "list_reverseiterator") (s:={ s with heap:=h3 }) hr3.typeIs ?_);have z1:Builtin.List.listSameRef (.ref s.heap.objs.size) (.ref r)=false:=by simp [Builtin.List.listSameRef,hSr]
 rw[if_neg (by rw[z1];decide)];refine wpAny_bind (wpAny_pyIter_revIter (s:={ s with heap:=h3 }) hr3 ?_);refine wpAny_bind (wpAny_holding (D1c (s:={ s with heap:=h3 }) hr3 λtk=>?_));rw[if_neg (DD)];have nf:s.heap.objs.size∉[r,l]:=λq=>by
  rcases K7.mp q with e | e
  ·exact hSr e
  ·exact hSl (by simpa using e)
 have st0:0<=items.size/\h3.IsRevIter r l ((items.size:Int)-1-((0:Nat):Int))/\h3.IsList l items:=⟨Q7 _,by simpa using hr3,hl3⟩;refine wpAny_pure ⟨plainId_quiet F.plain_extend_loop _,codeAny_extend_loopS W hz _ nf _ items.size 0 _ _ _ rfl (Q7 _) st0 hS3 (ItemsOf.nil _) λs' acc c hm hS' hacc=>?_⟩;rw[Moved.eq_with hm];refine⟨rfl,hQ s'.heap s'.toks acc c (λb o n e=>hm.heap b o (λq=>?_) (old3 b o e)) hS' hacc⟩;rcases K7.mp q with z | z
 ·exact S5 (K3 e) z
 ·exact n (by simpa using z)
end
theorem C2s:bootBuiltins "reversed" = some (.type "reversed"):=by decide +kernel
theorem D1e {items:Array Value}{acc:Array Value}(h:ItemsOf (λi v=>items[items.size-1-i]?=some v) acc items.size):acc.toList=items.toList.reverse:=by
 have hl:acc.size=items.size:=h.1;apply C0s;intro i;by_cases c:i<items.size
 ·have ha:i<acc.size:=by omega
  have e:=h.2 i acc[i] (Array.getElem?_eq_getElem ha);rw[List.getElem?_reverse (by rw[A7e];exact c),A7e,B08,B08,Array.getElem?_eq_getElem ha];exact e.symm
 ·rw[A2g (by rw[A7e];omega),A2g (by rw[A7l,A7e];omega)]
theorem D1f {e:Expr}{te:TA}{p1 p2 p3 p4:Pos}(hg1:Gl X "list")(hm1:X.mg "list" = none)(hg2:Gl X "reversed")(hm2:X.mg "reversed" = none)(hc:X.calm=true)(he:PA X [e] te)(hs:autoParam (starEach [e] X.env=[(false,eval e X.env)]) RF._auto_1)
  (hs2:autoParam (starEach [.Call (.Name "reversed" p2) [e] [] p3] X.env=[(false,eval (.Call (.Name "reversed" p2) [e] [] p3) X.env)]) RF._auto_1):PE X (.Call (.Name "list" p1) [.Call (.Name "reversed" p2) [e] [] p3] [] p4)
   (fun σ H Q=>te σ H λvs H1=>∃a xs,vs=[.ref a]/\SqL X.K H1 a xs/\∀p,H1 p=none->Q (.ref p) (upd H1 p (.lst xs.reverse))):=by
 intros Q I h;refine Call_ (A1y I hg1 hm1 A1h (PyProof.Rows.callWith_type1 ?_ hs2 rfl));rw[hs2];show wpAny _ _ (spliced [(false,eval (.Call (.Name "reversed" p2) [e] [] p3) X.env)]) _ _ s;refine Calls.spliced_cons ?_;refine Call_ (A1y I hg2 hm2 C2s (PyProof.Rows.callWith_type1 (thn (he p3 pins s σ H _ I h) λus s1 zz271=>el5 zz271 λvs H1 I1 r1 q1=>?_) hs rfl));let⟨a,xs,rfl,hq,q⟩:=q1;let⟨u,rfl,rx⟩:=X9 r1;cases rx;let⟨its,rv,pl,hz⟩:=I1.list hq;have alt:a<s1.heap.objs.size:=by let⟨_,z,_⟩:=pl.isList;exact K3 z
 refine call_reversed_list pl.isList (Calls.spliced_nil ?_);have hr:(s1.heap.push (revObj a ((its.toArray.size:Int)-1))).IsRevIter s1.heap.objs.size a ((its.toArray.size:Int)-1):=⟨_,U3 _ rfl,rfl,rfl⟩;have hl2:(s1.heap.push (revObj a ((its.toArray.size:Int)-1))).IsList a its.toArray:=pl.isList.push _;have hsz:(s1.heap.push (revObj a ((its.toArray.size:Int)-1))).objs.size=s1.heap.objs.size+1:=C0k ..;refine D1d (s:={ s1 with heap:=s1.heap.push (revObj a ((its.toArray.size:Int)-1)) }) (I1.ok.hd hc) hr hl2 (S5 alt) (by rw[R9,<-rv.length];exact hz) λh' tk acc c hk hS hacc=>?_;have eq:=D1e hacc;refine⟨.ref _,_,I1.laid (t':=tk) (o:=.lst xs.reverse) (λb o z=>hk b o (S5 (K3 z)) (Q3 _ z)) (by show s1.heap.objs.size<=_;rw[hsz];exact A3j _) (show N3 X.prog X.w _ h' _ (.lst xs.reverse) from ⟨by rw[A7l];exact hz,acc.toList,c,?_,by simpa using hS⟩),rfl,q _ (I1.hok.fresh (by show s1.heap.objs.size<=_;rw[hsz];exact A3j _))⟩;rw[eq];exact E1.rev rv
def Itv (K:A8)(a:Addr)(n:Nat):It:=
 ⟨λi H=>∃xs x,SqL K H a xs/\xs.length=n/\xs.reverse[i]?=some x,λi H x H'=>H'=H/\∀xs,SqL K H a xs->xs.reverse[i]?=some x,λi J=>n<=i⟩
theorem D1g {P:Program}{w:World}{K:A8}{tg:Expr}(a it:Addr)(n:Nat):A3q P w K tg (Itv K a n) [it] it (λi h=>i<=n/\h.IsRevIter it a ((n:Int)-1-((i:Nat):Int))) where
 mem:=by simp
 obj:=λi h st b hb=>by
  have e:b=it:=by simpa using hb
  subst e;let⟨_,o,e,c,d⟩:=st;exact⟨o,e,λv z=>by rw[d] at z;cases z⟩
 keep:=λi h h' st k=>⟨st.1,st.2.at λo e=>k it (by simp) o e⟩
 item:=by
  intro X hP hw hK hc i pins s σ H E I hf st hg;subst hP hw hK;let⟨xs,x,hq,hn,hx⟩:=hg;let⟨its,rv,p,hz⟩:=I.list hq;have hil:i<n:=by
   have:=(X4.mp hx).1;rw[A7l,hn] at this;exact this
  have hx':xs[n-1-i]?=some x:=by rw[List.getElem?_reverse (by omega),hn] at hx;exact hx
  let⟨u,hu,ru⟩:=rv.get hx';let⟨f0,f1,f2,f3,f4,f5⟩:=hf it (by simp);have ei:(n:Int)-1-((i:Nat):Int)=((n-1-i:Nat):Int):=by omega
  refine wpAny_pyNext_rev_item (i:=n-1-i) (by rw[<-ei];exact st.2) p.isList (x:=u) (by simpa using hu) λh' st' sb=>?_;have I1:Inv X pins σ H { s with heap:=h' }:=I.turned (t':=s.toks) (λb o hb e=>(sb.2 b hb).trans e) f0 f1 f3 f4 f5;let⟨o,e,c,d⟩:=id st';have ej:((n-1-i:Nat):Int)-1=(n:Int)-1-((i+1:Nat):Int):=by omega
  exact⟨u,rfl,B1t (s:={ s with heap:=h' }) e c d DD ⟨x,H,I1,ru,⟨rfl,λys hy=>by rw[I.list_inj hy hq];exact hx⟩,⟨hil,by rw[<-ej];exact st'⟩,λb hb=>(hf b hb).1⟩⟩
 done:=by
  intro X hP hw hK hc i pins s σ H E I hf st hg;subst hP hw hK;let⟨f0,f1,f2,f3,f4,f5⟩:=hf it (by simp);have e:i=n:=Nat.le_antisymm st.1 hg;have em:(n:Int)-1-((i:Nat):Int)=-1:=by omega
  exact wpAny_pyNext_rev_end (I.ok.hd hc) (by rw[<-em];exact st.2) λh' eb=>⟨rfl,I.turned (t':=s.toks) (λb o hb e=>eb b o hb e) f0 f1 f3 f4 f5⟩
 self:=λJ J J J J st h=>wpAny_pyIter_revIter st.2 h
def C2t (K:A8)(ta:TA):TI:=fun σ H R=>ta σ H λvs H1=>∃a xs,vs=[.ref a]/\SqL K H1 a xs/\R (Itv K a xs.length) H1
theorem D1h {tg a:Expr}{ta:TA}{p pos:Pos}(hg:Gl X "reversed")(hm:X.mg "reversed" = none)(ha:PA X [a] ta)(hs:autoParam (starEach [a] X.env=[(false,eval a X.env)]) RF._auto_1):PI X tg (.Call (.Name "reversed" p) [a] [] pos) (C2t X.K ta):=by
 intros R I h;refine Call_ (A1y I hg hm C2s (PyProof.Rows.callWith_type1 (thn (ha pos pins s σ H _ I h) λus s1 zz272=>el5 zz272 λvs H1 I1 r1 q1=>?_) hs rfl));let⟨a',xs,rfl,hq,q⟩:=q1;let⟨u,rfl,rx⟩:=X9 r1;cases rx;let⟨its,rv,pl,hz⟩:=I1.list hq;have en:((its.toArray.size:Nat):Int)-1=((xs.length:Nat):Int)-1:=by rw[R9,<-rv.length]
 refine call_reversed_list pl.isList ?_;rw[en];have hr:(s1.heap.push (revObj a' ((xs.length:Int)-1))).IsRevIter s1.heap.objs.size a' ((xs.length:Int)-1):=⟨_,U3 _ rfl,rfl,rfl⟩;refine wpAny_pyIter_revIter (s:={ s1 with heap:=s1.heap.push (revObj a' ((xs.length:Int)-1)) }) hr ?_;refine⟨_,[s1.heap.objs.size],_,_,H1,rfl,I1.kept (t':=s1.toks) λb o e=>Q3 _ e,D1g a' _ xs.length,⟨Q7 _,by simpa using hr⟩,λb hb=>?_,q⟩;have e:b=s1.heap.objs.size:=by simpa using hb
 subst e;exact I1.fpOk (G3 _) (I1.hok.fresh (G3 _))
section
variable {σ:St}
end
section
variable {w:World}{E:Value->Shared->Prop}
end
variable {I:Addr}{fp wr:!Addr}{n:Nat}
section
variable {w:World}{P:Nat->Value->Prop}{St:Nat->Heap->Prop}
end
theorem E1.un:∀{xs:!V}{us:!Value}{i:Nat}{u:Value},E1 xs us->us[i]?=some u->∃x,xs[i]?=some x/\F1 x u
 | _,_,_,_,.nil,e=>by simp at e
 | _,_,0,_,.cons r _,e=>by
  cases e;exact⟨_,rfl,r⟩
 | _,_,i+1,_,.cons _ t,e=>E1.un (i:=i) t e
section
variable {σ:St}{h':Heap}
theorem Inv.turnedN {t':Nat}{L:!Addr}(I:Inv X pins σ H s)(k:∀b o,b∉L->s.heap.get? b=some o->h'.get? b=some o)(f:∀b∈L,Z5 X pins H b):Inv X pins σ H { s with heap:=h',toks:=t' }:=by
 have nL:∀b u,H b=some u->b∉L:=λb u e z=>by rw[(f b z).1] at e;cases e
 refine I.step (g':=s.gens) (d':=s.drawn) (ch:=L) (λb hb=>?_) (λb o J J hc e J=>k b o hc e) (λb o J J hc e J=>⟨o.slots,k b o hc e⟩) (λJ J J J n=>n)
  (λb o hc e=>⟨o,k b o hc e⟩) (λJ J e=>e) (λJ J J e=>e) (λb ps e=>⟨#[],by rw[e];simp⟩) (λm hm=>?_) (λb u q=>?_) I.bare
 ·let⟨e0,e1,e2,e3,e4,e5⟩:=f b hb;exact⟨e3,e1,e4,e5⟩
 ·let⟨o,es,ep,ho,r⟩:=hm;refine⟨o,es,ep,k _ o (λz=>?_) ho,r⟩;let⟨e0,e1,e2,e3,e4,e5⟩:=f _ z;exact e1 rfl
 ·refine (I.hok b u q).stay (λc v hc z=>k c v ?_ z) (λJ z=>z) λJ J z=>z;rcases hc with z | z
  ·rw[z];exact nL b u q
  ·exact nL c _ z
end
def Itz (K:A8)(a b:Addr):It:=
 ⟨λi H=>∃xs ys x y,SqL K H a xs/\SqL K H b ys/\xs[i]?=some x/\ys[i]?=some y,λi H x H'=>∃p u v,x=.ref p/\H p=none/\H'=upd H p (.tup [u,v])/\∀xs ys,SqL K H a xs->SqL K H b ys->xs[i]?=some u/\ys[i]?=some v,λi H=>∃xs ys,SqL K H a xs/\SqL K H b ys/\(xs.length<=i\/ys.length<=i)⟩
theorem D1i {P:Program}{w:World}{K:A8}{elts:!Expr} {x1} {tpos:Pos} (l1 l2 z TI TO i1 i2:Addr) (D:ZipApart z TI TO i1 i2 l1 l2) :
  A3q P w K (.Tuple elts x1 tpos) (Itz K l1 l2) [z,TI,TO,i1,i2] z (λi h=>IsZip h z TI TO .none/\IsPair h TI (.ref i1) (.ref i2)/\(∃a b,IsPair h TO a b)/\h.IsListIter i1 l1 i/\h.IsListIter i2 l2 i) where
 mem:=by simp
 obj:=λi h st b hb=>by
  let⟨hz,hTI,⟨a,b',hTO⟩,⟨o1,e1,_,d1⟩,⟨o2,e2,_,d2⟩⟩:=st;simp at hb;rcases hb with rfl | rfl | rfl | rfl | rfl
  ·exact⟨_,hz,λv z=>by cases (show Data.fields _=Data.cell v from z)⟩
  ·exact⟨_,hTI,λv z=>by cases (show Data.seq _ _=Data.cell v from z)⟩
  ·exact⟨_,hTO,λv z=>by cases (show Data.seq _ _=Data.cell v from z)⟩
  ·exact⟨o1,e1,λv z=>by rw[d1] at z;cases z⟩
  ·exact⟨o2,e2,λv z=>by rw[d2] at z;cases z⟩
 keep:=λi h h' st k=>by
  let⟨hz,hTI,⟨a,b,hTO⟩,h1,h2⟩:=st;exact⟨k z (by simp) _ hz,k TI (by simp) _ hTI,⟨a,b,k TO (by simp) _ hTO⟩,h1.at λo q=>k i1 (by simp) o q,h2.at λo q=>k i2 (by simp) o q⟩
 item:=by
  intro X hP hw hK hc i pins s σ H E I hf st hg;subst hP hw hK;let⟨hz,hTI,⟨a0,b0,hTO⟩,h1,h2⟩:=st;let⟨xs,ys,x,y,hq1,hq2,hx,hy⟩:=hg;let⟨its1,rv1,p1,_⟩:=I.list hq1;let⟨its2,rv2,p2,_⟩:=I.list hq2;let⟨u,hu,ru⟩:=rv1.get hx;let⟨v,hv,rw'⟩:=rv2.get hy;have lt:∀b∈[z,TI,TO,i1,i2],b<s.heap.objs.size:=λb hb=>by
   simp at hb;rcases hb with rfl | rfl | rfl | rfl | rfl
   ·exact K3 hz
   ·exact K3 hTI
   ·exact K3 hTO
   ·let⟨_,q,_⟩:=id h1;exact K3 q
   ·let⟨_,q,_⟩:=id h2;exact K3 q
  refine wpAny_pyNext_zip_item D hz hTI hTO h1 h2 p1.isList p2.isList (x:=u) (y:=v) (by simpa using hu) (by simpa using hv) λh' a1 a2 a3 a4 a5 a6 hk=>?_;refine⟨_,rfl,wpAny_letOwnedTupleGo_zip a1 λh2' hz2 hs2=>?_⟩;replace hs2:Heap.SameBut z h' h2':=hs2;have hn:H s.heap.objs.size=none:=I.hok.fresh (G3 _);have I1:Inv X pins σ (upd H s.heap.objs.size (.tup [x,y])) { s with heap:=s.heap.push { cls:=.type "tuple",data:=.seq #[u,v] },toks:=s.toks }:=
   I.laid (λb o q=>Q3 _ q) (G3 _) ⟨SZ (n:=2),[u,v],.cons ru (.cons rw' .nil),⟨_,U3 _ rfl,rfl,_,rfl⟩⟩
  have ge:∀b,b<s.heap.objs.size->Z5 X pins H b->Z5 X pins (upd H s.heap.objs.size (.tup [x,y])) b:=λb hb f=>⟨by rw[C4 (S5 hb)];exact f.1,f.2⟩;have I2:=I1.turnedN (h':=h2') (t':=s.toks) (L:=[z,TI,TO,i1,i2]) (λb o nb q=>by
   simp at nb;let⟨n1,n2,n3,n4,n5⟩:=nb;rw[hs2.2 b n1];rcases Heap.get?_push_cases q with ⟨e1,e2⟩ | q
   ·subst e1 e2;exact a5
   ·exact hk b o n1 n3 n4 n5 q) (λb hb=>ge b (lt b hb) (hf b hb))
  refine⟨.ref s.heap.objs.size,_,I2,rfl,⟨_,x,y,rfl,hn,rfl,λxs' ys' q1 q2=>⟨by rw[I.list_inj q1 hq1];exact hx,by rw[I.list_inj q2 hq2];exact hy⟩⟩,⟨hz2,?_,⟨u,v,?_⟩,?_,?_⟩,λb hb=>(ge b (lt b hb) (hf b hb)).1⟩
  ·exact (hs2.2 TI D.TIz).trans (hk _ _ D.TIz D.TITO D.TIi1 D.TIi2 hTI)
  ·exact (hs2.2 TO D.TOz).trans a2
  ·exact a3.at λo q=>(hs2.2 i1 D.i1z).trans q
  ·exact a4.at λo q=>(hs2.2 i2 D.i2z).trans q
 done:=by
  intro X hP hw hK hc i pins s σ H E I hf st hg;subst hP hw hK;let⟨hz,hTI,⟨a0,b0,hTO⟩,h1,h2⟩:=st;let⟨xs,ys,hq1,hq2,hx⟩:=hg;let⟨its1,rv1,p1,_⟩:=I.list hq1;let⟨its2,rv2,p2,_⟩:=I.list hq2;have e1:=rv1.length;have e2:=rv2.length;refine wpAny_pyNext_zip_end (I.ok.hd hc) D hz hTI hTO h1 h2 p1.isList p2.isList ?_ λh' hk=>⟨rfl,I.turnedN (t':=s.toks) (L:=[z,TI,TO,i1,i2]) (λb o nb q=>?_) hf⟩
  ·rcases hx with hx | hx
   ·exact .inl (by simp;omega)
   ·exact .inr (by simp;omega)
  ·simp at nb;exact hk b o nb.1 nb.2.2.1 nb.2.2.2.1 nb.2.2.2.2 q
 self:=λJ J J J J st h=>wpAny_pyIter_zip st.1 h
def D1j (K:A8)(ta:TA):TI:=fun σ H R=>ta σ H λvs H1=>∃a b,vs=[.ref a,.ref b]/\(∃xs,SqL K H1 a xs)/\(∃ys,SqL K H1 b ys)/\R (Itz K a b) H1
theorem D1k {elts:!Expr} {x1} {tpos:Pos} {a b:Expr} {ta:TA} {p pos:Pos} (hg:Gl X "zip") (hm:X.mg "zip" = none) (ha:PA X [a,b] ta) (hs:autoParam (starEach [a,b] X.env=[(false,eval a X.env),(false,eval b X.env)]) RF._auto_1) (hs2:autoParam (starEach [b] X.env=[(false,eval b X.env)]) RF._auto_1):PI X (.Tuple elts x1 tpos) (.Call (.Name "zip" p) [a,b] [] pos) (D1j X.K ta):=by
 intros R I h;refine Call_ (A1y I hg hm D04 (PyProof.Rows.callWith_type1 (thn (ha pos pins s σ H _ I h) λus s1 zz297=>el5 zz297 λvs H1 I1 r1 q1=>?_) (by rw[hs,hs2]) (by rw[hs2];rfl)));let⟨a',b',e,⟨xs,hq1⟩,⟨ys,hq2⟩,q⟩:=q1;subst e;let⟨u,v,rfl,ra,rb⟩:=r1.two;cases ra;cases rb;let⟨its1,rv1,p1,_⟩:=I1.list hq1;let⟨its2,rv2,p2,_⟩:=I1.list hq2;have la:a'<s1.heap.objs.size:=by let⟨_,e,_⟩:=p1.isList;exact K3 e
 have lb:b'<s1.heap.objs.size:=by let⟨_,e,_⟩:=p2.isList;exact K3 e
 refine call_zip_2 p1.isList p2.isList λh' hz hTI hTO h1 h2 hsz hk=>?_;refine wpAny_pyIter_zip (s:={ s1 with heap:=h' }) hz ?_;have I2:Inv X pins σ H1 { s1 with heap:=h' }:=I1.kept (t':=s1.toks) hk;have ne:∀{x y:Nat},x<y->x≠y:=λh=>S5 h;have lt:∀(x k:Nat),x<s1.heap.objs.size->x≠s1.heap.objs.size+k:=λx k hx=>S5 (U1 hx (Nat.le_add_right _ _));have pn:∀(i j:Nat),i≠j->s1.heap.objs.size+i≠s1.heap.objs.size+j:=λi j hij z=>hij (Nat.add_left_cancel z);refine⟨_,[s1.heap.objs.size+4,s1.heap.objs.size+2,s1.heap.objs.size+3,s1.heap.objs.size,s1.heap.objs.size+1],_,_,H1,rfl,I2,D1i a' b' _ _ _ _ _ ⟨pn 2 4 DD,pn 3 4 DD,pn 0 4 DD,pn 1 4 DD,pn 2 3 DD,pn 2 0 DD,pn 2 1 DD,pn 3 0 DD,pn 3 1 DD,pn 0 1 DD,lt a' 4 la,lt a' 3 la,lt a' 0 la,lt a' 1 la,lt b' 4 lb,lt b' 3 lb,lt b' 0 lb,lt b' 1 lb⟩,⟨hz,hTI,⟨_,_,hTO⟩,h1,h2⟩,λb hb=>?_,q⟩;have fp:∀k:Nat,Z5 X pins H1 (s1.heap.objs.size+k):=λk=>I1.fpOk (Nat.le_add_right _ _) (I1.hok.fresh (Nat.le_add_right _ _));simp at hb;rcases hb with rfl | rfl | rfl | rfl | rfl
 ·exact fp 4
 ·exact fp 2
 ·exact fp 3
 ·exact fp 0
 ·exact fp 1
section
variable {tg:Expr}
end
section
variable {w:World}{P:Nat->Value->Prop}{St:Nat->Heap->Prop}
theorem D1l (kw:!(Str×Value))(val:Nat->Int)(hval:∀i v,P i v->∃t,v=.int (val i) t)(W:Walks prog w A.in1 I fp wr n P St)(S:Addr)(hSf:S∉fp) :
  ∀(k j:Nat)(s:Shared)(vb:Value)(c:Nat),n-(j+1)=k->j+1<=n->St (j+1) s.heap->(∃i,P i vb/\i<=j/\∀q,q<=j->val q<=val i)->
  s.heap.get? S=some { cls:=.type "list",dict:=none,data:=.seq #[vb,vb] c,slots:=#[] }->
  (∀v h' tk,(∃i,P i v/\i<n/\∀q,q<n->val q<=val i)->(∀b o,b∉wr->b≠S->s.heap.get? b=some o->h'.get? b=some o)->R (.ok (.ret v)) { s with heap:=h',toks:=tk })->
  codeAny (model prog w) A (.builtin "max.loop" ⟨[.ref I,.none,.ref S],kw⟩) R s:=by
 have hSw:S∉wr:=λh=>hSf (W.sub _ h);have hname:(toString "max" ++toString ".loop" : String) = "max.loop" :=by decide
 intro k
 induction k with
 | zero=>
  intro j s vb c hk hj hst hPb hS hR;have hin:j+1=n:=by omega
  refine codeAny_builtin F.entry_max_loop ?_;rw[Around.under_plainId F.plain_max_loop _];show wpAny _ A.in1 (seqItems? (.ref S) >>= _) _ _ s;refine wpAny_bind (wpAny_seqItems hS rfl ?_);show wpAny _ A.in1 (tryCatch (pyNext (.ref I)) _ >>= _) _ _ s;refine wpAny_bind (wpAny_tryCatch (W.done s _ _ (hin▸hst) λh' tk hk'=>?_));have hS':=hk' S _ hSw hS;show wpAny _ A.in1 (updateSeq S (λJ=>#[]) >>= _) _ _ _;refine wpAny_bind ?_;refine wpAny_updateSeq hS' rfl (wpAny_bind (wpAny_letGo (wpAny_pure ?_)));let⟨i,h1,h2,h3⟩:=hPb;exact hR vb _ tk ⟨i,h1,OO,λq hq=>h3 q OO⟩ λb o hbw hbS e=>(A7j _ _ (Ne.symm hbS)).trans (hk' b o hbw e)
 | succ k ih=>
  intro j s vb c hk hj hst hPb hS hR;have hlt:j+1<n:=by omega
  refine codeAny_builtin F.entry_max_loop ?_;rw[Around.under_plainId F.plain_max_loop _];show wpAny _ A.in1 (seqItems? (.ref S) >>= _) _ _ s;refine wpAny_bind (wpAny_seqItems hS rfl ?_);show wpAny _ A.in1 (tryCatch (pyNext (.ref I)) _ >>= _) _ _ s;refine wpAny_bind (wpAny_tryCatch (W.item (j+1) s _ _ hlt hst λv h' tk hP hst' hk'=>?_));have hS':=hk' S _ hSw hS;let⟨ib,hib,hi1,hi2⟩:=hPb;let⟨t1,rfl⟩:=hval _ v hP;let⟨t2,rfl⟩:=hval _ vb hib;show wpAny _ A.in1 (tryCatch (holding [_,_] (richCompare .Gt _ _ >>= _)) _ >>= _) _ _ _;refine wpAny_bind (wpAny_tryCatch (wpAny_holding (wpAny_bind (richCompare_gives (op:=.Gt) (typeIs_int _ _ t1) (typeIs_int _ _ t2) F.slot_int_gt F.entry_int_gt (F.args_int_gt_2 _ _) (gives_int_gt _ _ t1 t2) (λx=>nomatch x) ?_))));refine wpAny_bind (wpAny_holding (wpAny_truthy_bool ?_));refine wpAny_bind (wpAny_letGo (wpAny_pure ?_));by_cases bt:val (j+1)>val ib
  ·rw[decide_eq_true bt];simp only[if_true];refine wpAny_bind ?_;refine wpAny_updateSeq hS' rfl (wpAny_bind (wpAny_letGo ?_));rw[hname];refine wpAny_pure ⟨plainId_quiet F.plain_max_loop _,ih (j+1) _ _ _ OO hlt (W.frame _ _ _ hst' λb hbf o e=>?_) ⟨j+1,hP,G3 _,λq hq=>?_⟩ (C0p _ hS' rfl)
    λv' h'' tk'' hP' hk''=>?_⟩
   ·exact (A7j _ _ (λh:S=b=>hSf (by rw[h];exact hbf))).trans e
   ·by_cases e:q=j+1
    ·subst e;exact A0v _
    ·have:=hi2 q (OO);omega
   ·exact hR v' h'' tk'' hP' λb o hbw hbS e=>hk'' b o hbw hbS ((A7j _ _ (Ne.symm hbS)).trans (hk' b o hbw e))
  ·rw[decide_eq_false bt];simp only[B4h,if_false];refine wpAny_bind (wpAny_letGo ?_);rw[hname];refine wpAny_pure ⟨plainId_quiet F.plain_max_loop _,ih (j+1) _ _ c OO hlt hst' ⟨ib,hib,OO,λq hq=>?_⟩ hS' λv' h'' tk'' hP' hk''=>?_⟩
   ·by_cases e:q=j+1
    ·subst e;omega
    ·exact hi2 q (OO)
   ·exact hR v' h'' tk'' hP' λb o hbw hbS e=>hk'' b o hbw hbS (hk' b o hbw e)
theorem D1m (kw:!(Str×Value))(val:Nat->Int)(hval:∀i v,P i v->∃t,v=.int (val i) t)(W:Walks prog w A.in1 I fp wr n P St)(S:Addr)(hSf:S∉fp)(hn:0<n){s:Shared}{c:Nat}(hst:St 0 s.heap)
  (hS:s.heap.get? S=some { cls:=.type "list",dict:=none,data:=.seq #[] c,slots:=#[] })
  (hR:∀v h' tk,(∃i,P i v/\i<n/\∀q,q<n->val q<=val i)->(∀b o,b∉wr->b≠S->s.heap.get? b=some o->h'.get? b=some o)->R (.ok (.ret v)) { s with heap:=h',toks:=tk }) :
  codeAny (model prog w) A (.builtin "max.loop" ⟨[.ref I,.none,.ref S],kw⟩) R s:=by
 have hSw:S∉wr:=λh=>hSf (W.sub _ h);have hname:(toString "max" ++toString ".loop" : String) = "max.loop" :=by decide
 refine codeAny_builtin F.entry_max_loop ?_;rw[Around.under_plainId F.plain_max_loop _];show wpAny _ A.in1 (seqItems? (.ref S) >>= _) _ _ s;refine wpAny_bind (wpAny_seqItems hS rfl ?_);show wpAny _ A.in1 (tryCatch (pyNext (.ref I)) _ >>= _) _ _ s;refine wpAny_bind (wpAny_tryCatch (W.item 0 s _ _ hn hst λv h' tk hP hst' hk'=>?_));have hS':=hk' S _ hSw hS;show wpAny _ A.in1 (updateSeq S (λJ=>#[v,v]) >>= _) _ _ _;refine wpAny_bind ?_;refine wpAny_updateSeq hS' rfl ?_;rw[hname];refine wpAny_pure ⟨plainId_quiet F.plain_max_loop _,D1l kw val hval W S hSf _ 0 _ v _ rfl hn (W.frame _ _ _ hst' λb hbf o e=>?_) ⟨0,hP,G3 _,λq hq=>by rw[show q=0 by omega];exact A0v _⟩ (C0p _ hS' rfl) λv' h'' tk'' hP' hk''=>?_⟩
 ·exact (A7j _ _ (λh:S=b=>hSf (by rw[h];exact hbf))).trans e
 ·exact hR v' h'' tk'' hP' λb o hbw hbS e=>hk'' b o hbw hbS ((A7j _ _ (Ne.symm hbS)).trans (hk' b o hbw e))
theorem D1n {dn:Str}{d:Value}(W:Walks prog w A.in1 I fp wr n P St)(S:Addr)(hSf:S∉fp)(hn:n=0){s:Shared}{c:Nat}(hst:St 0 s.heap)
  (hS:s.heap.get? S=some { cls:=.type "list",dict:=none,data:=.seq #[] c,slots:=#[] })
  (hR:∀h' tk,(∀b o,b∉wr->b≠S->s.heap.get? b=some o->h'.get? b=some o)->R (.ok (.ret d)) { s with heap:=h',toks:=tk }) :
  codeAny (model prog w) A (.builtin "max.loop" ⟨[.ref I,.none,.ref S],[(dn,d)]⟩) R s:=by
 have hSw:S∉wr:=λh=>hSf (W.sub _ h);subst hn;refine codeAny_builtin F.entry_max_loop ?_;rw[Around.under_plainId F.plain_max_loop _];show wpAny _ A.in1 (seqItems? (.ref S) >>= _) _ _ s;refine wpAny_bind (wpAny_seqItems hS rfl ?_);show wpAny _ A.in1 (tryCatch (pyNext (.ref I)) _ >>= _) _ _ s;refine wpAny_bind (wpAny_tryCatch (W.done s _ _ hst λh' tk hk'=>?_));show wpAny _ A.in1 (rule _ >>= _) _ _ _;refine wpAny_bind (wpAny_rule ?_);exact wpAny_pure (hR h' tk λb o hbw hbS e=>hk' b o hbw e)
end
def B19 (ns:!Int)(M:Int):Prop:=M∈ns/\∀n∈ns,n<=M
theorem C2u {ns:!Int}{its:!Value}(rv:E1 (ns.map V.int) its){i:Nat}{v:Value}(h:its[i]?=some v):∃n t,ns[i]?=some n/\v=.int n t:=by
 let⟨x,hx,rx⟩:=E1.un rv h;rw[M2] at hx;cases e:ns[i]? with
 | none=>rw[e] at hx;cases hx
 | some n=>rw[e] at hx;cases hx;let⟨t,rfl⟩:=rx;exact⟨n,t,rfl,rfl⟩
theorem D1o (a b:Value):argsOk "max" ⟨[a],[(Str.ofString "default",b)]⟩:=by unfold argsOk;kernel_rfl
theorem D1p {prog:Program}{w:World}{A:Around}{E:Value->Shared->Prop}{s:Shared}{id:String}{b:Builtin}{args:!Value}{kw:!(Str×Value)}{Q:Value->Shared->Prop}(hk:builtinKind id=none)(hp:plainId id=true)
  (hb:entryFor table id=some b) (ha:argsOk id ⟨args,kw⟩)
  (hc:wpAny (model prog w) A.in1 (b ⟨args,kw⟩) (λfin s'=>match fin with
   | .done f=>(match (Except.ok f:Result) with | .ok (.ret v)=>Q v s' | .ok _=>False | .error e=>E e s')
   | .again c'=>c'.quiet=true/\codeAny (model prog w) A c' (λr s'=>match r with | .ok (.ret v)=>Q v s' | .ok _=>False | .error e=>E e s') s') E s) :
  wpAny (model prog w) A (call (.builtin id) args kw) Q E s:=by
 refine wpAny_call (codeAny_call_builtin hp hb ?_);simp only[checkBuiltinCall,hk];cases hsig:Manifest.signature? id with
 | none=>exact wpAny_pure hc
 | some sig=>
  have h2:Bind.checkArgs id sig ⟨args,kw⟩=pure ():=by simpa only[argsOk,hsig] using ha
  simp only[h2];exact wpAny_pure hc
def B5h (d:Int)(K:A8):!V->Hp->VK->Prop:=λxs H Q=>∃(p:Addr)(ns:!Int),xs=[.ref p]/\SqL K H p (ns.map V.int)/\(ns=[]->Q (.int d) H)/\∀M,B19 ns M->Q (.int M) H
theorem D1q {d:Int}{t0:Tok}(hc:X.calm=true){pins:!(Addr×Obj)}{s:Shared}{σ:St}{H:Hp}{xs:!V}{us:!Value}{Q:VK}(I:Inv X pins σ H s)(r:E1 xs us)(h:B5h d X.K xs H Q) :
  wpAny (model X.prog X.w) X.A (call (.builtin "max") us [(Str.ofString "default",.int d t0)]) (EP X pins σ Q) X.xe s:=by
 let⟨p,ns,rfl,hq,q0,q⟩:=h;let⟨u,rfl,rx⟩:=X9 r;cases rx;let⟨its,rv,pl,hz⟩:=I.list hq;have hl:=pl.isList;have hlt:p<s.heap.objs.size:=by let⟨_,e,_⟩:=hl;exact K3 e
 have hlen:=rv.length;rw[B7] at hlen;have hname:(toString "max" ++toString ".loop" : String) = "max.loop" :=by decide
 refine D1p F.kind_max F.plain_max F.entry_max (D1o _ _) ?_;show wpAny _ X.A.in1 (Builtin.Builtins.bindParams "max" ["key","default"] 0 ⟨[],[(Str.ofString "default",.int d t0)]⟩ >>= _) _ _ s;refine wpAny_bind (wpAny_of_eq (show Builtin.Builtins.bindParams "max" ["key","default"] 0 ⟨[],[(Str.ofString "default",.int d t0)]⟩=pure [none,some (.int d t0)] from by kernel_rfl) ?_);refine wpAny_bind (wpAny_pure ?_);refine wpAny_bind (wpAny_pyIter_list hl ?_);refine wpAny_bind (wpAny_newObj_type ?_);rw[hname];have W:=Walks.list (prog:=X.prog) (w:=X.w) (A:=X.A.in1) (I.ok.hd hc) s.heap.objs.size p (S5 hlt) its.toArray;have sz:∀(h:Heap)(o:Obj),(h.push o).objs.size=h.objs.size+1:=λh o=>by simp [Heap.push]
 have hS:(s.heap.push { cls:=.type "list_iterator",data:=.fields #[.ref p,.int 0 0] }).objs.size∉[s.heap.objs.size,p]:=by
  intro hm;rw[sz] at hm;rcases K7.mp hm with z | z
  ·exact absurd z (Nat.succ_ne_self _)
  ·have h2:s.heap.objs.size+1=p:=A2h.mp z;have h3:s.heap.objs.size+1<s.heap.objs.size:=by rw[h2];exact hlt
   exact absurd h3 (Nat.not_lt.mpr (A3j _))
 have keep:∀{h':Heap},(∀b o,b∉[s.heap.objs.size]->b≠(s.heap.push { cls:=.type "list_iterator",data:=.fields #[.ref p,.int 0 0] }).objs.size->((s.heap.push { cls:=.type "list_iterator",data:=.fields #[.ref p,.int 0 0] }).push { cls:=.type "list",data:=.seq #[] }).get? b=some o->h'.get? b=some o)->∀b o,s.heap.get? b=some o->h'.get? b=some o:=λhk b o e=>by
  have hb:=K3 e;refine hk b o (λhm=>?_) (λhm=>?_) (Q3 _ (Q3 _ e))
  ·rw[A2h.mp hm] at hb;exact A1p _ hb
  ·rw[hm,sz] at hb;exact absurd hb (Nat.not_lt.mpr (A3j _))
 by_cases hne:ns=[]
 ·refine wpAny_pure ⟨plainId_quiet F.plain_max_loop _,D1n W _ hS ?_ ?_ (U3 _ rfl) λh' tk hk=>?_⟩
  ·rw[R9,<-hlen,hne];rfl
  ·exact W.frame _ _ _ ⟨⟨_,U3 _ rfl,rfl,rfl⟩,hl.push _⟩ λb J o e=>Q3 _ e
  ·exact⟨.int d,H,I.kept (t':=tk) (keep hk),⟨t0,rfl⟩,q0 hne⟩
 refine wpAny_pure ⟨plainId_quiet F.plain_max_loop _,D1m _ (λi=>(ns[i]?).getD 0) (λi v hv=>?_) W _ hS ?_ ?_ (U3 _ rfl) λv h' tk hP hk=>?_⟩
 ·have hv':its[i]?=some v:=by simpa using hv
  let⟨n,t,e,rfl⟩:=C2u rv hv';exact⟨t,by rw[e];rfl⟩
 ·rw[R9,<-hlen];exact List.length_pos_iff.mpr hne
 ·exact W.frame _ _ _ ⟨⟨_,U3 _ rfl,rfl,rfl⟩,hl.push _⟩ λb J o e=>Q3 _ e
 ·let⟨i,hi,hi1,hi2⟩:=hP;have hv':its[i]?=some v:=by simpa using hi
  let⟨n,t,e,rfl⟩:=C2u rv hv';refine⟨.int n,H,I.kept (t':=tk) (keep hk),⟨t,rfl⟩,q n ⟨U4 e,λm hm=>?_⟩⟩;let⟨j,hj,rfl⟩:=B1a.mp hm;have:=hi2 j (by rw[R9,<-hlen];exact hj);rw[M8 hj,e] at this;exact this
theorem C2v {e:Expr}{ta:TA}{p pos kpos cpos:Pos}{d:Int} {j} (hc:X.calm=true) (hg:Gl X "max") (hm:X.mg "max" = none) (hv:bootBuiltins "max" = some (.builtin "max")) (ha:PA X [e] ta)
  (he:autoParam (starEach [e] X.env=[(false,eval e X.env)]) RF._auto_1):PE X (.Call (.Name "max" p) [e] [⟨some (Str.ofString "default"),.Constant (.int d) j cpos,kpos⟩] pos) (tCB (B5h d X.K) ta):=by
 intros Q I h;refine wpAny_Call_Name_kw (A1y I hg hm hv ?_ DD DD);refine PyProof.Rows.callWith_kw (thn (ha pos pins s σ H _ I h) λus s1 zz=>el5 zz λvs H1 I1 r1 q1=>?_) (by rw[he];rfl) (by rw[he];rfl) rfl rfl;show wpAny _ _ ((do let v <-eval (.Constant (.int d) j cpos) X.env;standAt pos;pure v) >>= _) _ _ _;refine wpAny_bind (wpAny_bind (wpAny_Constant_int (wpAny_bind (wpAny_standAt (wpAny_pure ?_)))));refine wpAny_bind (wpAny_holding (wpAny_pure (wpAny_pure ?_)));exact D1q hc (I1.tok _) r1 q1
section
variable {w:World}{P:Nat->Value->Prop}{St:Nat->Heap->Prop}
end
end Lake
namespace Tactic
open PySem Lake
def Hd (H:Hp)(a l:Addr):Prop:=∃(ns:!Int)(p b c u v:Int),H l=some (.lst (ns.map V.int))/\0<=p/\H a=some (.lst [.ref l,.int p,.int b,.int c,.int u,.int v])
def Kp (a:Addr)(H H':Hp):Prop:=∀b o,H b=some o->b≠a->H' b=some o
theorem Kp.refl (a:Addr)(H:Hp):Kp a H H:=λJ J e J=>e
theorem Kp.trans {a:Addr}{H H1 H2:Hp}(x:Kp a H H1)(y:Kp a H1 H2):Kp a H H2:=λb o e n=>y b o (x b o e n) n
theorem Kp.lay {a p:Addr}{H H1:Hp}{o:HO}(x:Kp a H H1)(h:H1 p=none):Kp a H (upd H1 p o):=λb u e n=>by
 have e1:=x b u e n;rw[C4 (e7 e1 h)];exact e1
theorem B2a {H:Hp}{a l:Addr}{ns:!Int}{xs:!V}(hl:H l=some (.lst (ns.map V.int)))(ha:H a=some (.lst (.ref l::xs))):l≠a:=C01 hl ha (by
 intro e;injection e with e
 cases ns with
 | nil=>cases e
 | cons n r=>injection e with e1;cases e1)
theorem Hd.at1 {H:Hp}{a l:Addr}(h:Hd H a l):∃o,H a=some o:=let ⟨_,_,_,_,_,_,_,_,e⟩:=h;⟨_,e⟩
theorem Hd.at2 {H:Hp}{a l:Addr}(h:Hd H a l):∃o,H l=some o:=let ⟨_,_,_,_,_,_,e,_⟩:=h;⟨_,e⟩
theorem Hd.ne {H:Hp}{a l p:Addr}(h:Hd H a l)(hp:H p=none):p≠a/\p≠l:=by
 let⟨o,e⟩:=h.at1;let⟨o',e'⟩:=h.at2;exact⟨(e7 e hp).symm,(e7 e' hp).symm⟩
theorem Hd.wr {H:Hp}{a l p:Addr}{o:HO}(h:Hd H a l)(n1:p≠a)(n2:p≠l):Hd (upd H p o) a l:=by
 let⟨ns,q,b,c,u,v,h1,h2,h3⟩:=h;exact⟨ns,q,b,c,u,v,by rw[C4 n2.symm];exact h1,h2,by rw[C4 n1.symm];exact h3⟩
theorem Hd.lay {H:Hp}{a l p:Addr}{o:HO}(h:Hd H a l)(hp:H p=none):Hd (upd H p o) a l:=h.wr (h.ne hp).1 (h.ne hp).2
theorem Hd.same {H H':Hp}{a l:Addr}(h:Hd H a l)(s:Same H H'):Hd H' a l:=by
 let⟨ns,q,b,c,u,v,h1,h2,h3⟩:=h;exact⟨ns,q,b,c,u,v,s _ _ h1,h2,s _ _ h3⟩
theorem _root_.Lake.Same.lay {p:Addr}{H H1:Hp}{o:HO}(x:Same H H1)(h:H1 p=none):Same H (upd H1 p o):=λb u e=>by
 have e1:=x b u e;rw[C4 (e7 e1 h)];exact e1
theorem _root_.Lake.Same.kp {a:Addr}{H H1:Hp}(x:Same H H1):Kp a H H1:=λb o e J=>x b o e
theorem D1r {ns:!Int}{p:Int}(h0:0<=p)(h1:p<(ns.length:Int)):∃z,atI (ns.map V.int) p=some (.int z):=by
 let⟨n,rfl⟩:=B4j h0;have hp:n<ns.length:=by omega
 exact⟨ns[n],f7 (by rw[M2,M8 hp];rfl)⟩
def D1s (K:A8):Sp:=λvs H Q J=>∃(a:Addr)(ns:!Int),vs=[.ref a]/\SqL K H a (ns.map V.int)/\∀(p l:Addr)(H':Hp),H p=none->H l=none->Hd H' p l->Same H H'->Q (.ref p) H'
def D1t:Sp:=λvs H Q J=>∃a l,vs=[.ref a]/\Hd H a l/\∀(r:Int)(H':Hp),Hd H' a l->Kp a H H'->Q (.int r) H'
def D1u:Sp:=λvs H Q J=>∃a l,vs=[.ref a]/\Hd H a l/\∀(H':Hp),Hd H' a l->Kp a H H'->Q .non H'
def D1v:Sp:=λvs H Q J=>∃a l m,vs=[.ref a,.int m]/\Hd H a l/\0<m/\m<100000000000000000000000000000000000000000000000000000000000000/\∀(r:Int)(H':Hp),0<=r->r<m->Hd H' a l->Kp a H H'->Q (.int r) H'
def dEn (ks:!(!Int)):!(!Key×V):=ks.map λk=>(k.map Sum.inl,V.bl true)
def dEm (ks:!(!Int×Int)):!(!Key×V):=ks.map λp=>(p.1.map Sum.inl,V.int p.2)
def D1w (k:!Int):PyData:=.tuple (k.map PyData.int)
inductive DiU:HO->!(PyData×PyData)->Prop
 | t:DiU (.dT []) []
 | k (i j:Int):DiU (.dK [(Sum.inl i,V.int j)]) [(.int i,.int j)]
 | f (o:Obj) (ks:!(!Int)):DiU (.frz o (.dT (dEn ks))) ((.none,.none)::ks.map λk=>(D1w k,.bool true))
mutual
inductive ThV (F:Addr->Prop)(H:Hp):V->PyData->Prop
 | non:ThV F H .non .none
 | bl (b):ThV F H (.bl b) (.bool b)
 | int (i):ThV F H (.int i) (.int i)
 | str (x):ThV F H (.str x) (.str x)
 | lst {a xs ds}:F a->H a=some (.lst xs)->C3 F H xs ds->ThV F H (.ref a) (.list ds)
 | tup {a xs ds}:F a->H a=some (.tup xs)->C3 F H xs ds->ThV F H (.ref a) (.tuple ds)
 | dic {a u kvs}:F a->H a=some u->DiU u kvs->ThV F H (.ref a) (.dict kvs)
inductive C3 (F:Addr->Prop)(H:Hp):!V->!PyData->Prop
 | nil:C3 F H [] []
 | cons {x xs d ds}:ThV F H x d->C3 F H xs ds->C3 F H (x::xs) (d::ds)
end
theorem th_ind {F:Addr->Prop}{H:Hp}{m1:V->PyData->Prop}{m2:!V->!PyData->Prop}(c1:m1 .non .none)(c2:∀b,m1 (.bl b) (.bool b))(c3:∀i,m1 (.int i) (.int i))(c4:∀x,m1 (.str x) (.str x))(c5:∀{a xs ds},F a->H a=some (.lst xs)->C3 F H xs ds->m2 xs ds->m1 (.ref a) (.list ds))(c6:∀{a xs ds},F a->H a=some (.tup xs)->C3 F H xs ds->m2 xs ds->m1 (.ref a) (.tuple ds))(c7:∀{a u kvs},F a->H a=some u->DiU u kvs->m1 (.ref a) (.dict kvs))(c8:m2 [] [])(c9:∀{x xs d ds},ThV F H x d->C3 F H xs ds->m1 x d->m2 xs ds->m2 (x::xs) (d::ds)):(∀{v d},ThV F H v d->m1 v d)/\∀{vs ds},C3 F H vs ds->m2 vs ds:=
 ⟨λt=>ThV.rec (motive_1:=λv d J=>m1 v d) (motive_2:=λv d J=>m2 v d) c1 c2 c3 c4 c5 c6 c7 c8 c9 t,λt=>C3.rec (motive_1:=λv d J=>m1 v d) (motive_2:=λv d J=>m2 v d) c1 c2 c3 c4 c5 c6 c7 c8 c9 t⟩
theorem th_mv {F G:Addr->Prop}{H H':Hp}(f:∀b o,F b->H b=some o->G b/\H' b=some o):(∀{v d},ThV F H v d->ThV G H' v d)/\∀{vs ds},C3 F H vs ds->C3 G H' vs ds:=th_ind .non .bl .int .str (λn e J t=>.lst (f _ _ n e).1 (f _ _ n e).2 t) (λn e J t=>.tup (f _ _ n e).1 (f _ _ n e).2 t) (λn e t=>.dic (f _ _ n e).1 (f _ _ n e).2 t) .nil λJ J x t=>.cons x t
theorem ThV.mv {F G:Addr->Prop}{H H':Hp}(f:∀b o,F b->H b=some o->G b/\H' b=some o){v:V}{d:PyData}(t:ThV F H v d):ThV G H' v d:=(th_mv f).1 t
theorem C3.mv {F G:Addr->Prop}{H H':Hp}(f:∀b o,F b->H b=some o->G b/\H' b=some o){vs:!V}{ds:!PyData}(t:C3 F H vs ds):C3 G H' vs ds:=(th_mv f).2 t
theorem C3.same {F:Addr->Prop}{H H':Hp}{v:!V}{d:!PyData}(t:C3 F H v d)(s:Same H H'):C3 F H' v d:=t.mv λb o z e=>⟨z,s b o e⟩
theorem C3.append {F:Addr->Prop}{H:Hp}{xs:!V}{ds:!PyData}{ys:!V}{es:!PyData}(t:C3 F H xs ds)(y:C3 F H ys es):C3 F H (xs++ys) (ds++es):=by
 induction xs generalizing ds with
 | nil=>cases t;exact y
 | cons v xs ih=>
  cases t with
  | cons x t=>exact .cons x (ih t)
theorem C3.len {F:Addr->Prop}{H:Hp}{xs:!V}{ds:!PyData}(t:C3 F H xs ds):xs.length=ds.length:=by
 induction xs generalizing ds with
 | nil=>cases t;rfl
 | cons v xs ih=>
  cases t with
  | cons x t=>rw[J6,J6,ih t]
theorem C3.get {F:Addr->Prop}{H:Hp}:∀{xs:!V}{ds:!PyData}{i:Nat}{v:V},C3 F H xs ds->xs[i]?=some v->∃d,ds[i]?=some d/\ThV F H v d
 | _,_,_,_,.nil,e=>by simp at e
 | _,_,0,v,.cons (d:=d) x _,e=>by
  have e':=Option.some.inj e;subst e';exact⟨d,rfl,x⟩
 | _,_,i+1,v,.cons _ t,e=>C3.get (i:=i) t e
theorem C3.at {F:Addr->Prop}{H:Hp}:∀{xs:!V}{ds:!PyData}{i:Nat}{d:PyData},C3 F H xs ds->ds[i]?=some d->∃v,xs[i]?=some v/\ThV F H v d
 | _,_,_,_,.nil,e=>by simp at e
 | _,_,0,d,.cons (x:=v) x _,e=>by
  have e':=Option.some.inj e;subst e';exact⟨v,rfl,x⟩
 | _,_,i+1,v,.cons _ t,e=>C3.at (i:=i) t e
theorem th_dat {K:A8}{F:Addr->Prop}{H:Hp}:(∀{v d},ThV F H v d->d.canLay0=true->A0i K H v d)/\∀{vs ds},C3 F H vs ds->PyData.canLayAll0 ds=true->A01 K H vs ds:=th_ind (m1:=λv d=>d.canLay0=true->A0i K H v d) (m2:=λvs ds=>PyData.canLayAll0 ds=true->A01 K H vs ds) (λJ=>.non) (λb J=>.bl b) (λi J=>.int i) (λx J=>.str x) (λJ e J t h=>.lst (SqL.of e) (t (by rw[PyData.canLay0] at h;exact h))) (λJ e J t h=>.tup (SqT.of e) (t (by rw[PyData.canLay0] at h;exact h))) (λJ J J h=>by rw[PyData.canLay0] at h;cases h) (λJ=>.nil) λJ J x t h=>by
 rw[PyData.canLayAll0,Z2] at h;exact .cons (x h.1) (t h.2)
theorem ThV.dat {K:A8}{F:Addr->Prop}{H:Hp}{v:V}{d:PyData}(t:ThV F H v d)(c:d.canLay0=true):A0i K H v d:=th_dat.1 t c
theorem C3.dat {K:A8}{F:Addr->Prop}{H:Hp}{vs:!V}{ds:!PyData}(t:C3 F H vs ds)(c:PyData.canLayAll0 ds=true):A01 K H vs ds:=th_dat.2 t c
structure DC where
 F:Addr->Prop
 hand:Option (Addr×Addr)
 H0:Hp
def Kq (h:Option (Addr×Addr))(H H':Hp):Prop:=∀b o,H b=some o->(∀q,h=some q->b≠q.1)->H' b=some o
def Hq (h:Option (Addr×Addr))(H:Hp):Prop:=∀q,h=some q->Hd H q.1 q.2
section
variable {h:Option (Addr×Addr)}{H H1 H2 H':Hp}{p:Addr}{o:HO}
theorem Kq.refl:Kq h H H:=λJ J e J=>e
theorem Kq.trans (a:Kq h H H1)(b:Kq h H1 H2):Kq h H H2:=λc o e n=>b c o (a c o e n) n
theorem Kq.same (s:Same H H'):Kq h H H':=λb o e J=>s b o e
theorem Kq.fr {b:Addr}(k:Kq h H H')(q:Hq h H')(e:H' b=none):H b=none:=by
 cases z:H b with
 | none=>rfl
 | some o=>
  by_cases c:∀p,h=some p->b≠p.1
  ·rw[k b o z c] at e;cases e
  ·refine absurd (λp hp hb=>?_) c;let⟨o',e'⟩:=(q p hp).at1;rw[hb,e'] at e;cases e
theorem Kq.lay (hp:H p=none):Kq h H (upd H p o):=Kq.same ((Same.refl H).lay hp)
theorem Hq.lay (q:Hq h H)(hp:H p=none):Hq h (upd H p o):=λz hz=>(q z hz).lay hp
end
inductive Rws (G F:Addr->Prop)(H:Hp):!Addr->!(!PyData)->Prop
 | nil:Rws G F H [] []
 | cons {b vs as ds dss}:G b->H b=some (.lst vs)->C3 F H vs ds->Rws G F H as dss->Rws G F H (b::as) (ds::dss)
theorem Rws.mv {G F G' F':Addr->Prop}{H H':Hp}{as:!Addr}{dss:!(!PyData)}(t:Rws G F H as dss)(f:∀b o,F b->H b=some o->F' b/\H' b=some o)(g:∀b o,G b->H b=some o->G' b/\H' b=some o):Rws G' F' H' as dss:=by
 induction t with
 | nil=>exact .nil
 | cons x e y _ ih=>exact .cons (g _ _ x e).1 (g _ _ x e).2 (y.mv f) ih
theorem Rws.mvl {G F G' F':Addr->Prop}{H H':Hp}{as:!Addr}{dss:!(!PyData)}(t:Rws G F H as dss)(f:∀b o,F b->H b=some o->F' b/\H' b=some o)(g:∀b ys,G b->H b=some (.lst ys)->G' b/\H' b=some (.lst ys)):Rws G' F' H' as dss:=by
 induction t with
 | nil=>exact .nil
 | cons x e y _ ih=>exact .cons (g _ _ x e).1 (g _ _ x e).2 (y.mv f) ih
def A70 (H:Hp)(a:Addr)(ks:!(!Int)):Bool->Prop
 | false=>H a=some (.dT (dEn ks))
 | true=>∃o,H a=some (.frz o (.dT (dEn ks)))
theorem A70.mv {H H':Hp}{a:Addr}{ks:!(!Int)}{f:Bool}(h:A70 H a ks f)(k:∀o,H a=some o->H' a=some o):A70 H' a ks f:=by
 cases f with
 | false=>exact k _ h
 | true=>let⟨o,h⟩:=h;exact⟨o,k _ h⟩
theorem A70.ne {H:Hp}{a:Addr}{ks:!(!Int)}{f:Bool}(h:A70 H a ks f):H a≠none:=by
 cases f with
 | false=>exact λq=>by rw[show H a=_ from h] at q;cases q
 | true=>let⟨o,h⟩:=h;exact λq=>by rw[h] at q;cases q
def A71 (H:Hp)(a:Addr)(ks:!(!Int×Int)):Bool->Prop
 | false=>H a=some (.dT (dEm ks))
 | true=>∃o,H a=some (.frz o (.dT (dEm ks)))
theorem A71.mv {H H':Hp}{a:Addr}{ks:!(!Int×Int)}{f:Bool}(h:A71 H a ks f)(k:∀o,H a=some o->H' a=some o):A71 H' a ks f:=by
 cases f with
 | false=>exact k _ h
 | true=>let⟨o,h⟩:=h;exact⟨o,k _ h⟩
theorem A71.ne {H:Hp}{a:Addr}{ks:!(!Int×Int)}{f:Bool}(h:A71 H a ks f):H a≠none:=by
 cases f with
 | false=>exact λq=>by rw[show H a=_ from h] at q;cases q
 | true=>let⟨o,h⟩:=h;exact λq=>by rw[h] at q;cases q
structure C2w where
 p:(Addr->Prop)->Hp->V->Prop
 mv:∀{W W':Addr->Prop}{H H':Hp}{v:V},(∀b o,W b->H b=some o->W' b/\H' b=some o)->p W H v->p W' H' v
inductive Sl where
 | no
 | sh (d:PyData)
 | ow (ds:!PyData)
 | bo (ds:!PyData)
 | hd
 | o2 (dss:!(!PyData))
 | b2 (dss:!(!PyData))
 | di (f:Bool) (ks:!(!Int))
 | dm (f:Bool) (kvs:!(!Int×Int))
 | bd (d:PyData)
 | ot (d:PyData)
 | ob (R:C2w)
abbrev Z (col:Addr->Nat):Addr->Prop:=λb=>col b=0
abbrev Le (C:DC):Addr->Prop:=λb=>C.H0 b≠none/\∀q,C.hand=some q->b≠q.1
abbrev Ow (C:DC)(col:Addr->Nat)(H:Hp)(i:Nat):Addr->Prop:=λb=>(col b=2*i+3/\C.H0 b=none)\/(col b=0/\∃xs,H b=some (.tup xs))
def SlR (C:DC)(col:Addr->Nat)(H:Hp)(i:Nat)(o:Option V):Sl->Prop
 | .no=>True
 | .sh d=>∃v,o=some v/\ThV (Z col) H v d
 | .ow ds=>∃a vs,o=some (.ref a)/\col a=2*i+3/\C.H0 a=none/\H a=some (.lst vs)/\C3 (Z col) H vs ds
 | .bo ds=>∃a vs,o=some (.ref a)/\col a<=1/\(∀q,C.hand=some q->a≠q.1)/\H a=some (.lst vs)/\C3 (Z col) H vs ds
 | .hd=>∃q,C.hand=some q/\o=some (.ref q.1)
 | .o2 dss=>∃a as,o=some (.ref a)/\(col a=2*i+3/\C.H0 a=none)/\H a=some (.lst (as.map V.ref))/\(a::as).Nodup/\Rws (λb=>col b=2*i+3/\C.H0 b=none) (Z col) H as dss
 | .b2 dss=>∃a as,o=some (.ref a)/\(col a<=1/\∀q,C.hand=some q->a≠q.1)/\H a=some (.lst (as.map V.ref))/\Rws (λb=>col b<=1/\∀q,C.hand=some q->b≠q.1) (Z col) H as dss
 | .di f ks=>∃a,o=some (.ref a)/\col a=2*i+3/\C.H0 a=none/\A70 H a ks f
 | .dm f ks=>∃a,o=some (.ref a)/\col a=2*i+3/\C.H0 a=none/\A71 H a ks f
 | .bd d=>∃v,o=some v/\ThV (Le C) C.H0 v d
 | .ot d=>∃v,o=some v/\ThV (Ow C col H i) H v d
 | .ob R=>∃v,o=some v/\R.p (Ow C col H i) H v
inductive Pe where
 | v (v:V) (d:PyData)
 | n (a:Addr) (o:HO)
 | s (vs:!V) (ds:!PyData)
 | o (c:Nat) (as:!Addr) (dss:!(!PyData))
 | w (v:V) (d:PyData)
def PeR (C:DC)(col:Addr->Nat)(H:Hp):Pe->Prop
 | .v v d=>ThV (Z col) H v d
 | .n a o=>col a<=1/\(∀q,C.hand=some q->a≠q.1)/\H a=some o
 | .s vs ds=>C3 (Z col) H vs ds
 | .o c as dss=>as.Nodup/\Rws (λb=>col b=2*c+2/\C.H0 b=none) (Z col) H as dss
 | .w v d=>ThV (Le C) C.H0 v d
structure G9 (C:DC)(col:Addr->Nat)(ρ:!Sl)(σ:St)(P:!Pe)(H:Hp):Prop where
 fresh:∀b,H b=none->col b=0
 inF:∀b,col b=0->C.F b
 hnd:∀q,C.hand=some q->col q.1=1
 sl:∀i s,ρ[i]?=some s->SlR C col H i (σ[i]?).join s
 pd:∀p∈P,PeR C col H p
 kq:Kq C.hand C.H0 H
 hq:Hq C.hand H
 hq0:Hq C.hand C.H0
 nf:(∀b,C.H0 b=none->C.F b)/\∀b xs,C.H0 b=some (.tup xs)->C.F b
 len:ρ.length=σ.length
def Rel (C:DC)(ρ:!Sl)(σ:St)(P:!Pe)(H:Hp):Prop:=∃col,G9 C col ρ σ P H
variable {C:DC}
section
variable {col col':Addr->Nat}{ρ:!Sl}{σ:St}{P P':!Pe}{H H':Hp}{v:V}{d:PyData}{o:HO}{p:Addr}
theorem G9.notH (r:G9 C col ρ σ P H){b:Addr}(hb:col b≠1):∀q,C.hand=some q->b≠q.1:=λq hq e=>hb (e▸r.hnd q hq)
theorem G9.mv (r:G9 C col ρ σ P H)(k:Kq C.hand H H')(q:Hq C.hand H'):G9 C col ρ σ P H':=by
 have mv0:∀b o,Z col b->H b=some o->Z col b/\H' b=some o:=λb o z e=>⟨z,k b o e (r.notH (by rw[show col b=0 from z];decide))⟩;refine⟨λb e=>r.fresh b (k.fr q e),r.inF,r.hnd,λi s e=>?_,λp hp=>?_,r.kq.trans k,q,r.hq0,r.nf,r.len⟩
 ·have h:=r.sl i s e;cases s with
  | no=>trivial
  | sh d=>let⟨v,e1,t⟩:=h;exact⟨v,e1,t.mv mv0⟩
  | ow ds=>let⟨a,vs,e1,c,n,e2,t⟩:=h;exact⟨a,vs,e1,c,n,k a _ e2 (r.notH (by omega)),t.mv mv0⟩
  | bo ds=>let⟨a,vs,e1,c,n,e2,t⟩:=h;exact⟨a,vs,e1,c,n,k a _ e2 n,t.mv mv0⟩
  | hd=>exact h
  | o2 dss=>let⟨a,as,e1,c,e2,nd,t⟩:=h;exact⟨a,as,e1,c,k a _ e2 (r.notH (by omega)),nd,t.mv mv0 λb o g e=>⟨g,k b o e (r.notH (by have:=g.1;omega))⟩⟩
  | b2 dss=>let⟨a,as,e1,c,e2,t⟩:=h;exact⟨a,as,e1,c,k a _ e2 c.2,t.mv mv0 λb o g e=>⟨g,k b o e g.2⟩⟩
  | di f ks=>let⟨a,e1,c,n,e2⟩:=h;exact⟨a,e1,c,n,e2.mv λo e=>k a o e (r.notH (by omega))⟩
  | dm f ks=>let⟨a,e1,c,n,e2⟩:=h;exact⟨a,e1,c,n,e2.mv λo e=>k a o e (r.notH (by omega))⟩
  | bd d=>exact h
  | ot d=>let⟨v,e1,t⟩:=h;refine⟨v,e1,t.mv λb o g e=>?_⟩;have e':H' b=some o:=k b o e (r.notH (by rcases g with g | g <;> (have:=g.1;omega)));exact⟨g.imp id λ⟨c,xs,z⟩=>⟨c,xs,by rw[e] at z;rw[e'];exact z⟩,e'⟩
  | ob R=>let⟨v,e1,t⟩:=h;refine⟨v,e1,R.mv (λb o g e=>?_) t⟩;have e':H' b=some o:=k b o e (r.notH (by rcases g with g | g <;> (have:=g.1;omega)));exact⟨g.imp id λ⟨c,xs,z⟩=>⟨c,xs,by rw[e] at z;rw[e'];exact z⟩,e'⟩
 ·have h:=r.pd p hp;cases p with
  | v v d=>exact ThV.mv mv0 h
  | n a o=>exact⟨h.1,h.2.1,k a o h.2.2 h.2.1⟩
  | s vs ds=>exact C3.mv mv0 h
  | o c as dss=>exact⟨h.1,h.2.mv mv0 λb o g e=>⟨g,k b o e (r.notH (by have:=g.1;omega))⟩⟩
  | w v d=>exact h
theorem G9.lay (r:G9 C col ρ σ P H)(hp:H p=none):G9 C col ρ σ P (upd H p o):=r.mv (Kq.lay hp) (r.hq.lay hp)
theorem G9.add (r:G9 C col ρ σ P H){x:Pe}(t:PeR C col H x):G9 C col ρ σ (x::P) H:=
 { r with pd:=λp hp=>(K7.mp hp).elim (λe=>e▸t) (r.pd p) }
theorem G9.push (r:G9 C col ρ σ P H)(t:ThV (Z col) H v d):G9 C col ρ σ (.v v d::P) H:=r.add t
theorem G9.sub (r:G9 C col ρ σ P H)(h:∀p∈P',p∈P):G9 C col ρ σ P' H:={ r with pd:=λp hp=>r.pd p (h p hp) }
theorem Rel.sub (r:Rel C ρ σ P H)(h:∀p∈P',p∈P):Rel C ρ σ P' H:=let ⟨c,r⟩:=r;⟨c,r.sub h⟩
theorem Rel.pop {x:Pe}(r:Rel C ρ σ (x::P) H):Rel C ρ σ P H:=r.sub λJ h=>E3 _ h
theorem G9.tup {vs:!V}{ds:!PyData}(r:G9 C col ρ σ P H)(t:C3 (Z col) H vs ds)(hp:H p=none):G9 C col ρ σ (.v (.ref p) (.tuple ds)::P) (upd H p (.tup vs)):=
 (r.lay hp).push (.tup (r.fresh p hp) B9 (t.same ((Same.refl H).lay hp)))
theorem G9.lst {vs:!V}{ds:!PyData}(r:G9 C col ρ σ P H)(t:C3 (Z col) H vs ds)(hp:H p=none):G9 C col ρ σ (.v (.ref p) (.list ds)::P) (upd H p (.lst vs)):=
 (r.lay hp).push (.lst (r.fresh p hp) B9 (t.same ((Same.refl H).lay hp)))
theorem G9.recol (r:G9 C col ρ σ P H){ρ':!Sl}{σ':St}(hl:ρ'.length=σ'.length)(f:∀b,H b=none->col' b=0)(i:∀b,col' b=0->C.F b)(n:∀q,C.hand=some q->col' q.1=1)(z:∀b,col b=0->H b≠none->col' b=0)
  (lo:∀b,col b<=1->H b≠none->col' b<=1) (c2:∀b c,col b=2*c+2->col' b=2*c+2) (s:∀i s,ρ'[i]?=some s->SlR C col' H i (σ'[i]?).join s):G9 C col' ρ' σ' P H:=by
 have mv0:∀b o,Z col b->H b=some o->Z col' b/\H b=some o:=λb o zz e=>⟨z b zz (by rw[e];exact λq=>nomatch q),e⟩;refine⟨f,i,n,s,λp hp=>?_,r.kq,r.hq,r.hq0,r.nf,hl⟩;have h:=r.pd p hp;cases p with
 | v v d=>exact ThV.mv mv0 h
 | n a o=>exact⟨lo a h.1 (by rw[h.2.2];exact λq=>nomatch q),h.2⟩
 | s vs ds=>exact C3.mv mv0 h
 | o c as dss=>exact⟨h.1,h.2.mv mv0 λb o g e=>⟨⟨c2 b c g.1,g.2⟩,e⟩⟩
 | w v d=>exact h
theorem G9.freeze {i:Nat}{ds:!PyData}(r:G9 C col ρ σ P H)(e:ρ[i]?=some (.ow ds)) :
  ∃a,(σ[i]?).join=some (.ref a)/\Rel C (ρ.set i (.sh (.list ds))) σ (.v (.ref a) (.list ds)::P) H:=by
 let⟨a,vs,e1,c,n,e2,t⟩:=r.sl i _ e
 let col':Addr->Nat:=λb=>if b=a then 0 else col b
 have ca:col' a=0:=if_pos rfl;have cn:∀b,b≠a->col' b=col b:=λb hb=>if_neg hb;have z:∀b,col b=0->col' b=0:=λb hb=>by
  by_cases q:b=a
  ·rw[q];exact ca
  ·rw[cn b q];exact hb
 have mv0:∀b o,Z col b->H b=some o->Z col' b/\H b=some o:=λb o zz e=>⟨z b zz,e⟩;have T:ThV (Z col') H (.ref a) (.list ds):=.lst ca e2 (t.mv mv0);have R:G9 C col' (ρ.set i (.sh (.list ds))) σ P H:=by
  refine r.recol (by rw[j8];exact r.len) (λb hb=>z b (r.fresh b hb)) (λb hb=>?_) (λq hq=>?_) (λb hb J=>z b hb) (λb hb J=>?_) (λb c2 hb=>by rw[cn b (λq=>by rw[q] at hb;omega)];exact hb) λj s es=>?_
  ·by_cases q:b=a
   ·rw[q];exact r.nf.1 a n
   ·rw[cn b q] at hb;exact r.inF b hb
  ·rw[cn _ λq'=>by have:=r.hnd q hq;rw[q'] at this;omega];exact r.hnd q hq
  ·by_cases q:b=a
   ·rw[q,ca];omega
   ·rw[cn b q];exact hb
  ·by_cases hj:j=i
   ·subst hj;rw[A46] at es;simp only[if_true] at es;split at es
    ·cases es;exact⟨_,e1,T⟩
    ·cases es
   ·rw[A2e (Ne.symm hj)] at es;have h:=r.sl j s es;cases s with
    | no=>trivial
    | sh d=>let⟨v,e1,t⟩:=h;exact⟨v,e1,t.mv mv0⟩
    | ow ds=>let⟨a',vs',e1',c',n',e2',t'⟩:=h;exact⟨a',vs',e1',by rw[cn a' (λq=>by rw[q] at c';omega)];exact c',n',e2',t'.mv mv0⟩
    | bo ds=>let⟨a',vs',e1',c',n',e2',t'⟩:=h;exact⟨a',vs',e1',by by_cases q:a'=a;{ rw[q,ca];omega };{ rw[cn a' q];exact c' },n',e2',t'.mv mv0⟩
    | hd=>exact h
    | o2 dss=>let⟨a',as',e1',c',e2',nd',t'⟩:=h;exact⟨a',as',e1',⟨by rw[cn a' (λq=>by rw[q] at c';omega)];exact c'.1,c'.2⟩,e2',nd',t'.mv mv0 λb o g e=>⟨⟨by rw[cn b (λq=>by have:=g.1;rw[q] at this;omega)];exact g.1,g.2⟩,e⟩⟩
    | b2 dss=>let⟨a',as',e1',c',e2',t'⟩:=h;exact⟨a',as',e1',⟨by by_cases q:a'=a;{ rw[q,ca];omega };{ rw[cn a' q];exact c'.1 },c'.2⟩,e2',t'.mv mv0 λb o g e=>⟨⟨by by_cases q:b=a;{ rw[q,ca];omega };{ rw[cn b q];exact g.1 },g.2⟩,e⟩⟩
    | di f ks=>let⟨a',e1',c',n',e2'⟩:=h;exact⟨a',e1',by rw[cn a' (λq=>by rw[q] at c';omega)];exact c',n',e2'⟩
    | dm f ks=>let⟨a',e1',c',n',e2'⟩:=h;exact⟨a',e1',by rw[cn a' (λq=>by rw[q] at c';omega)];exact c',n',e2'⟩
    | bd d=>exact h
    | ot d=>let⟨v,e1',t'⟩:=h;exact⟨v,e1',t'.mv λb o g e=>⟨g.imp (λg=>⟨by rw[cn b (λq=>by rw[q] at g;have:=g.1;omega)];exact g.1,g.2⟩) λg=>⟨z b g.1,g.2⟩,e⟩⟩
    | ob R=>let⟨v,e1',t'⟩:=h;exact⟨v,e1',R.mv (λb o g e=>⟨g.imp (λg=>⟨by rw[cn b (λq=>by rw[q] at g;have:=g.1;omega)];exact g.1,g.2⟩) λg=>⟨z b g.1,g.2⟩,e⟩) t'⟩
 exact⟨a,e1,col',R.push T⟩
set_option tactic.hygienic true in
theorem G9.store {i:Nat}(r:G9 C col ρ σ P H)(t:ThV (Z col) H v d):G9 C col (ρ.set i (.sh d)) (σ.set i (some v)) P H:=by
 refine { r with sl:=λj s es=>?_,len:=by rw[j8,j8];exact r.len };by_cases hj:j=i
 ·subst hj;rw[A46] at es;simp only[if_true] at es;split at es
  ·rename_i hl;cases es;refine⟨v,?_,t⟩;rw[A46,if_pos rfl,if_pos (by rw[<-r.len];exact hl)];rfl
  ·cases es
 ·rw[A2e (Ne.symm hj)] at es;rw[A2e (Ne.symm hj)];exact r.sl j s es
set_option tactic.hygienic true in
theorem G9.own {i:Nat}{vs:!V}{ds:!PyData}(r:G9 C col ρ σ P H)(t:C3 (Z col) H vs ds)(hp:H p=none):Rel C (ρ.set i (.ow ds)) (σ.set i (some (.ref p))) P (upd H p (.lst vs)):=by
 let col':Addr->Nat:=λb=>if b=p then 2*i+3 else col b
 have ca:col' p=2*i+3:=if_pos rfl;have cn:∀b,b≠p->col' b=col b:=λb hb=>if_neg hb;have ne:∀b,H b≠none->b≠p:=λb hb q=>hb (q▸hp);have mv0:∀b o,Z col b->H b=some o->Z col' b/\upd H p (.lst vs) b=some o:=λb o zz e=>by
  have q:=ne b (by rw[e];exact λq=>nomatch q);exact⟨(cn b q).trans zz,by rw[C4 q];exact e⟩
 have r1:=r.lay (o:=.lst vs) hp;have c0:C.H0 p=none:=r.kq.fr r.hq hp;refine⟨col',λb hb=>?_,λb hb=>?_,λq hq=>?_,λj s es=>?_,λx hx=>?_,r1.kq,r1.hq,r.hq0,r.nf,by rw[j8,j8];exact r.len⟩
 ·have q:b≠p:=λq=>by rw[q,B9] at hb;cases hb
  rw[cn b q];exact r1.fresh b hb
 ·have q:b≠p:=λq=>by rw[q,ca] at hb;cases hb
  rw[cn b q] at hb;exact r.inF b hb
 ·let⟨o',e'⟩:=(r.hq q hq).at1;rw[cn _ (ne _ (by rw[e'];exact λq=>nomatch q))];exact r.hnd q hq
 ·by_cases hj:j=i
  ·subst hj;rw[A46] at es;simp only[if_true] at es;split at es
   ·rename_i hl;cases es;exact⟨p,vs,by rw[A46,if_pos rfl,if_pos (by rw[<-r.len];exact hl)];rfl,ca,c0,B9,t.mv mv0⟩
   ·cases es
  ·rw[A2e (Ne.symm hj)] at es;rw[A2e (Ne.symm hj)];have h:=r.sl j s es;cases s with
   | no=>trivial
   | sh d=>let⟨v,e1,t⟩:=h;exact⟨v,e1,t.mv mv0⟩
   | ow ds=>let⟨a',vs',e1',c',n',e2',t'⟩:=h;have q:=ne a' (by rw[e2'];exact λq=>nomatch q);exact⟨a',vs',e1',by rw[cn a' q];exact c',n',by rw[C4 q];exact e2',t'.mv mv0⟩
   | bo ds=>let⟨a',vs',e1',c',n',e2',t'⟩:=h;have q:=ne a' (by rw[e2'];exact λq=>nomatch q);exact⟨a',vs',e1',by rw[cn a' q];exact c',n',by rw[C4 q];exact e2',t'.mv mv0⟩
   | hd=>exact h
   | o2 dss=>
    let⟨a',as',e1',c',e2',nd',t'⟩:=h;have q:=ne a' (by rw[e2'];exact λq=>nomatch q);exact⟨a',as',e1',⟨by rw[cn a' q];exact c'.1,c'.2⟩,by rw[C4 q];exact e2',nd',t'.mv mv0 λb o g e=>by
     have q:=ne b (by rw[e];exact λq=>nomatch q);exact⟨⟨by rw[cn b q];exact g.1,g.2⟩,by rw[C4 q];exact e⟩⟩
   | b2 dss=>
    let⟨a',as',e1',c',e2',t'⟩:=h;have q:=ne a' (by rw[e2'];exact λq=>nomatch q);exact⟨a',as',e1',⟨by rw[cn a' q];exact c'.1,c'.2⟩,by rw[C4 q];exact e2',t'.mv mv0 λb o g e=>by
     have q:=ne b (by rw[e];exact λq=>nomatch q);exact⟨⟨by rw[cn b q];exact g.1,g.2⟩,by rw[C4 q];exact e⟩⟩
   | di f ks=>let⟨a',e1',c',n',e2'⟩:=h;have q:=ne a' e2'.ne;exact⟨a',e1',by rw[cn a' q];exact c',n',e2'.mv λo e=>by rw[C4 q];exact e⟩
   | dm f ks=>let⟨a',e1',c',n',e2'⟩:=h;have q:=ne a' e2'.ne;exact⟨a',e1',by rw[cn a' q];exact c',n',e2'.mv λo e=>by rw[C4 q];exact e⟩
   | bd d=>exact h
   | ot d=>
    let⟨v,e1',t'⟩:=h;exact⟨v,e1',t'.mv λb o g e=>by
     have q:=ne b (by rw[e];exact λq=>nomatch q);exact⟨g.imp (λg=>⟨by rw[cn b q];exact g.1,g.2⟩) λg=>⟨by rw[cn b q];exact g.1,by rw[C4 q];exact g.2⟩,by rw[C4 q];exact e⟩⟩
   | ob R=>
    let⟨v,e1',t'⟩:=h;exact⟨v,e1',R.mv (λb o g e=>by
     have q:=ne b (by rw[e];exact λq=>nomatch q);exact⟨g.imp (λg=>⟨by rw[cn b q];exact g.1,g.2⟩) λg=>⟨by rw[cn b q];exact g.1,by rw[C4 q];exact g.2⟩,by rw[C4 q];exact e⟩) t'⟩
 ·have h:=r.pd x hx;cases x with
  | v v d=>exact ThV.mv mv0 h
  | n a o=>have q:=ne a (by rw[h.2.2];exact λq=>nomatch q);exact⟨by rw[cn a q];exact h.1,h.2.1,by rw[C4 q];exact h.2.2⟩
  | s vs ds=>exact C3.mv mv0 h
  | o c as dss=>exact⟨h.1,h.2.mv mv0 λb o g e=>by
    have q:=ne b (by rw[e];exact λq=>nomatch q);exact⟨⟨by rw[cn b q];exact g.1,g.2⟩,by rw[C4 q];exact e⟩⟩
  | w v d=>exact h
theorem G9.write {i:Nat}{a:Addr}{ws:!V}{ds es:!PyData}(r:G9 C col ρ σ P H)(e:ρ[i]?=some (.ow ds))(ea:(σ[i]?).join=some (.ref a))(t:C3 (Z col) H ws es) :
  G9 C col (ρ.set i (.ow es)) σ P (upd H a (.lst ws)):=by
 let⟨a',vs',e1,c,n,e2,_⟩:=r.sl i _ e;rw[e1] at ea;cases ea;have ne:∀b,col b≠2*i+3->b≠a:=λb hb q=>hb (q▸c);have mv0:∀b o,Z col b->H b=some o->Z col b/\upd H a (.lst ws) b=some o:=λb o zz e=>⟨zz,by rw[C4 (ne b (by rw[show col b=0 from zz];omega))];exact e⟩;refine⟨λb hb=>?_,r.inF,r.hnd,λj s es'=>?_,λx hx=>?_,λb o e q=>?_,λq hq=>?_,r.hq0,r.nf,by rw[j8];exact r.len⟩
 ·by_cases q:b=a
  ·rw[q,B9] at hb;cases hb
  ·rw[C4 q] at hb;exact r.fresh b hb
 ·by_cases hj:j=i
  ·subst hj;rw[A46] at es';simp only[if_true] at es';split at es'
   ·cases es';exact⟨a,ws,e1,c,n,B9,t.mv mv0⟩
   ·cases es'
  ·rw[A2e (Ne.symm hj)] at es';have h:=r.sl j s es';cases s with
   | no=>trivial
   | sh d=>let⟨v,e1,t⟩:=h;exact⟨v,e1,t.mv mv0⟩
   | ow ds=>let⟨a',vs',e1',c',n',e2',t'⟩:=h;exact⟨a',vs',e1',c',n',by rw[C4 (ne a' (by omega))];exact e2',t'.mv mv0⟩
   | bo ds=>let⟨a',vs',e1',c',n',e2',t'⟩:=h;exact⟨a',vs',e1',c',n',by rw[C4 (ne a' (by omega))];exact e2',t'.mv mv0⟩
   | hd=>exact h
   | o2 dss=>let⟨a',as',e1',c',e2',nd',t'⟩:=h;exact⟨a',as',e1',c',by rw[C4 (ne a' (by omega))];exact e2',nd',t'.mv mv0 λb o g e=>⟨g,by rw[C4 (ne b (by have:=g.1;omega))];exact e⟩⟩
   | b2 dss=>let⟨a',as',e1',c',e2',t'⟩:=h;exact⟨a',as',e1',c',by rw[C4 (ne a' (by have:=c'.1;omega))];exact e2',t'.mv mv0 λb o g e=>⟨g,by rw[C4 (ne b (by have:=g.1;omega))];exact e⟩⟩
   | di f ks=>let⟨a',e1',c',n',e2'⟩:=h;exact⟨a',e1',c',n',e2'.mv λo e=>by rw[C4 (ne a' (by omega))];exact e⟩
   | dm f ks=>let⟨a',e1',c',n',e2'⟩:=h;exact⟨a',e1',c',n',e2'.mv λo e=>by rw[C4 (ne a' (by omega))];exact e⟩
   | bd d=>exact h
   | ot d=>
    let⟨v,e1',t'⟩:=h;exact⟨v,e1',t'.mv λb o g e=>by
     have q:=ne b (by rcases g with g | g <;> (have:=g.1;omega));exact⟨g.imp id λg=>⟨g.1,by rw[C4 q];exact g.2⟩,by rw[C4 q];exact e⟩⟩
   | ob R=>
    let⟨v,e1',t'⟩:=h;exact⟨v,e1',R.mv (λb o g e=>by
     have q:=ne b (by rcases g with g | g <;> (have:=g.1;omega));exact⟨g.imp id λg=>⟨g.1,by rw[C4 q];exact g.2⟩,by rw[C4 q];exact e⟩) t'⟩
 ·have h:=r.pd x hx;cases x with
  | v v d=>exact ThV.mv mv0 h
  | n b o=>exact⟨h.1,h.2.1,by rw[C4 (ne b (by have:=h.1;omega))];exact h.2.2⟩
  | s vs ds=>exact C3.mv mv0 h
  | o c as dss=>exact⟨h.1,h.2.mv mv0 λb o g e=>⟨g,by rw[C4 (ne b (by have:=g.1;omega))];exact e⟩⟩
  | w v d=>exact h
 ·have z:=r.kq b o e q;have q':b≠a:=λq'=>by rw[q',n] at e;cases e
  rw[C4 q'];exact z
 ·let⟨o1,h1⟩:=(r.hq0 q hq).at1;let⟨o2,h2⟩:=(r.hq0 q hq).at2;exact (r.hq q hq).wr (λz=>by rw[<-z,n] at h1;cases h1) (λz=>by rw[<-z,n] at h2;cases h2)
end
open Classical in
theorem G9.norm {C:DC}{col:Addr->Nat}{ρ:!Sl}{σ:St}{P:!Pe}{H:Hp}(r:G9 C col ρ σ P H):∃col',G9 C col' ρ σ P H/\∀b xs,H b=some (.tup xs)->col' b=0:=by
 let col':Addr->Nat:=λb=>if ∃xs,H b=some (.tup xs) then 0 else col b
 have ct:∀b xs,H b=some (.tup xs)->col' b=0:=λb xs e=>if_pos ⟨xs,e⟩;have cn:∀b,(∀xs,H b≠some (.tup xs))->col' b=col b:=λb h=>if_neg λ⟨xs,e⟩=>h xs e;have hl:∀b ys,H b=some (.lst ys)->col' b=col b:=λb ys e=>cn b λxs z=>by rw[e] at z;cases z
 have hd:∀q,C.hand=some q->∀xs,H q.1≠some (.tup xs):=λq hq xs z=>by
  let⟨_,_,_,_,_,_,_,_,e⟩:=r.hq q hq;rw[e] at z;cases z
 have z0:∀b,col b=0->col' b=0:=λb hb=>by
  by_cases h:∃xs,H b=some (.tup xs)
  ·exact if_pos h
  ·exact (if_neg h).trans hb
 have lo:∀b,col b<=1->col' b<=1:=λb hb=>by
  by_cases h:∃xs,H b=some (.tup xs)
  ·rw[show col' b=0 from if_pos h];omega
  ·rw[show col' b=col b from if_neg h];exact hb
 have mv0:∀b o,Z col b->H b=some o->Z col' b/\H b=some o:=λb o zz e=>⟨z0 b zz,e⟩;refine⟨col',⟨λb e=>z0 b (r.fresh b e),λb hb=>?_,λq hq=>(cn _ (hd q hq)).trans (r.hnd q hq),λi s e=>?_,λp hp=>?_,r.kq,r.hq,r.hq0,r.nf,r.len⟩,ct⟩
 ·by_cases h:∃xs,H b=some (.tup xs)
  ·let⟨xs,h⟩:=h;cases q:C.H0 b with
   | none=>exact r.nf.1 b q
   | some o=>have:=r.kq b o q λp hp e=>hd p hp xs (e▸h);rw[this] at h;cases h;exact r.nf.2 b xs q
  ·rw[show col' b=col b from if_neg h] at hb;exact r.inF b hb
 ·have h:=r.sl i s e;cases s with
  | no=>trivial
  | sh d=>let⟨v,e1,t⟩:=h;exact⟨v,e1,t.mv mv0⟩
  | ow ds=>let⟨a,vs,e1,c,n,e2,t⟩:=h;exact⟨a,vs,e1,(hl a _ e2).trans c,n,e2,t.mv mv0⟩
  | bo ds=>let⟨a,vs,e1,c,n,e2,t⟩:=h;exact⟨a,vs,e1,lo a c,n,e2,t.mv mv0⟩
  | hd=>exact h
  | o2 dss=>let⟨a,as,e1,c,e2,nd,t⟩:=h;exact⟨a,as,e1,⟨(hl a _ e2).trans c.1,c.2⟩,e2,nd,t.mvl mv0 λb ys g e=>⟨⟨(hl b _ e).trans g.1,g.2⟩,e⟩⟩
  | b2 dss=>let⟨a,as,e1,c,e2,t⟩:=h;exact⟨a,as,e1,⟨lo a c.1,c.2⟩,e2,t.mvl mv0 λb ys g e=>⟨⟨lo b g.1,g.2⟩,e⟩⟩
  | di f ks=>
   let⟨a,e1,c,n,e2⟩:=h;refine⟨a,e1,(cn a λxs z=>?_).trans c,n,e2⟩;cases f with
   | false=>rw[show H a=_ from e2] at z;cases z
   | true=>let⟨o,e2⟩:=e2;rw[e2] at z;cases z
  | dm f ks=>
   let⟨a,e1,c,n,e2⟩:=h;refine⟨a,e1,(cn a λxs z=>?_).trans c,n,e2⟩;cases f with
   | false=>rw[show H a=_ from e2] at z;cases z
   | true=>let⟨o,e2⟩:=e2;rw[e2] at z;cases z
  | bd d=>exact h
  | ot d=>
   let⟨v,e1,t⟩:=h;refine⟨v,e1,t.mv λb o g e=>⟨?_,e⟩⟩;by_cases q:∃xs,H b=some (.tup xs)
   ·let⟨xs,q⟩:=q;exact .inr ⟨ct b xs q,xs,q⟩
   ·rcases g with g | g
    ·exact .inl ⟨(if_neg q).trans g.1,g.2⟩
    ·exact absurd g.2 q
  | ob R=>
   let⟨v,e1,t⟩:=h;refine⟨v,e1,R.mv (λb o g e=>⟨?_,e⟩) t⟩;by_cases q:∃xs,H b=some (.tup xs)
   ·let⟨xs,q⟩:=q;exact .inr ⟨ct b xs q,xs,q⟩
   ·rcases g with g | g
    ·exact .inl ⟨(if_neg q).trans g.1,g.2⟩
    ·exact absurd g.2 q
 ·have h:=r.pd p hp;cases p with
  | v v d=>exact ThV.mv mv0 h
  | n a o=>exact⟨lo a h.1,h.2⟩
  | s vs ds=>exact C3.mv mv0 h
  | o c as dss=>exact⟨h.1,h.2.mvl mv0 λb ys g e=>⟨⟨(hl b _ e).trans g.1,g.2⟩,e⟩⟩
  | w v d=>exact h
inductive Pds (P:!Pe):!V->!PyData->Prop
 | nil:Pds P [] []
 | cons {v d vs ds}:Pe.v v d∈P->Pds P vs ds->Pds P (v::vs) (d::ds)
theorem Pds.th {C:DC}{col:Addr->Nat}{ρ:!Sl}{σ:St}{P:!Pe}{H:Hp}(r:G9 C col ρ σ P H):∀{vs:!V}{ds:!PyData},Pds P vs ds->C3 (Z col) H vs ds
 | _,_,.nil=>.nil
 | _,_,.cons h t=>.cons (r.pd _ h) (Pds.th r t)
abbrev DE:=!Sl->(PyData->!Sl->Prop)->Prop
abbrev DT:=!Sl->(Bool->!Sl->Prop)->Prop
abbrev DF:=!Sl->(!PyData->!Sl->Prop)->Prop
def eOf (C:DC)(t:DE):TE:=fun σ H Q=>∃ρ P Qd,Rel C ρ σ P H/\t ρ Qd/\∀v d ρ' H',Rel C ρ' σ (.v v d::P) H'->Qd d ρ'->Q v H'
def cOf (C:DC)(t:DT):TT:=fun σ H Q=>∃ρ P Qd,Rel C ρ σ P H/\t ρ Qd/\∀b ρ' H',Rel C ρ' σ P H'->Qd b ρ'->Q b H'
def fOf (C:DC)(t:DF):TE:=fun σ H Q=>∃ρ P Qd,Rel C ρ σ P H/\t ρ Qd/\∀p vs ds ρ' H1,(∃col,G9 C col ρ' σ P H1/\C3 (Z col) H1 vs ds)->H1 p=none->Qd ds ρ'->Q (.ref p) (upd H1 p (.lst vs))
def vOf (C:DC)(t:DF):TA:=fun σ H Q=>∃ρ P Qd,Rel C ρ σ P H/\t ρ Qd/\∀vs ds ρ' P' H',Rel C ρ' σ P' H'->(∀p∈P,p∈P')->Pds P' vs ds->Qd ds ρ'->Q vs H'
def bnd {α:Type}(o:Option α)(Q:α->Prop):Prop:=match o with
 | some a=>Q a
 | none=>False
theorem P3 {α:Type}{o:Option α}{Q:α->Prop}(h:bnd o Q):∃a,o=some a/\Q a:=by
 cases o with
 | none=>exact h.elim
 | some a=>exact⟨a,rfl,h⟩
variable {X:Cx}{a:Expr}{ta tb:DE}{pos:Pos}
section
theorem PE.wk {e:Expr}{t t':TE}(h:PE X e t)(f:∀σ H Q,t' σ H Q->t σ H Q):PE X e t':=λpins s σ H Q I q=>h pins s σ H Q I (f σ H Q q)
theorem PT.wk {e:Expr}{t t':TT}(h:PT X e t)(f:∀σ H Q,t' σ H Q->t σ H Q):PT X e t':=λpins s σ H Q I q=>h pins s σ H Q I (f σ H Q q)
theorem PW.wk {e:Expr}{t t':TT}(h:PW X e t)(f:∀σ H Q,t' σ H Q->t σ H Q):PW X e t':=λwh pins s σ H Q I q=>h wh pins s σ H Q I (f σ H Q q)
theorem PA.wk {es:!Expr}{t t':TA}(h:PA X es t)(f:∀σ H Q,t' σ H Q->t σ H Q):PA X es t':=λpos pins s σ H Q I q=>h pos pins s σ H Q I (f σ H Q q)
theorem PO.wk {e:Option Expr}{t t':TO}(h:PO X e t)(f:∀σ H Q,t' σ H Q->t σ H Q):PO X e t':=λpins s σ H Q I q=>h pins s σ H Q I (f σ H Q q)
def dC (d:PyData)  (ρ:!Sl) (Q:PyData->!Sl->Prop):Prop:=Q d ρ
theorem A72 {e:Expr}{v:V}{d:PyData}(h:PE X e (tC v))(t:∀F H,ThV F H v d):PE X e (eOf C (dC d)):=PE.wk h λJ J J zz1=>el3 zz1 λJ J J zz2 ht k=>zz2.elim λcol r=>k _ _ _ _ ⟨col,r.push (t _ _)⟩ ht
theorem F0 {i j pos}:PE X (.Constant (.int i) j pos) (eOf C (dC (.int i))):=A72 B4 λJ J=>.int i
theorem C2x {b j pos}:PE X (.Constant (.bool b) j pos) (eOf C (dC (.bool b))):=A72 A48 λJ J=>.bl b
theorem P4 {j pos}:PE X (.Constant .none j pos) (eOf C (dC .none)):=A72 A1x λJ J=>.non
theorem C2y {x j pos}:PE X (.Constant (.str x) j pos) (eOf C (dC (.str x))):=A72 F9 λJ J=>.str x
theorem E8 {e:Expr}{i:Int}(h:PE X e (tC (.int i))):PE X e (eOf C (dC (.int i))):=A72 h λJ J=>.int i
theorem D1x {e:Expr}{x:Str}(h:PE X e (tC (.str x))):PE X e (eOf C (dC (.str x))):=A72 h λJ J=>.str x
theorem P5 {α:Type}{o:Option (Option α)}{v:α}(h:o.join=some v):o=some (some v):=by
 cases o with
 | none=>cases h
 | some q=>exact congrArg some h
def A3x (i:Nat)  (ρ:!Sl) (Q:PyData->!Sl->Prop):Prop:=match ρ[i]? with
 | some (.sh d)=>Q d ρ
 | some (.ow ds)=>Q (.list ds) (ρ.set i (.sh (.list ds)))
 | _=>False
set_option tactic.hygienic true in
theorem A6 {e:Expr}{i:Nat}(h:PE X e (A0g i)):PE X e (eOf C (A3x i)):=PE.wk h fun σ H Q zz3=>el3 zz3 fun ρ P Qd zz4 ht k=>zz4.elim λcol r=>by
 unfold A3x at ht;split at ht
 ·rename_i d e;let⟨v,e1,t⟩:=r.sl i _ e;exact⟨v,P5 e1,k _ _ _ _ ⟨col,r.push t⟩ ht⟩
 ·rename_i ds e;let⟨a,e1,R⟩:=r.freeze e;exact⟨_,P5 e1,k _ _ _ _ R ht⟩
 ·exact ht.elim
def X0 (ρ:!Sl)(i:Nat):Option PyData:=match ρ[i]? with
 | some (.sh d)=>some d
 | some (.ow ds)=>some (.list ds)
 | some (.bo ds)=>some (.list ds)
 | _=>none
inductive Red (col:Addr->Nat)(H:Hp):V->PyData->Prop
 | th {v d}:ThV (Z col) H v d->Red col H v d
 | ls {a vs ds}:H a=some (.lst vs)->C3 (Z col) H vs ds->Red col H (.ref a) (.list ds)
set_option tactic.hygienic true in
theorem G9.slot {col:Addr->Nat}{ρ:!Sl}{σ:St}{P:!Pe}{H:Hp}(r:G9 C col ρ σ P H){i:Nat}{d:PyData}(h:X0 ρ i=some d):∃v,σ[i]?=some (some v)/\Red col H v d:=by
 unfold X0 at h;split at h
 ·rename_i d' e;cases h;let⟨v,e1,t⟩:=r.sl i _ e;exact⟨v,P5 e1,.th t⟩
 ·rename_i ds e;cases h;let⟨a,vs,e1,_,_,e2,t⟩:=r.sl i _ e;exact⟨_,P5 e1,.ls e2 t⟩
 ·rename_i ds e;cases h;let⟨a,vs,e1,_,_,e2,t⟩:=r.sl i _ e;exact⟨_,P5 e1,.ls e2 t⟩
 ·cases h
theorem Red.lst {col:Addr->Nat}{H:Hp}{v:V}{ds:!PyData}(h:Red col H v (.list ds)):∃a vs,v=.ref a/\H a=some (.lst vs)/\C3 (Z col) H vs ds:=by
 cases h with
 | th t=>cases t with
  | lst _ e t=>exact⟨_,_,rfl,e,t⟩
 | ls e t=>exact⟨_,_,rfl,e,t⟩
theorem Red.tup {col:Addr->Nat}{H:Hp}{v:V}{ds:!PyData}(h:Red col H v (.tuple ds)):∃a vs,v=.ref a/\H a=some (.tup vs)/\C3 (Z col) H vs ds:=by
 cases h with
 | th t=>cases t with
  | tup _ e t=>exact⟨_,_,rfl,e,t⟩
abbrev G2:=PyData->PyData->(PyData->Prop)->Prop
def X1 (C:DC)(r:R2)(g:G2):Prop:=
 ∀{ρ:!Sl}{σ:St}{P:!Pe}{H:Hp}{v w:V}{a b:PyData}{Qd:PyData->Prop}{Q:VK},Rel C ρ σ (.v w b::.v v a::P) H->g a b Qd->(∀u d H',Rel C ρ σ (.v u d::P) H'->Qd d->Q u H')->r v w H Q
def dOp (g:G2)(ta tb:DE)  (ρ:!Sl) (Q:PyData->!Sl->Prop):Prop:=ta ρ λa ρ1=>tb ρ1 λb ρ2=>g a b λd=>Q d ρ2
theorem B5i {r:R2}{g:G2}{ta tb:DE}(hg:X1 C r g){σ:St}{H:Hp}{Q:VK}(h:eOf C (dOp g ta tb) σ H Q):tOp r (eOf C ta) (eOf C tb) σ H Q:=by
 let⟨ρ,P,Qd,R,ht,k⟩:=h;exact⟨ρ,P,_,R,ht,λv a ρ1 H1 R1 h1=>⟨ρ1,_,_,R1,h1,λw b ρ2 H2 R2 h2=>hg R2 h2 λu d H' R' q=>k u d ρ2 H' R' q⟩⟩
variable {b:Expr}
theorem L5 {op:Operator}{r:R2}{g:G2}(ho:OpR X (binaryOp op) r)(hg:X1 C r g)(ha:PE X a (eOf C ta))(hb:PE X b (eOf C tb)):PE X (.BinOp a op b pos) (eOf C (dOp g ta tb)):=PE.wk (F5 ho ha hb) λJ J J h=>B5i hg h
theorem A1i {op:CmpOp}{r:R2}{g:G2}(ho:OpR X (compareOp op) r)(hg:X1 C r g)(ha:PE X a (eOf C ta))(hb:PE X b (eOf C tb))(hm:behindInMarks op b=false):PE X (.Compare a [op] [b] pos) (eOf C (dOp g ta tb)):=PE.wk (A3s ho ha hb hm) λJ J J h=>B5i hg h
def dT (t:DE)  (ρ:!Sl) (Q:Bool->!Sl->Prop):Prop:=t ρ λd ρ'=>match d with
 | .bool b=>Q b ρ'
 | _=>False
theorem B5j {t:DE}{σ:St}{H:Hp}{Q:Bool->Hp->Prop}(h:cOf C (dT t) σ H Q):eOf C t σ H λx H'=>∃k,x=.bl k/\Q k H':=by
 let⟨ρ,P,Qd,R,ht,k⟩:=h;refine⟨ρ,P,_,R,ht,λv d ρ' H' R' q=>?_⟩;split at q
 ·let⟨col,r⟩:=R';have t:=r.pd _ E5;cases (show ThV (Z col) H' v (.bool _) from t);exact⟨_,rfl,k _ _ _ (Rel.pop ⟨col,r⟩) q⟩
 ·exact q.elim
theorem A2t {e:Expr}{t:DE}(h:PE X e (eOf C t))(he:autoParam (∀whole,isTrue e X.env whole=(do let v <-whole;standAt e.pos;holding [v] (truthy v))) A2P._auto_1):PT X e (cOf C (dT t)):=PT.wk (W6 h he) λJ J J h=>B5j h
theorem P6 {op:CmpOp}{r:R2}{g:G2}(ho:OpR X (compareOp op) r)(hg:X1 C r g)(ha:PE X a (eOf C ta))(hb:PE X b (eOf C tb))(hm:behindInMarks op b=false):PT X (.Compare a [op] [b] pos) (cOf C (dT (dOp g ta tb))):=
 PT.wk (P9 ho ha hb hm) fun σ H Q h=>B5i hg (B5j h)
def A5m (t:DT)  (ρ:!Sl) (Q:Bool->!Sl->Prop):Prop:=t ρ λb ρ'=>Q (not b) ρ'
theorem A5n {t:DT}(h:PT X a (cOf C t)):PT X (.UnaryOp .Not a pos) (cOf C (A5m t)):=PT.wk (U8 h) λJ J J zz5=>el3 zz5 fun ρ P J R ht k=>⟨ρ,P,_,R,ht,λb ρ' H' R' q=>k _ _ _ R' q⟩
def A5o (t u:DT)  (ρ:!Sl) (Q:Bool->!Sl->Prop):Prop:=t ρ λb ρ'=>if b=true then u ρ' Q else Q false ρ'
def dOr (t u:DT)  (ρ:!Sl) (Q:Bool->!Sl->Prop):Prop:=t ρ λb ρ'=>if b=true then Q true ρ' else u ρ' Q
variable {t u:DT}{V6:!Expr}
theorem B5k (h:PT X a (cOf C t)):PW X (.BoolOp .And [a] pos) (cOf C t):=B1q h
theorem A73 (h:PT X a (cOf C t)):PW X (.BoolOp .Or [a] pos) (cOf C t):=A3o h
theorem B5l (ha:PT X a (cOf C t))(hb:PW X (.BoolOp .And (b::V6) pos) (cOf C u)):PW X (.BoolOp .And (a::b::V6) pos) (cOf C (A5o t u)):=PW.wk (B1r ha hb) λJ J J zz6=>el3 zz6 fun ρ P Qd R ht k=>
 ⟨ρ,P,_,R,ht,λb ρ' H' R' q=>by
  cases b with
  | true=>exact⟨ρ',P,Qd,R',by simpa using q,k⟩
  | false=>exact k _ _ _ R' (by simpa using q)⟩
theorem A5p (ha:PT X a (cOf C t))(hb:PW X (.BoolOp .Or (b::V6) pos) (cOf C u)):PW X (.BoolOp .Or (a::b::V6) pos) (cOf C (dOr t u)):=PW.wk (A3p ha hb) λJ J J zz7=>el3 zz7 fun ρ P Qd R ht k=>
 ⟨ρ,P,_,R,ht,λb ρ' H' R' q=>by
  cases b with
  | true=>exact k _ _ _ R' (by simpa using q)
  | false=>exact⟨ρ',P,Qd,R',by simpa using q,k⟩⟩
def dBV (t:DE)(f:Bool->!Sl->Prop)  (ρ:!Sl):Prop:=t ρ λd ρ'=>match d with
 | .bool b=>f b ρ'
 | _=>False
def A5q (ta tb:DE)  (ρ:!Sl) (Q:PyData->!Sl->Prop):Prop:=dBV ta (λb ρ'=>if b=true then tb ρ' Q else Q (.bool false) ρ') ρ
def A5r (ta tb:DE)  (ρ:!Sl) (Q:PyData->!Sl->Prop):Prop:=dBV ta (λb ρ'=>if b=true then Q (.bool true) ρ' else tb ρ' Q) ρ
def A5s (ta:DE)  (ρ:!Sl) (Q:PyData->!Sl->Prop):Prop:=dBV ta (λb ρ'=>Q (.bool (not b)) ρ') ρ
theorem B5m {f:Bool->!Sl->Prop}{ρ:!Sl}{σ:St}{P:!Pe}{H:Hp}{Q:VK}(R:Rel C ρ σ P H)(ht:dBV ta f ρ)(k:∀c ρ' H',Rel C ρ' σ P H'->f c ρ'->Q (.bl c) H'):eOf C ta σ H Q:=by
 refine⟨ρ,P,_,R,ht,λv d ρ' H' R' q=>?_⟩;split at q
 ·let⟨col,r⟩:=R';have t:=r.pd _ E5;cases (show ThV (Z col) H' v (.bool _) from t);exact k _ _ _ (Rel.pop ⟨col,r⟩) q
 ·exact q.elim
theorem A0k {op}(h:PE X a (eOf C ta)):PE X (.BoolOp op [a] pos) (eOf C ta):=B1s h
theorem A1j (ha:PE X a (eOf C ta))(hb:PE X (.BoolOp .And (b::V6) pos) (eOf C tb)):PE X (.BoolOp .And (a::b::V6) pos) (eOf C (A5q ta tb)):=PE.wk (B4u ha hb) λJ J J zz8=>el3 zz8 λJ P Qd R ht k=>
 B5m R ht λc ρ' H' R' q=>⟨c,rfl,by
  cases c with
  | true=>exact L4 ⟨ρ',P,Qd,R',by simpa using q,k⟩
  | false=>
   let⟨col,r⟩:=R';exact G5 (k _ _ _ _ ⟨col,r.push (.bl false)⟩ (by simpa using q))⟩
theorem B5n (ha:PE X a (eOf C ta))(hb:PE X (.BoolOp .Or (b::V6) pos) (eOf C tb)):PE X (.BoolOp .Or (a::b::V6) pos) (eOf C (A5r ta tb)):=PE.wk (C05 ha hb) λJ J J zz9=>el3 zz9 λJ P Qd R ht k=>
 B5m R ht λc ρ' H' R' q=>⟨c,rfl,by
  cases c with
  | true=>let⟨col,r⟩:=R';exact L4 (k _ _ _ _ ⟨col,r.push (.bl true)⟩ (by simpa using q))
  | false=>exact G5 ⟨ρ',P,Qd,R',by simpa using q,k⟩⟩
theorem D1y (ha:PE X a (eOf C ta)):PE X (.UnaryOp .Not a pos) (eOf C (A5s ta)):=PE.wk (C9b ha) λJ J J zz10=>el3 zz10 λJ J J R ht k=>
 B5m R ht λc ρ' H' zz11 q=>zz11.elim λcol r=>⟨c,rfl,k _ _ _ _ ⟨col,r.push (.bl _)⟩ q⟩
def A5t (ta:DE)  (ρ:!Sl) (Q:PyData->!Sl->Prop):Prop:=ta ρ λd ρ'=>match d with
 | .int i=>Q (.int (-i)) ρ'
 | _=>False
theorem A0l (ha:PE X a (eOf C ta)):PE X (.UnaryOp .USub a pos) (eOf C (A5t ta)):=PE.wk (C9q C9r ha) λJ J J zz12=>el3 zz12 fun ρ P J R ht k=>⟨ρ,P,_,R,ht,λv d ρ' H' R' q=>by
 split at q
 ·let⟨col,r⟩:=R';have t:=r.pd _ E5;cases (show ThV (Z col) H' v (.int _) from t);exact⟨_,rfl,k _ _ _ _ ⟨col,(r.sub λJ h=>E3 _ h).push (.int _)⟩ q⟩
 ·exact q.elim⟩
def dIf (c:DT)(ta tb:DE)  (ρ:!Sl) (Q:PyData->!Sl->Prop):Prop:=c ρ λb ρ'=>if b=true then ta ρ' Q else tb ρ' Q
theorem C2z {c:Expr}(hc:PT X c (cOf C t))(ha:PE X a (eOf C ta))(hb:PE X b (eOf C tb)):PE X (.IfExp c a b pos) (eOf C (dIf t ta tb)):=PE.wk (A7q hc ha hb) λJ J J zz13=>el3 zz13 fun ρ P Qd R ht k=>
 ⟨ρ,P,_,R,ht,λb ρ' H' R' q=>by
  cases b with
  | true=>exact L4 ⟨ρ',P,Qd,R',by simpa using q,k⟩
  | false=>exact G5 ⟨ρ',P,Qd,R',by simpa using q,k⟩⟩
def A2u (g g':G2)(ta tb tc:DE)  (ρ:!Sl) (Q:PyData->!Sl->Prop):Prop:=ta ρ λa ρ1=>tb ρ1 λb ρ2=>g a b λz=>match z with
 | .bool k=>if k=true then tc ρ2 λc ρ3=>g' b c λd=>Q d ρ3 else Q (.bool false) ρ2
 | _=>False
end
def gI (c:Int->Int->Prop)(f:Int->Int->PyData)  (a b:PyData) (Q:PyData->Prop):Prop:=match a,b with
 | .int i,.int j=>c i j/\Q (f i j)
 | _,_=>False
def gI0 (f:Int->Int->PyData)  (a b:PyData) (Q:PyData->Prop):Prop:=match a,b with
 | .int i,.int j=>Q (f i j)
 | _,_=>False
theorem th2 {ρ:!Sl}{σ:St}{P:!Pe}{H:Hp}{v w:V}{a b:PyData}(r:Rel C ρ σ (.v w b::.v v a::P) H):∃col,G9 C col ρ σ P H/\ThV (Z col) H v a/\ThV (Z col) H w b:=by
 let⟨col,r⟩:=r;exact⟨col,r.sub λJ h=>E3 _ (E3 _ h),r.pd _ (E3 _ E5),r.pd _ E5⟩
theorem A74 {f:Int->Int->V}{g:Int->Int->PyData}(h:∀i j F H,ThV F H (f i j) (g i j)):X1 C (rI0 f) (gI0 g):=by
 intro ρ σ P H v w a b Qd Q R hg k;unfold gI0 at hg;split at hg
 ·let⟨col,r,t1,t2⟩:=th2 R;cases t1;cases t2;exact⟨_,_,rfl,rfl,k _ _ _ ⟨col,r.push (h _ _ _ _)⟩ hg⟩
 ·exact hg.elim
theorem B2b {c:Int->Int->Prop}{f:Int->Int->V}{g:Int->Int->PyData}(h:∀i j F H,ThV F H (f i j) (g i j)):X1 C (rI c f) (gI c g):=by
 intro ρ σ P H v w a b Qd Q R hg k;unfold gI at hg;split at hg
 ·let⟨col,r,t1,t2⟩:=th2 R;cases t1;cases t2;exact⟨_,_,rfl,rfl,hg.1,k _ _ _ ⟨col,r.push (h _ _ _ _)⟩ hg.2⟩
 ·exact hg.elim
def A5u:G2:=gI0 λi j=>.int (i+j)
def A5v:G2:=gI0 λi j=>.int (i-j)
def A5w:G2:=gI A9r λi j=>.int (i*j)
def A5x:G2:=gI (λJ j=>0<j) λi j=>.int (i%j)
def A5y:G2:=gI B5b λi j=>.int (i/j)
def A5z:G2:=gI B4z λi j=>.int (i^j.toNat)
def gLt:G2:=gI0 λi j=>.bool (decide (i<j))
def gLe:G2:=gI0 λi j=>.bool (decide (i<=j))
def gGt:G2:=gI0 λi j=>.bool (decide (j<i))
def gGe:G2:=gI0 λi j=>.bool (decide (j<=i))
theorem Y0:X1 C (rI0 (λi j=>.int (i+j))) A5u:=A74 (f:=λi j=>.int (i+j)) λJ J J J=>.int _
theorem B2c:X1 C (rI0 (λi j=>.int (i-j))) A5v:=A74 (f:=λi j=>.int (i-j)) λJ J J J=>.int _
theorem B2d:X1 C (rI A9r (λi j=>.int (i*j))) A5w:=B2b (f:=λi j=>.int (i*j)) λJ J J J=>.int _
theorem D1z:X1 C (rI (λJ j=>0<j) (λi j=>.int (i%j))) A5x:=B2b (f:=λi j=>.int (i%j)) λJ J J J=>.int _
theorem C20:X1 C (rI B5b (λi j=>.int (i/j))) A5y:=B2b (f:=λi j=>.int (i/j)) λJ J J J=>.int _
theorem A11:X1 C (rI B4z (λi j=>.int (i^j.toNat))) A5z:=B2b (f:=λi j=>.int (i^j.toNat)) λJ J J J=>.int _
theorem A75:X1 C (rI0 (λi j=>.bl (decide (i<j)))) gLt:=A74 (f:=λi j=>.bl (decide (i<j))) λJ J J J=>.bl _
theorem C21:X1 C (rI0 (λi j=>.bl (decide (i<=j)))) gLe:=A74 (f:=λi j=>.bl (decide (i<=j))) λJ J J J=>.bl _
theorem A76:X1 C (rI0 (λi j=>.bl (decide (j<i)))) gGt:=A74 (f:=λi j=>.bl (decide (j<i))) λJ J J J=>.bl _
theorem D10:X1 C (rI0 (λi j=>.bl (decide (j<=i)))) gGe:=A74 (f:=λi j=>.bl (decide (j<=i))) λJ J J J=>.bl _
def gEq (neg:Bool)  (a b:PyData) (Q:PyData->Prop):Prop:=a.canLay0=true/\b.canLay0=true/\min a.depth b.depth<=64/\Q (.bool (if neg then not (PyData.eqv a b) else PyData.eqv a b))
theorem A2v {K:A8}{neg:Bool}:X1 C (B5e K neg) (gEq neg):=by
 intro ρ σ P H v w a b Qd Q R hg k;let⟨col,r,t1,t2⟩:=th2 R;exact⟨a,b,t1.dat hg.1,t2.dat hg.2.1,hg.1,hg.2.1,hg.2.2.1,k _ _ _ ⟨col,r.push (.bl _)⟩ hg.2.2.2⟩
def isN:PyData->Bool
 | .none=>true
 | _=>false
def A12 (neg:Bool)  (a b:PyData) (Q:PyData->Prop):Prop:=match b with
 | .none=>Q (.bool (if neg then not (isN a) else isN a))
 | _=>False
theorem C22 {F:Addr->Prop}{H:Hp}{v:V}{a:PyData}(t:ThV F H v a):decide (v=V.non)=isN a:=by
 cases t <;> simp [isN]
theorem A2w:X1 C (λx y H Q=>y=.non/\Q (.bl (decide (x=.non))) H) (A12 false):=by
 intro ρ σ P H v w a b Qd Q R hg k;unfold A12 at hg;split at hg
 ·let⟨col,r,t1,t2⟩:=th2 R;cases t2;refine⟨rfl,k _ _ _ ⟨col,r.push (d:=.bool (isN a)) ?_⟩ hg⟩;rw[C22 t1];exact .bl _
 ·exact hg.elim
theorem A50:X1 C (λx y H Q=>y=.non/\Q (.bl (not (decide (x=.non)))) H) (A12 true):=by
 intro ρ σ P H v w a b Qd Q R hg k;unfold A12 at hg;split at hg
 ·let⟨col,r,t1,t2⟩:=th2 R;cases t2;refine⟨rfl,k _ _ _ ⟨col,r.push (d:=.bool (not (isN a))) ?_⟩ hg⟩;rw[C22 t1];exact .bl _
 ·exact hg.elim
section
variable {b c:Expr}{tc:DE}
theorem C23 {f f':Int->Int->Bool}{σ:St}{H:Hp}{Q:VK}(h:eOf C (A2u (gI0 λi j=>.bool (f i j)) (gI0 λi j=>.bool (f' i j)) ta tb tc) σ H Q) :
  B41 (rI0 λi j=>.bl (f i j)) (rI0 λi j=>.bl (f' i j)) (eOf C ta) (eOf C tb) (eOf C tc) σ H Q:=by
 let⟨ρ,P,Qd,R,ht,k⟩:=h;exact⟨ρ,P,_,R,ht,λv x ρ1 H1 R1 h1=>⟨ρ1,_,_,R1,h1,λw y ρ2 H2 R2 h2=>by
  let⟨col,r,t1,t2⟩:=th2 R2;cases x with
  | int i=>
   cases y with
   | int j=>
    cases t1;cases t2;exists i,j,rfl,rfl,f i j,rfl;have h2':if f i j=true then tc ρ2 (λc ρ3=>gI0 (λi j=>.bool (f' i j)) (.int j) c λd=>Qd d ρ3) else Qd (.bool false) ρ2:=h2
    cases e:f i j with
    | true=>
     rw[e] at h2';refine L4 ⟨ρ2,P,_,⟨col,r⟩,by simpa using h2',λu z ρ3 H3 R3 h3=>?_⟩;let⟨col3,r3⟩:=R3;have t3:=r3.pd _ E5;cases z with
     | int l=>cases (show ThV (Z col3) H3 u (.int l) from t3);exact⟨j,l,rfl,rfl,k _ _ _ _ ⟨col3,(r3.sub λJ h=>E3 _ h).push (.bl _)⟩ h3⟩
     | _=>exact h3.elim
    | false=>rw[e] at h2';exact G5 (k _ _ _ _ ⟨col,r.push (.bl false)⟩ (by simpa using h2'))
   | _=>exact h2.elim
  | _=>exact h2.elim⟩⟩
theorem A90 {op op':CmpOp}{f f':Int->Int->Bool}(ho:OpR X (compareOp op) (rI0 λi j=>.bl (f i j)))(ho':OpR X (compareOp op') (rI0 λi j=>.bl (f' i j)))(ha:PE X a (eOf C ta))(hb:PE X b (eOf C tb))(hc:PE X c (eOf C tc))
  (hm:autoParam (lastMarks [op,op'] [b,c]=false) A4P._auto_1):PE X (.Compare a [op,op'] [b,c] pos) (eOf C (A2u (gI0 λi j=>.bool (f i j)) (gI0 λi j=>.bool (f' i j)) ta tb tc)):=PE.wk (C9t ho ho' ha hb hc hm) λJ J J h=>C23 h
theorem D11 {op op':CmpOp}{f f':Int->Int->Bool}(ho:OpR X (compareOp op) (rI0 λi j=>.bl (f i j)))(ho':OpR X (compareOp op') (rI0 λi j=>.bl (f' i j)))(ha:PE X a (eOf C ta))(hb:PE X b (eOf C tb))(hc:PE X c (eOf C tc))
  (hm:autoParam (lastMarks [op,op'] [b,c]=false) A4P._auto_1):PT X (.Compare a [op,op'] [b,c] pos) (cOf C (dT (A2u (gI0 λi j=>.bool (f i j)) (gI0 λi j=>.bool (f' i j)) ta tb tc))):=PT.wk (B1x ho ho' ha hb hc hm) λJ J J h=>C23 (B5j h)
end
variable {e:Expr}{t:DE}
section
variable {b:Expr}{es:!Expr}{u:DF}
theorem C24 {P P':!Pe}{x:Pe}(h:∀p∈P,p∈P'):∀p∈x::P,p∈x::P':=λp hp=>(K7.mp hp).elim (λe=>e▸E5) λhp=>E3 _ (h p hp)
def A51  (ρ:!Sl) (Q:!PyData->!Sl->Prop):Prop:=Q [] ρ
def A52 (t:DE)(u:DF)  (ρ:!Sl) (Q:!PyData->!Sl->Prop):Prop:=t ρ λd ρ1=>u ρ1 λds ρ2=>Q (d::ds) ρ2
theorem J5:PA X [] (vOf C A51):=PA.wk A4 λJ J J zz1=>el3 zz1 λJ J J R ht k=>k [] [] _ _ _ R (λJ h=>h) .nil ht
theorem E4 (ha:PE X e (eOf C t))(hr:PA X es (vOf C u))(hs:autoParam (starEach (e::es) X.env=(false,eval e X.env)::starEach es X.env) RF._auto_1):PA X (e::es) (vOf C (A52 t u)):=PA.wk (A3 ha hr hs) λJ J J zz2=>el3 zz2 fun ρ P J R ht k=>
 ⟨ρ,P,_,R,ht,λJ J ρ1 J R1 h1=>⟨ρ1,_,_,R1,h1,λJ J J J J R2 s2 p2 h2=>k _ _ _ _ _ R2 (λp hp=>s2 p (E3 _ hp)) (.cons (s2 _ E5) p2) h2⟩⟩
def A53 (t:DF)  (ρ:!Sl) (Q:PyData->!Sl->Prop):Prop:=t ρ λds ρ'=>ds.length<=1000/\Q (.tuple ds) ρ'
theorem Y6 {x1}(h:PA X es (vOf C u)):PE X (.Tuple es x1 pos) (eOf C (A53 u)):=PE.wk (w5 h) λJ J J zz3=>el3 zz3 fun ρ P J R ht k=>⟨ρ,P,_,R,ht,λvs ds ρ' P' H' zz4 s p q=>zz4.elim λcol r=>
 ⟨by rw[(p.th r).len];exact A3h (B15 q.1),λb hb=>k _ _ _ _ ⟨col,(r.tup (p.th r) hb).sub (C24 s)⟩ q.2⟩⟩
def A54 (t:DF)  (ρ:!Sl) (Q:!PyData->!Sl->Prop):Prop:=t ρ λds ρ'=>ds.length<=1000/\Q ds ρ'
theorem Y7 (h:PA X es (vOf C u)):PE X (.List es pos) (fOf C (A54 u)):=PE.wk (T0 h) λJ J J zz5=>el3 zz5 fun ρ P J R ht k=>⟨ρ,P,_,R,ht,λvs ds ρ' P' H' zz6 s p q=>zz6.elim λcol r=>
 ⟨by rw[(p.th r).len];exact A3h (B15 q.1),λb hb=>k _ _ _ _ _ ⟨col,r.sub s,p.th r⟩ hb q.2⟩⟩
def dF (t:DF)  (ρ:!Sl) (Q:PyData->!Sl->Prop):Prop:=t ρ λds ρ'=>Q (.list ds) ρ'
theorem M7 (h:PE X e (fOf C u)):PE X e (eOf C (dF u)):=PE.wk h λJ J J zz7=>el3 zz7 fun ρ P J R ht k=>⟨ρ,P,_,R,ht,λJ J J J J zz8 hp q=>el2 zz8 λcol r t=>k _ _ _ _ ⟨col,r.lst t hp⟩ q⟩
def ixD (a b:PyData):Option PyData:=match a,b with
 | .list xs,.int i=>atI xs i
 | .tuple xs,.int i=>atI xs i
 | _,_=>none
theorem B2e {F:Addr->Prop}{H:Hp}{vs:!V}{ds:!PyData}{i:Int}{d:PyData}(t:C3 F H vs ds)(h:atI ds i=some d):∃v,atI vs i=some v/\ThV F H v d:=by
 unfold atI at h ⊢;rw[t.len];cases q:ixN ds.length i with
 | none=>rw[q] at h;cases h
 | some j=>rw[q] at h;exact t.at h
theorem C25 {K:A8}{col:Addr->Nat}{H:Hp}{v w:V}{a b d:PyData}(t1:Red col H v a)(t2:ThV (Z col) H w b)(h:ixD a b=some d):∃u,ThV (Z col) H u d/\∀Q:VK,Q u H->rIx K v w H Q:=by
 unfold ixD at h;split at h
 ·cases t2;let⟨p,vs,rfl,e,t⟩:=t1.lst;let⟨u,hu,tu⟩:=B2e t h;exact⟨u,tu,λQ q=>.inl ⟨p,vs,_,u,rfl,rfl,SqL.of e,hu,q⟩⟩
 ·cases t2;let⟨p,vs,rfl,e,t⟩:=t1.tup;let⟨u,hu,tu⟩:=B2e t h;exact⟨u,tu,λQ q=>.inr (.inl ⟨p,vs,_,u,rfl,rfl,SqT.of e,hu,q⟩)⟩
 ·cases h
def dIx (ta tb:DE)  (ρ:!Sl) (Q:PyData->!Sl->Prop):Prop:=ta ρ λa ρ1=>tb ρ1 λb ρ2=>bnd (ixD a b) λd=>Q d ρ2
theorem T1 (ha:PE X a (eOf C ta))(hb:PE X b (eOf C tb))(hs:autoParam (B44 b) IRP._auto_1):PE X (.Subscript a b pos) (eOf C (dIx ta tb)):=PE.wk (E6 A3u ha hb hs) λJ J J zz9=>el3 zz9 fun ρ P J R ht k=>⟨ρ,P,_,R,ht,λv J ρ1 H1 R1 h1=>⟨ρ1,_,_,R1,h1,λw J ρ2 H2 R2 h2=>by
 let⟨d,hd,q⟩:=P3 h2;let⟨col,r,t1,t2⟩:=th2 R2;let⟨u,tu,f⟩:=C25 (K:=X.K) (.th t1) t2 hd;exact f _ (k _ _ _ _ ⟨col,r.push tu⟩ q)⟩⟩
def A55 (i:Nat)(tb:DE)  (ρ:!Sl) (Q:PyData->!Sl->Prop):Prop:=bnd (X0 ρ i) λJ=>tb ρ λb ρ2=>bnd (X0 ρ2 i) λa=>bnd (ixD a b) λd=>Q d ρ2
theorem E7 {i:Nat}(ha:PE X a (A0g i))(hb:PE X b (eOf C tb))(hs:autoParam (B44 b) IRP._auto_1):PE X (.Subscript a b pos) (eOf C (A55 i tb)):=PE.wk (E6 A3u ha hb hs) fun σ H Q zz10=>el3 zz10 fun ρ P Qd zz11 ht k=>zz11.elim λcol0 r0=>by
 let⟨_,h0,ht⟩:=P3 ht;let⟨v,ev,_⟩:=r0.slot h0;refine⟨v,ev,ρ,P,_,⟨col0,r0⟩,ht,λw b ρ2 H2 R2 h2=>?_⟩;let⟨a,ha,h2⟩:=P3 h2;let⟨d,hd,q⟩:=P3 h2;let⟨col,r⟩:=R2;let⟨v',ev',t1⟩:=r.slot ha;rw[ev] at ev';cases ev';let⟨u,tu,f⟩:=C25 (K:=X.K) t1 (r.pd _ E5) hd;exact f _ (k _ _ _ _ ⟨col,(r.sub λJ h=>E3 _ h).push tu⟩ q)
def A13 (C:DC)(r:!V->Hp->VK->Prop)(g:!PyData->(PyData->Prop)->Prop):Prop:=
 ∀{ρ:!Sl}{σ:St}{P:!Pe}{col:Addr->Nat}{H:Hp}{vs:!V}{ds:!PyData}{Qd:PyData->Prop}{Q:VK},G9 C col ρ σ P H->C3 (Z col) H vs ds->g ds Qd->(∀u d H',Rel C ρ σ (.v u d::P) H'->Qd d->Q u H')->r vs H Q
def dCb (g:!PyData->(PyData->Prop)->Prop)(u:DF)  (ρ:!Sl) (Q:PyData->!Sl->Prop):Prop:=u ρ λds ρ'=>g ds λd=>Q d ρ'
theorem n8 {r:!V->Hp->VK->Prop}{g:!PyData->(PyData->Prop)->Prop}(hr:A13 C r g)(h:PE X e (tCB r (vOf C u))):PE X e (eOf C (dCb g u)):=PE.wk h λJ J J zz12=>el3 zz12 fun ρ P J R ht k=>⟨ρ,P,_,R,ht,λvs ds ρ' P' H' zz13 s p q=>zz13.elim λcol r=>
 hr (r.sub s) (p.th r) q λu d H2 R2 q2=>k _ _ _ _ R2 q2⟩
theorem A3y {F:Addr->Prop}{H:Hp}{vs:!V}{d:PyData}(t:C3 F H vs [d]):∃v,vs=[v]/\ThV F H v d:=by
 cases t with
 | cons x y=>cases y;exact⟨_,rfl,x⟩
theorem g6 {F:Addr->Prop}{H:Hp}{vs:!V}{d d':PyData}(t:C3 F H vs [d,d']):∃v w,vs=[v,w]/\ThV F H v d/\ThV F H w d':=by
 cases t with
 | cons x y=>let⟨w,rfl,z⟩:=A3y y;exact⟨_,w,rfl,x,z⟩
def lenD:PyData->Option Nat
 | .list xs=>some xs.length
 | .tuple xs=>some xs.length
 | _=>none
def A3z  (ds:!PyData) (Q:PyData->Prop):Prop:=match ds with
 | [d]=>bnd (lenD d) λn=>Q (.int n)
 | _=>False
abbrev B5o (K:A8):!V->Hp->VK->Prop:=λxs H Q=>∃p ys,xs=[.ref p]/\(SqL K H p ys\/SqT K H p ys)/\Q (.int ys.length) H
theorem C26 {K:A8}{col:Addr->Nat}{H:Hp}{v:V}{a:PyData}{n:Nat}{Q:VK}(t:Red col H v a)(h:lenD a=some n)(q:Q (.int n) H):B5o K [v] H Q:=by
 cases a with
 | list ds=>cases h;let⟨p,vs,rfl,e,t⟩:=t.lst;exact⟨p,vs,rfl,.inl (SqL.of e),by rw[t.len];exact q⟩
 | tuple ds=>cases h;let⟨p,vs,rfl,e,t⟩:=t.tup;exact⟨p,vs,rfl,.inr (SqT.of e),by rw[t.len];exact q⟩
 | _=>cases h
theorem C27 {K:A8}:A13 C (B5o K) A3z:=by
 intro ρ σ P col H vs ds Qd Q r t g k;unfold A3z at g;split at g
 ·let⟨v,rfl,t1⟩:=A3y t;let⟨n,hn,q⟩:=P3 g;exact C26 (.th t1) hn (k _ _ _ ⟨col,r.push (.int _)⟩ q)
 ·exact g.elim
def A56 (i:Nat)  (ρ:!Sl) (Q:PyData->!Sl->Prop):Prop:=bnd (X0 ρ i) λa=>bnd (lenD a) λn=>Q (.int n) ρ
theorem A57 {i:Nat}{K:A8}(h:PE X e (tCB (B5o K) (w4 (A0g i) W8))):PE X e (eOf C (A56 i)):=PE.wk h λJ J J zz14=>el3 zz14 fun ρ P J zz15 ht k=>zz15.elim λcol r=>by
 let⟨a,ha,ht⟩:=P3 ht;let⟨n,hn,q⟩:=P3 ht;let⟨v,ev,t⟩:=r.slot ha;exact⟨v,ev,C26 t hn (k _ _ _ _ ⟨col,r.push (.int _)⟩ q)⟩
def gI2 (f:Int->Int->Int)  (ds:!PyData) (Q:PyData->Prop):Prop:=match ds with
 | [.int i,.int j]=>Q (.int (f i j))
 | _=>False
theorem C28 {f:Int->Int->Int}:A13 C (λxs H Q=>∃i j,xs=[.int i,.int j]/\Q (.int (f i j)) H) (gI2 f):=by
 intro ρ σ P col H vs ds Qd Q r t g k;unfold gI2 at g;split at g
 ·let⟨v,w,rfl,t1,t2⟩:=g6 t;cases t1;cases t2;exact⟨_,_,rfl,k _ _ _ ⟨col,r.push (.int _)⟩ g⟩
 ·exact g.elim
def A58:=gI2 λi j=>if j<i then j else i
def A59:=gI2 λi j=>if j>i then j else i
theorem B2f:A13 C (λxs H Q=>∃i j,xs=[.int i,.int j]/\Q (.int (if j<i then j else i)) H) A58:=C28 (f:=λi j=>if j<i then j else i)
theorem B2g:A13 C (λxs H Q=>∃i j,xs=[.int i,.int j]/\Q (.int (if j>i then j else i)) H) A59:=C28 (f:=λi j=>if j>i then j else i)
def A30  (ds:!PyData) (Q:PyData->Prop):Prop:=match ds with
 | [.int i]=>Q (.int (if i<0 then -i else i))
 | _=>False
theorem D12:A13 C (λxs H Q=>∃i,xs=[.int i]/\Q (.int (if i<0 then -i else i)) H) A30:=by
 intro ρ σ P col H vs ds Qd Q r t g k;unfold A30 at g;split at g
 ·let⟨v,rfl,t1⟩:=A3y t;cases t1;exact⟨_,rfl,k _ _ _ ⟨col,r.push (.int _)⟩ g⟩
 ·exact g.elim
def A31  (ds:!PyData) (Q:PyData->Prop):Prop:=match ds with
 | [.int i]=>Q (.int i)
 | [.bool b]=>Q (.int (if b then 1 else 0))
 | _=>False
theorem D13:A13 C (λxs H Q=>(∃i,xs=[.int i]/\Q (.int i) H)\/∃k,xs=[.bl k]/\Q (.int (if k then 1 else 0)) H) A31:=by
 intro ρ σ P col H vs ds Qd Q r t g k;unfold A31 at g;split at g
 ·let⟨v,rfl,t1⟩:=A3y t;cases t1;exact .inl ⟨_,rfl,k _ _ _ ⟨col,r.push (.int _)⟩ g⟩
 ·let⟨v,rfl,t1⟩:=A3y t;cases t1;exact .inr ⟨_,rfl,k _ _ _ ⟨col,r.push (.int _)⟩ g⟩
 ·exact g.elim
def A6a:!PyData->Option (!Bool)
 | []=>some []
 | .bool b::r=>(A6a r).map (b::·)
 | _::_=>none
theorem D14 {F:Addr->Prop}{H:Hp}{ds:!PyData}{vs:!V}{bs:!Bool}(t:C3 F H vs ds)(h:A6a ds=some bs):vs=bs.map V.bl:=by
 induction ds generalizing vs bs with
 | nil=>cases t;cases h;rfl
 | cons d r ih=>
  cases t with
  | cons x y=>
   cases x with
   | bl b=>
    have h':(A6a r).map (b::·)=some bs:=h;cases q:A6a r with
    | none=>rw[q] at h';cases h'
    | some cs=>rw[q] at h';cases h';rw[ih y q];rfl
   | _=>cases h
def gBs (f:!Bool->Bool)  (ds:!PyData) (Q:PyData->Prop):Prop:=match ds with
 | [.list xs]=>bnd (A6a xs) λbs=>Q (.bool (f bs))
 | _=>False
theorem D15 {K:A8}{f:!Bool->Bool}:A13 C (λxs H Q=>∃(p:Addr)(bs:!Bool),xs=[.ref p]/\SqL K H p (bs.map V.bl)/\Q (.bl (f bs)) H) (gBs f):=by
 intro ρ σ P col H vs ds Qd Q r t g k;unfold gBs at g;split at g
 ·let⟨bs,hb,q⟩:=P3 g;let⟨v,rfl,t1⟩:=A3y t;cases t1 with
  | lst _ e t2=>have z:=D14 t2 hb;subst z;exact⟨_,bs,rfl,SqL.of e,k _ _ _ ⟨col,r.push (.bl _)⟩ q⟩
 ·exact g.elim
def A6b:=gBs λbs=>bs.all id
theorem D16 {K:A8}:A13 C (λxs H Q=>∃(p:Addr)(bs:!Bool),xs=[.ref p]/\SqL K H p (bs.map V.bl)/\Q (.bl (bs.all id)) H) A6b:=D15
abbrev D17 (K:A8):!V->Hp->VK->Prop:=λxs H Q=>∃p ys,xs=[.ref p]/\(SqL K H p ys\/SqT K H p ys)/\∀l,H l=none->Q (.ref l) (upd H l (.lst ys))
def A32:PyData->Option (!PyData)
 | .list xs=>some xs
 | .tuple xs=>some xs
 | _=>none
theorem D18 {col:Addr->Nat}{H:Hp}{v:V}{a:PyData}{ds:!PyData}(t:Red col H v a)(h:A32 a=some ds):∃p vs,v=.ref p/\(H p=some (.lst vs)\/H p=some (.tup vs))/\C3 (Z col) H vs ds:=by
 cases a with
 | list ds=>cases h;let⟨p,vs,rfl,e,t⟩:=t.lst;exact⟨p,vs,rfl,.inl e,t⟩
 | tuple ds=>cases h;let⟨p,vs,rfl,e,t⟩:=t.tup;exact⟨p,vs,rfl,.inr e,t⟩
 | _=>cases h
def A6c (i:Nat)  (ρ:!Sl) (Q:!PyData->!Sl->Prop):Prop:=bnd (X0 ρ i) λa=>bnd (A32 a) λds=>Q ds ρ
theorem B5p {i:Nat}{K:A8}(h:PE X e (tCB (D17 K) (w4 (A0g i) W8))):PE X e (fOf C (A6c i)):=PE.wk h λJ J J zz16=>el3 zz16 fun ρ P J zz17 ht k=>zz17.elim λcol r=>by
 let⟨a,ha,ht⟩:=P3 ht;let⟨ds,hn,q⟩:=P3 ht;let⟨v,ev,t⟩:=r.slot ha;let⟨p,vs,rfl,e,t⟩:=D18 t hn;exact⟨_,ev,p,vs,rfl,e.elim (λe=>.inl (SqL.of e)) (λe=>.inr (SqT.of e)),λl hl=>k _ _ _ _ _ ⟨col,r,t⟩ hl q⟩
abbrev DO:=!Sl->(Option Int->!Sl->Prop)->Prop
def oOf (C:DC)(t:DO):TO:=fun σ H Q=>∃ρ P Qd,Rel C ρ σ P H/\t ρ Qd/\∀o ρ' H',Rel C ρ' σ P H'->Qd o ρ'->Q o H'
def oN  (ρ:!Sl) (Q:Option Int->!Sl->Prop):Prop:=Q none ρ
def oS (t:DE)  (ρ:!Sl) (Q:Option Int->!Sl->Prop):Prop:=t ρ λd ρ'=>match d with
 | .int i=>Q (some i) ρ'
 | _=>False
theorem B2h:PO X none (oOf C oN):=PO.wk A5h λJ J J zz20=>el3 zz20 λJ J J R ht k=>k _ _ _ R ht
theorem A77 (h:PE X e (eOf C t)):PO X (some e) (oOf C (oS t)):=PO.wk (A5i h) λJ J J zz21=>el3 zz21 fun ρ P J R ht k=>⟨ρ,P,_,R,ht,λv d ρ' H' R' q=>by
 split at q
 ·let⟨col,r⟩:=R';have t:=r.pd _ E5;cases (show ThV (Z col) H' v (.int _) from t);exact⟨_,rfl,k _ _ _ (Rel.pop ⟨col,r⟩) q⟩
 ·exact q.elim⟩
def y4 (xs:!PyData)(lo hi:Option Int):!PyData:=(xs.drop (HT.sIx xs.length 0 lo)).take (HT.sIx xs.length xs.length hi-HT.sIx xs.length 0 lo)
theorem C3.drop {F:Addr->Prop}{H:Hp}:∀{vs:!V}{ds:!PyData}(n:Nat),C3 F H vs ds->C3 F H (vs.drop n) (ds.drop n)
 | _,_,0,h=>h
 | _,_,_+1,.nil=>.nil
 | _,_,n+1,.cons _ t=>C3.drop n t
theorem C3.take {F:Addr->Prop}{H:Hp}:∀{vs:!V}{ds:!PyData}(n:Nat),C3 F H vs ds->C3 F H (vs.take n) (ds.take n)
 | _,_,0,_=>.nil
 | _,_,_+1,.nil=>.nil
 | _,_,n+1,.cons x t=>.cons x (C3.take n t)
theorem C29 {F:Addr->Prop}{H:Hp}{vs:!V}{ds:!PyData}(t:C3 F H vs ds)(lo hi:Option Int):C3 F H (A1g vs lo hi) (y4 ds lo hi):=by
 unfold A1g y4;rw[t.len];exact (t.drop _).take _
def V0:PyData->Option (!PyData)
 | .list xs=>some xs
 | _=>none
def A6d (i:Nat)(tl th:DO)  (ρ:!Sl) (Q:!PyData->!Sl->Prop):Prop:=bnd (X0 ρ i) λJ=>tl ρ λlo ρ1=>th ρ1 λhi ρ2=>bnd (X0 ρ2 i) λa=>bnd (V0 a) λxs=>Q (y4 xs lo hi) ρ2
theorem B5q {i:Nat}{lo hi:Option Expr}{p2:Pos}{tl th:DO}(ha:PE X a (A0g i))(hl:PO X lo (oOf C tl))(hh:PO X hi (oOf C th)):PE X (.Subscript a (.Slice lo hi none p2) pos) (fOf C (A6d i tl th)):=PE.wk (A3t A7t ha hl hh) fun σ H Q zz22=>el3 zz22 fun ρ P Qd zz23 ht k=>zz23.elim λcol0 r0=>by
 let⟨_,h0,ht⟩:=P3 ht;let⟨v,ev,_⟩:=r0.slot h0;refine⟨v,ev,ρ,P,_,⟨col0,r0⟩,ht,λlo ρ1 H1 R1 h1=>⟨ρ1,P,_,R1,h1,λhi ρ2 H2 R2 h2=>?_⟩⟩;let⟨a,ha,h2⟩:=P3 h2;let⟨xs,hx,q⟩:=P3 h2;let⟨col,r⟩:=R2;let⟨v',ev',t1⟩:=r.slot ha;rw[ev] at ev';cases ev';cases a with
 | list ds=>cases hx;let⟨p,vs,rfl,e,t⟩:=t1.lst;exact⟨p,vs,rfl,SqL.of e,λb hb=>k _ _ _ _ _ ⟨col,r,C29 t lo hi⟩ hb q⟩
 | _=>cases hx
def dSl (ta:DE)(tl th:DO)  (ρ:!Sl) (Q:!PyData->!Sl->Prop):Prop:=ta ρ λa ρ0=>tl ρ0 λlo ρ1=>th ρ1 λhi ρ2=>bnd (V0 a) λxs=>Q (y4 xs lo hi) ρ2
theorem C3a {lo hi:Option Expr}{p2:Pos}{tl th:DO}(ha:PE X a (eOf C ta))(hl:PO X lo (oOf C tl))(hh:PO X hi (oOf C th)):PE X (.Subscript a (.Slice lo hi none p2) pos) (fOf C (dSl ta tl th)):=PE.wk (A3t A7t ha hl hh) fun σ H Q zz24=>el3 zz24 fun ρ P Qd R ht k=>
 ⟨ρ,P,_,R,ht,λv a ρ0 H0 R0 h0=>⟨ρ0,_,_,R0,h0,λlo ρ1 H1 R1 h1=>⟨ρ1,_,_,R1,h1,λhi ρ2 H2 R2 h2=>by
  let⟨xs,hx,q⟩:=P3 h2;let⟨col,r⟩:=R2;cases a with
  | list ds=>cases hx;let⟨p,vs,rfl,e,t⟩:=Red.lst (.th (r.pd _ E5));exact⟨p,vs,rfl,SqL.of e,λb hb=>k _ _ _ _ _ ⟨col,r.sub λJ h=>E3 _ h,C29 t lo hi⟩ hb q⟩
  | _=>cases hx⟩⟩⟩
def A6e (ta tb:DE)  (ρ:!Sl) (Q:!PyData->!Sl->Prop):Prop:=ta ρ λa ρ1=>tb ρ1 λb ρ2=>bnd (V0 a) λxs=>bnd (V0 b) λys=>xs.length+ys.length<=100000/\Q (xs++ys) ρ2
theorem B2i (ha:PE X a (eOf C ta))(hb:PE X b (eOf C tb)):PE X (.BinOp a .Add b pos) (fOf C (A6e ta tb)):=PE.wk (F5 A5j ha hb) fun σ H Q zz25=>el3 zz25 fun ρ P Qd R ht k=>
 ⟨ρ,P,_,R,ht,λv a ρ1 H1 R1 h1=>⟨ρ1,_,_,R1,h1,λw b ρ2 H2 R2 h2=>by
  let⟨xs,hx,h2⟩:=P3 h2;let⟨ys,hy,h3,q⟩:=P3 h2;let⟨col,r,t1,t2⟩:=th2 R2;cases a with
  | list ds=>
   cases b with
   | list es=>cases hx;cases hy;let⟨p,vs,rfl,e,t⟩:=Red.lst (.th t1);let⟨p',vs',rfl,e',t'⟩:=Red.lst (.th t2);exact⟨p,p',vs,vs',rfl,rfl,e,e',by rw[t.len,t'.len,sizeLine_eq];omega,λb hb=>k _ _ _ _ _ ⟨col,r,t.append t'⟩ hb q⟩
   | _=>cases hy
  | _=>cases hx⟩⟩
def A6f (xs:!PyData)(n:Nat):!PyData:=(G1 n xs).flatten
theorem C3b {F:Addr->Prop}{H:Hp}{vs:!V}{ds:!PyData}(t:C3 F H vs ds):∀n:Nat,C3 F H (G1 n vs).flatten (A6f ds n)
 | 0=>.nil
 | n+1=>by
  unfold A6f;rw[A0u,A0u,A3k,A3k];exact t.append (C3b t n)
def A6g (ta tb:DE)  (ρ:!Sl) (Q:!PyData->!Sl->Prop):Prop:=ta ρ λa ρ1=>tb ρ1 λb ρ2=>match b with
 | .int k=>bnd (V0 a) λxs=>(-1000<=k/\k<=1000/\xs.length<=100)/\Q (A6f xs k.toNat) ρ2
 | _=>False
set_option tactic.hygienic true in
theorem B2j (ha:PE X a (eOf C ta))(hb:PE X b (eOf C tb)):PE X (.BinOp a .Mult b pos) (fOf C (A6g ta tb)):=PE.wk (F5 B46 ha hb) fun σ H Q zz26=>el3 zz26 fun ρ P Qd R ht k=>
 ⟨ρ,P,_,R,ht,λv a ρ1 H1 R1 h1=>⟨ρ1,_,_,R1,h1,λw b ρ2 H2 R2 h2=>by
  split at h2
  ·let⟨xs,hx,⟨h3,h4,h5⟩,q⟩:=P3 h2;let⟨col,r,t1,t2⟩:=th2 R2;cases t2;cases a with
   | list ds=>cases hx;let⟨p,vs,rfl,e,t⟩:=Red.lst (.th t1);rename_i kk;refine⟨p,kk,vs,rfl,rfl,e,by omega,by omega,?_,λb hb=>k _ _ _ _ _ ⟨col,r,C3b t _⟩ hb q⟩;have hl:=t.len;rw[<-hl] at h5;have:vs.length*kk.toNat<=100*1000:=Nat.mul_le_mul h5 (by omega);rw[sizeLine_eq];omega
   | _=>cases hx
  ·exact h2.elim⟩⟩
def tyD:PyData->Option String
 | .none=>some "NoneType"
 | .bool _=>some "bool"
 | .int _=>some "int"
 | .str _=>some "str"
 | .list _=>some "list"
 | .tuple _=>some "tuple"
 | .dict _=>some "dict"
theorem D19 {K:A8}{col:Addr->Nat}{H:Hp}{v:V}{a:PyData}(t:Red col H v a):∃T,tyD a=some T/\A9z K H v (.type T):=by
 cases t with
 | th t=>cases t with
  | non=>exact⟨_,rfl,.o .non⟩
  | bl b=>exact⟨_,rfl,.o (.bl b)⟩
  | int i=>exact⟨_,rfl,.o (.int i)⟩
  | str x=>exact⟨_,rfl,.o (.str x)⟩
  | lst _ e _=>exact⟨_,rfl,.o (.lst e)⟩
  | tup _ e _=>exact⟨_,rfl,.o (.tup e)⟩
  | dic _ e u=>cases u with
   | t=>exact⟨_,rfl,.o (.dT e)⟩
   | k i j=>exact⟨_,rfl,.o (.dK e)⟩
   | f o ks=>exact⟨_,rfl,.f e⟩
 | ls e _=>exact⟨_,rfl,.o (.lst e)⟩
def A0m (T:String)(d:PyData):Bool:=match tyD d with
 | some t=>t == T||(T == "int" &&t == "bool")
 | none=>false
def A78 (K:A8)(T:String):Prop:=∀d t,tyD d=some t->A0t K (.type t) (.type T)=some (A0m T d)
abbrev D2a (K:A8):!V->Hp->VK->Prop:=λxs H Q=>∃x cv c t b,xs=[x,cv]/\F1 cv c/\A9z K H x t/\A0t K t c=some b/\Q (.bl b) H
def A6h (i:Nat)(T:String)  (ρ:!Sl) (Q:PyData->!Sl->Prop):Prop:=bnd (X0 ρ i) λa=>Q (.bool (A0m T a)) ρ
theorem B2k {i:Nat}{K:A8}{T:String}(hT:A78 K T)(h:PE X e (tCB (D2a K) (w4 (A0g i) (w4 (tC (.ty T)) W8)))):PE X e (eOf C (A6h i T)):=PE.wk h λJ J J zz27=>el3 zz27 fun ρ P J zz28 ht k=>zz28.elim λcol r=>by
 let⟨a,ha,q⟩:=P3 ht;let⟨v,ev,t⟩:=r.slot ha;let⟨t',e1,e2⟩:=D19 (K:=K) t;exact⟨v,ev,v,.ty T,.type T,_,_,rfl,rfl,e2,hT a t' e1,k _ _ _ _ ⟨col,r.push (.bl _)⟩ q⟩
theorem D2b {K:A8}:A78 K "int" :=λd t h=>by cases d <;> cases h <;> with_unfolding_all rfl
theorem D2c {K:A8}:A78 K "bool" :=λd t h=>by cases d <;> cases h <;> with_unfolding_all rfl
theorem D2d {K:A8}:A78 K "list" :=λd t h=>by cases d <;> cases h <;> with_unfolding_all rfl
theorem D2e {K:A8}:A78 K "tuple" :=λd t h=>by cases d <;> cases h <;> with_unfolding_all rfl
theorem D2f {K:A8}:A78 K "str" :=λd t h=>by cases d <;> cases h <;> with_unfolding_all rfl
end
inductive Md where
 | sh
 | bo
 | hd
 | b2
 | bd
def A33:!PyData->Option (!(!PyData))
 | []=>some []
 | .list ds::r=>(A33 r).map (ds::·)
 | _=>none
def B5r:PyData->Option (!(!PyData))
 | .list xs=>A33 xs
 | _=>none
abbrev lls (dss:!(!PyData)):!PyData:=dss.map PyData.list
theorem D2g {xs:!PyData}{dss:!(!PyData)}(h:A33 xs=some dss):xs=lls dss:=by
 induction xs generalizing dss with
 | nil=>cases h;rfl
 | cons x r ih=>
  cases x with
  | list ds=>
   have h':(A33 r).map (ds::·)=some dss:=h;cases q:A33 r with
   | none=>rw[q] at h';cases h'
   | some ess=>rw[q] at h';cases h';rw[ih q];rfl
  | _=>cases h
theorem D2h {d:PyData}{dss:!(!PyData)}(h:B5r d=some dss):d=.list (lls dss):=by
 cases d with
 | list xs=>rw[D2g h]
 | _=>cases h
theorem D2i {F:Addr->Prop}{H:Hp}{dss:!(!PyData)}{vs:!V}(t:C3 F H vs (lls dss)):∃as:!Addr,vs=as.map V.ref/\Rws F F H as dss:=by
 induction dss generalizing vs with
 | nil=>cases t;exact⟨[],rfl,.nil⟩
 | cons ds dss ih=>
  cases t with
  | cons x y=>
   let⟨as,rfl,r⟩:=ih y;cases x with
   | lst n e z=>exact⟨_::as,rfl,.cons n e z r⟩
def slot2 (ρ:!Sl)(i:Nat):Option (!(!PyData)):=match ρ[i]? with
 | some (.o2 dss)=>some dss
 | some (.b2 dss)=>some dss
 | some (.sh d)=>B5r d
 | _=>none
def B5s (F:Addr->Prop)(hand:Option (Addr×Addr))(H:Hp)(v:V)(d:PyData):Md->Prop
 | .sh=>ThV F H v d
 | .bo=>∃a vs ds,v=.ref a/\d=.list ds/\(∀q,hand=some q->a≠q.1)/\H a=some (.lst vs)/\C3 F H vs ds
 | .hd=>∃q,hand=some q/\v=.ref q.1
 | .b2=>∃a as dss,v=.ref a/\d=.list (lls dss)/\(∀q,hand=some q->a≠q.1)/\H a=some (.lst (as.map V.ref))/\Rws (λb=>∀q,hand=some q->b≠q.1) F H as dss
 | .bd=>ThV (λb=>∀q,hand=some q->b≠q.1) H v d
inductive y7 (F:Addr->Prop)(hand:Option (Addr×Addr))(H:Hp):!Md->!V->!PyData->Prop
 | nil:y7 F hand H [] [] []
 | cons {m v d ms vs ds}:B5s F hand H v d m->y7 F hand H ms vs ds->y7 F hand H (m::ms) (v::vs) (d::ds)
theorem y7.len {F:Addr->Prop}{hand:Option (Addr×Addr)}{H:Hp}{ms:!Md}{vs:!V}{ds:!PyData}(t:y7 F hand H ms vs ds):vs.length=ms.length/\ds.length=ms.length:=by
 induction t with
 | nil=>exact⟨rfl,rfl⟩
 | cons _ t ih=>exact⟨congrArg (· + 1) ih.1,congrArg (· + 1) ih.2⟩
abbrev DSp:=!PyData->(PyData->Prop)->Prop
def spD (ms:!Md)(sp:DSp):Sp:=λvs H Q J=>∃F hand ds Qd,((∀b,H b=none->F b)/\∀b xs,H b=some (.tup xs)->F b)/\(∀q,hand=some q->¬ F q.1)/\Hq hand H/\y7 F hand H ms vs ds/\sp ds Qd/\∀d v H',Qd d->ThV F H' v d->Kq hand H H'->Hq hand H'->Q v H'
inductive Ar where
 | v (d:PyData)
 | s (i:Nat)
 | w (d:PyData)
inductive ArV (σ:St)(P:!Pe):!V->!Ar->Prop
 | nil:ArV σ P [] []
 | v {v d vs as}:Pe.v v d∈P->ArV σ P vs as->ArV σ P (v::vs) (.v d::as)
 | s {i v vs as}:σ[i]?=some (some v)->ArV σ P vs as->ArV σ P (v::vs) (.s i::as)
 | w {v d vs as}:Pe.w v d∈P->ArV σ P vs as->ArV σ P (v::vs) (.w d::as)
abbrev DA:=!Sl->(!Ar->!Sl->Prop)->Prop
def aOf (C:DC)(t:DA):TA:=fun σ H Q=>∃ρ P Qd,Rel C ρ σ P H/\t ρ Qd/\∀vs as ρ' P' H',Rel C ρ' σ P' H'->(∀p∈P,p∈P')->ArV σ P' vs as->Qd as ρ'->Q vs H'
def A2x (ρ:!Sl)(i:Nat):Bool:=match ρ[i]? with
 | some .no=>false
 | none=>false
 | _=>true
section
variable {es:!Expr}{u:DA}
def A6i  (ρ:!Sl) (Q:!Ar->!Sl->Prop):Prop:=Q [] ρ
def aV (t:DE)(u:DA)  (ρ:!Sl) (Q:!Ar->!Sl->Prop):Prop:=t ρ λd ρ1=>u ρ1 λas ρ2=>Q (.v d::as) ρ2
def aS (i:Nat)(u:DA)  (ρ:!Sl) (Q:!Ar->!Sl->Prop):Prop:=A2x ρ i=true/\u ρ λas ρ2=>Q (.s i::as) ρ2
theorem F7:PA X [] (aOf C A6i):=PA.wk A4 λJ J J zz31=>el3 zz31 λJ J J R ht k=>k [] [] _ _ _ R (λJ h=>h) .nil ht
theorem B8 (ha:PE X e (eOf C t))(hr:PA X es (aOf C u))(hs:autoParam (starEach (e::es) X.env=(false,eval e X.env)::starEach es X.env) RF._auto_1):PA X (e::es) (aOf C (aV t u)):=PA.wk (A3 ha hr hs) λJ J J zz32=>el3 zz32 fun ρ P J R ht k=>
 ⟨ρ,P,_,R,ht,λJ J ρ1 J R1 h1=>⟨ρ1,_,_,R1,h1,λJ J J J J R2 s2 p2 h2=>k _ _ _ _ _ R2 (λp hp=>s2 p (E3 _ hp)) (.v (s2 _ E5) p2) h2⟩⟩
set_option tactic.hygienic true in
theorem D2j {col:Addr->Nat}{ρ:!Sl}{σ:St}{P:!Pe}{H:Hp}{i:Nat}(r:G9 C col ρ σ P H)(h:A2x ρ i=true):∃v,σ[i]?=some (some v):=by
 unfold A2x at h;split at h
 ·cases h
 ·cases h
 ·rename_i s n1 n2;cases q:ρ[i]? with
  | none=>exact absurd q n2
  | some s=>
   have z:=r.sl i s q;cases s with
   | no=>exact absurd q n1
   | sh d=>let⟨v,e,_⟩:=z;exact⟨v,P5 e⟩
   | ow d=>let⟨a,_,e,_⟩:=z;exact⟨_,P5 e⟩
   | bo d=>let⟨a,_,e,_⟩:=z;exact⟨_,P5 e⟩
   | hd=>let⟨q,_,e⟩:=z;exact⟨_,P5 e⟩
   | o2 d=>let⟨a,_,e,_⟩:=z;exact⟨_,P5 e⟩
   | b2 d=>let⟨a,_,e,_⟩:=z;exact⟨_,P5 e⟩
   | di f ks=>let⟨a,e,_⟩:=z;exact⟨_,P5 e⟩
   | dm f ks=>let⟨a,e,_⟩:=z;exact⟨_,P5 e⟩
   | bd d=>let⟨v,e,_⟩:=z;exact⟨v,P5 e⟩
   | ot d=>let⟨v,e,_⟩:=z;exact⟨v,P5 e⟩
   | ob R=>let⟨v,e,_⟩:=z;exact⟨v,P5 e⟩
theorem G9.le {col:Addr->Nat}{ρ:!Sl}{σ:St}{P:!Pe}{H:Hp}(r:G9 C col ρ σ P H){v:V}{d:PyData}(t:ThV (Le C) C.H0 v d):ThV (Le C) H v d:=t.mv λb o g e=>⟨g,r.kq b o e g.2⟩
set_option tactic.hygienic true in
theorem G9.slot2 {col:Addr->Nat}{ρ:!Sl}{σ:St}{P:!Pe}{H:Hp}(r:G9 C col ρ σ P H){i:Nat}{dss:!(!PyData)}(h:slot2 ρ i=some dss):∃a as,σ[i]?=some (some (.ref a))/\(∀q,C.hand=some q->a≠q.1)/\H a=some (.lst (as.map V.ref))/\Rws (λb=>∀q,C.hand=some q->b≠q.1) (Z col) H as dss:=by
 unfold Tactic.slot2 at h;split at h
 ·rename_i dss' e;cases h;let⟨a,as,e1,c,e2,nd,t⟩:=r.sl i _ e;exact⟨a,as,P5 e1,r.notH (by have:=c.1;omega),e2,t.mv (λb o z e=>⟨z,e⟩) λb o g e=>⟨r.notH (by have:=g.1;omega),e⟩⟩
 ·rename_i dss' e;cases h;let⟨a,as,e1,c,e2,t⟩:=r.sl i _ e;exact⟨a,as,P5 e1,c.2,e2,t.mv (λb o z e=>⟨z,e⟩) λb o g e=>⟨g.2,e⟩⟩
 ·rename_i d e;cases D2h h;let⟨v,e1,t⟩:=r.sl i _ e;cases t with
  | lst n e2 t=>let⟨as,rfl,t2⟩:=D2i t;exact⟨_,as,P5 e1,r.notH (by rw[show col _=0 from n];decide),e2,t2.mv (λb o z e=>⟨z,e⟩) λb o g e=>⟨r.notH (by rw[show col b=0 from g];decide),e⟩⟩
 ·cases h
theorem V1 {i:Nat}(ha:PE X e (A0g i))(hr:PA X es (aOf C u))(hs:autoParam (starEach (e::es) X.env=(false,eval e X.env)::starEach es X.env) RF._auto_1):PA X (e::es) (aOf C (aS i u)):=PA.wk (A3 ha hr hs) fun σ H Q zz33=>el3 zz33 fun ρ P Qd zz34 ht k=>zz34.elim λcol r=>by
 let⟨v,ev⟩:=D2j r ht.1;exact⟨v,ev,ρ,P,_,⟨col,r⟩,ht.2,λJ J J J J R2 s2 p2 h2=>k _ _ _ _ _ R2 s2 (.s ev p2) h2⟩
def arD (ρ:!Sl)(m:Md)(a:Ar):Option PyData:=match m,a with
 | .sh,.v d=>some d
 | .bo,.v (.list ds)=>some (.list ds)
 | .bo,.s i=>(X0 ρ i).bind λd=>(V0 d).map PyData.list
 | .hd,.s i=>match ρ[i]? with
  | some .hd=>some .none
  | _=>none
 | .b2,.s i=>(slot2 ρ i).map λdss=>.list (lls dss)
 | .bd,.v d=>some d
 | .bd,.w d=>some d
 | .bd,.s i=>match ρ[i]? with
  | some (.bd d)=>some d
  | some (.sh d)=>some d
  | _=>none
 | _,_=>none
def Y8 (ρ:!Sl):!Md->!Ar->Option (!PyData)
 | [],[]=>some []
 | m::ms,a::as=>(arD ρ m a).bind λd=>(Y8 ρ ms as).map (d::·)
 | _,_=>none
theorem A6j {d:PyData}{xs:!PyData}(h:V0 d=some xs):d=.list xs:=by
 cases d <;> cases h;rfl
set_option tactic.hygienic true in
theorem B5t {col:Addr->Nat}{ρ:!Sl}{σ:St}{P:!Pe}{H:Hp}(r:G9 C col ρ σ P H){m:Md}{v:V}{d:PyData}{a:Ar}(ha:match a with | .v d=>Pe.v v d∈P | .s i=>σ[i]?=some (some v) | .w d=>Pe.w v d∈P)(h:arD ρ m a=some d):B5s (Z col) C.hand H v d m:=by
 unfold arD at h;split at h
 ·cases h;exact r.pd _ ha
 ·cases h;have z:ThV (Z col) H v (.list _):=r.pd _ ha;cases z with
  | lst za e t=>exact⟨_,_,_,rfl,rfl,r.notH (by rw[show col _=0 from za];decide),e,t⟩
 ·rename_i i;have ha':σ[i]?=some (some v):=ha;cases q:X0 ρ i with
  | none=>rw[q] at h;cases h
  | some d'=>
   rw[q] at h;cases q2:V0 d' with
   | none=>have h':(V0 d').map PyData.list=some d:=h;rw[q2] at h';cases h'
   | some xs=>
    have h':(V0 d').map PyData.list=some d:=h;rw[q2] at h';cases h';have:=A6j q2;subst this;unfold X0 at q;split at q
    ·rename_i d'' e;cases q;let⟨v',e1,t⟩:=r.sl i _ e;rw[P5 e1] at ha';cases ha';cases t with
     | lst za e t=>exact⟨_,_,_,rfl,rfl,r.notH (by rw[show col _=0 from za];decide),e,t⟩
    ·rename_i ds e;cases q;let⟨a,vs,e1,c,_,e2,t⟩:=r.sl i _ e;rw[P5 e1] at ha';cases ha';exact⟨_,_,_,rfl,rfl,r.notH (by omega),e2,t⟩
    ·rename_i ds e;cases q;let⟨a,vs,e1,c,n,e2,t⟩:=r.sl i _ e;rw[P5 e1] at ha';cases ha';exact⟨_,_,_,rfl,rfl,n,e2,t⟩
    ·cases q
 ·rename_i i;have ha':σ[i]?=some (some v):=ha;split at h
  ·rename_i e;cases h;let⟨q,e1,e2⟩:=r.sl i _ e;rw[P5 e2] at ha';cases ha';exact⟨q,e1,rfl⟩
  ·cases h
 ·rename_i i;have ha':σ[i]?=some (some v):=ha;cases q:slot2 ρ i with
  | none=>rw[q] at h;cases h
  | some dss=>rw[q] at h;cases h;let⟨a,as,e1,n,e2,t⟩:=r.slot2 q;rw[e1] at ha';cases ha';exact⟨a,as,dss,rfl,rfl,n,e2,t⟩
 ·cases h;exact ThV.mv (λb o z e=>⟨r.notH (by rw[show col b=0 from z];decide),e⟩) (r.pd _ ha)
 ·cases h;exact ThV.mv (λb o z e=>⟨z.2,e⟩) (r.le (r.pd _ ha))
 ·rename_i i;have ha':σ[i]?=some (some v):=ha;split at h
  ·rename_i e;cases h;let⟨v',e1,t⟩:=r.sl i _ e;rw[P5 e1] at ha';cases ha';exact ThV.mv (λb o z e=>⟨z.2,e⟩) (r.le t)
  ·rename_i e;cases h;let⟨v',e1,t⟩:=r.sl i _ e;rw[P5 e1] at ha';cases ha';exact ThV.mv (λb o z e=>⟨r.notH (by rw[show col b=0 from z];decide),e⟩) t
  ·cases h
 ·cases h
theorem B2l {col:Addr->Nat}{ρ:!Sl}{σ:St}{P:!Pe}{H:Hp}(r:G9 C col ρ σ P H):∀{ms:!Md}{vs:!V}{ds:!PyData}{as:!Ar},ArV σ P vs as->Y8 ρ ms as=some ds->y7 (Z col) C.hand H ms vs ds
 | [],_,_,_,.nil,h=>by cases h;exact .nil
 | [],_,_,_,.v _ _,h=>by cases h
 | [],_,_,_,.s _ _,h=>by cases h
 | [],_,_,_,.w _ _,h=>by cases h
 | _::_,_,_,_,.nil,h=>by cases h
 | m::ms,_,ds,_,.v (d:=d0) (as:=as) hm t,h=>by
  have h':((arD ρ m (.v d0)).bind λd=>(Y8 ρ ms as).map (d::·))=some ds:=h;cases q:arD ρ m (.v d0) with
  | none=>rw[q] at h';cases h'
  | some d=>
   rw[q] at h';have h2:(Y8 ρ ms as).map (d::·)=some ds:=h';cases q2:Y8 ρ ms as with
   | none=>rw[q2] at h2;cases h2
   | some ds'=>rw[q2] at h2;cases h2;exact .cons (B5t r (a:=.v d0) hm q) (B2l r t q2)
 | m::ms,_,ds,_,.s (i:=i) (as:=as) hm t,h=>by
  have h':((arD ρ m (.s i)).bind λd=>(Y8 ρ ms as).map (d::·))=some ds:=h;cases q:arD ρ m (.s i) with
  | none=>rw[q] at h';cases h'
  | some d=>
   rw[q] at h';have h2:(Y8 ρ ms as).map (d::·)=some ds:=h';cases q2:Y8 ρ ms as with
   | none=>rw[q2] at h2;cases h2
   | some ds'=>rw[q2] at h2;cases h2;exact .cons (B5t r (a:=.s i) hm q) (B2l r t q2)
 | m::ms,_,ds,_,.w (d:=d0) (as:=as) hm t,h=>by
  have h':((arD ρ m (.w d0)).bind λd=>(Y8 ρ ms as).map (d::·))=some ds:=h;cases q:arD ρ m (.w d0) with
  | none=>rw[q] at h';cases h'
  | some d=>
   rw[q] at h';have h2:(Y8 ρ ms as).map (d::·)=some ds:=h';cases q2:Y8 ρ ms as with
   | none=>rw[q2] at h2;cases h2
   | some ds'=>rw[q2] at h2;cases h2;exact .cons (B5t r (a:=.w d0) hm q) (B2l r t q2)
def A6k (ms:!Md)(sp:DSp)(u:DA)  (ρ:!Sl) (Q:PyData->!Sl->Prop):Prop:=u ρ λas ρ'=>bnd (Y8 ρ' ms as) λds=>sp ds λd=>Q d ρ'
theorem F8 {ms:!Md}{sp:DSp}{E:XK}(h:PE X e (C1s (spD ms sp) [] E (aOf C u))):PE X e (eOf C (A6k ms sp u)):=PE.wk h fun σ H Q zz35=>el3 zz35 fun ρ P Qd R ht k=>⟨ρ,P,_,R,ht,λvs as ρ' P' H' zz36 s p q=>zz36.elim λcol r=>by
 let⟨ds,hds,q⟩:=P3 q;rw[p8];let⟨col,r,tp⟩:=r.norm;refine⟨Z col,C.hand,ds,_,⟨r.fresh,tp⟩,λq hq z=>?_,r.hq,B2l r p hds,q,λd v H2 q2 t2 k2 h2=>k _ _ _ _ ⟨col,(((r.mv k2 h2).sub s)).push t2⟩ q2⟩;have:=r.hnd q hq;rw[show col q.1=0 from z] at this;cases this⟩
end
structure A91 (C:DC)(J:It)(xs:!PyData)(P:!Pe):Prop where
 go:∀{i:Nat}{ρ:!Sl}{σ:St}{P':!Pe}{H:Hp},(∀p∈P,p∈P')->Rel C ρ σ P' H->i<xs.length->J.go i H
 yld:∀{i:Nat}{ρ:!Sl}{σ:St}{P':!Pe}{H H':Hp}{x:V}{d:PyData},(∀p∈P,p∈P')->Rel C ρ σ P' H->xs[i]?=some d->J.yld i H x H'->Rel C ρ σ (.v x d::P') H'
 stop:∀{ρ:!Sl}{σ:St}{P':!Pe}{H:Hp},(∀p∈P,p∈P')->Rel C ρ σ P' H->J.stop xs.length H
theorem P7 {F:Addr->Prop}{H:Hp}{v:V}{xs:!PyData}(t:ThV F H v (.list xs)):∃a vs,v=.ref a/\F a/\H a=some (.lst vs)/\C3 F H vs xs:=by
 cases t with
 | lst za e t=>exact⟨_,_,rfl,za,e,t⟩
theorem y8 {F:Addr->Prop}{H:Hp}{v:V}{xs:!PyData}(t:ThV F H v (.tuple xs)):∃a vs,v=.ref a/\F a/\H a=some (.tup vs)/\C3 F H vs xs:=by
 cases t with
 | tup za e t=>exact⟨_,_,rfl,za,e,t⟩
def iOf (C:DC)(t:DF):TI:=fun σ H R=>∃ρ P Qd,Rel C ρ σ P H/\t ρ Qd/\∀xs ρ' P' H' J,Rel C ρ' σ P' H'->(∀p∈P,p∈P')->A91 C J xs P'->Qd xs ρ'->R J H'
section
variable {tg:Expr}{u:DF}
theorem PI.wk {tg e:Expr}{w w':TI}(h:PI X tg e w)(f:∀σ H R,w' σ H R->w σ H R):PI X tg e w':=λpins s σ H R I q=>h pins s σ H R I (f σ H R q)
theorem B2m {K:A8}{a:Addr}{vs:!V}{xs:!PyData}{P:!Pe}:A91 C (Itl K a) xs (.n a (.lst vs)::.s vs xs::P) where
 go:=λ{i ρ σ P' H} s R hi=>by
  let⟨col,r⟩:=R;have h1:=r.pd _ (s _ E5);have h2:C3 (Z col) H vs xs:=r.pd _ (s _ (E3 _ E5));have hl:=h2.len;exact⟨vs,vs[i],SqL.of h1.2.2,M8 (by omega)⟩
 yld:=λ{i ρ σ P' H H' x d} s R hi y=>by
  let⟨e,y⟩:=y;subst e;let⟨col,r⟩:=R;have h1:=r.pd _ (s _ E5);have h2:C3 (Z col) H' vs xs:=r.pd _ (s _ (E3 _ E5));have hx:=y vs (SqL.of h1.2.2);let⟨d',e1,t⟩:=h2.get hx;rw[hi] at e1;cases e1;exact⟨col,r.push t⟩
 stop:=λ{ρ σ P' H} s R=>by
  let⟨col,r⟩:=R;have h1:=r.pd _ (s _ E5);have h2:C3 (Z col) H vs xs:=r.pd _ (s _ (E3 _ E5));have hl:=h2.len;exact⟨vs,SqL.of h1.2.2,by omega⟩
def dIl (t:DE)  (ρ:!Sl) (Q:!PyData->!Sl->Prop):Prop:=t ρ λd ρ'=>bnd (V0 d) λxs=>Q xs ρ'
theorem B5u (h:PE X e (eOf C t)):PI X tg e (iOf C (dIl t)):=PI.wk (U9 h) λJ J J zz1=>el3 zz1 fun ρ P J R ht k=>⟨ρ,P,_,R,ht,λv d ρ' H' zz2 q=>zz2.elim λcol r=>by
 let⟨xs,hx,q⟩:=P3 q;have:=A6j hx;subst this;let⟨a,vs,rfl,za,e1,t1⟩:=P7 (show ThV (Z col) H' v (.list xs) from r.pd _ E5);refine⟨a,rfl,⟨vs,SqL.of e1⟩,k xs ρ' (.n a (.lst vs)::.s vs xs::P) H' _ ⟨col,?_⟩ (λJ h=>E3 _ (E3 _ h)) B2m q⟩;exact ((r.sub λJ h=>E3 _ h).add (x:=.s vs xs) t1).add (x:=.n a (.lst vs)) ⟨by rw[show col a=0 from za];decide,r.notH (by rw[show col a=0 from za];decide),e1⟩⟩
def dIv (i:Nat)  (ρ:!Sl) (Q:!PyData->!Sl->Prop):Prop:=match ρ[i]? with
 | some (.sh (.list xs))=>Q xs ρ
 | some (.ow xs)=>Q xs (ρ.set i (.sh (.list xs)))
 | some (.bo xs)=>Q xs ρ
 | _=>False
set_option tactic.hygienic true in
theorem A34 {i:Nat}(h:PE X e (A0g i)):PI X tg e (iOf C (dIv i)):=PI.wk (U9 h) fun σ H R' zz5=>el3 zz5 fun ρ P Qd zz6 ht k=>zz6.elim λcol r=>by
 unfold dIv at ht;split at ht
 ·rename_i xs e;let⟨v,e1,t⟩:=r.sl i _ e;let⟨a,vs,rfl,za,e2,t1⟩:=P7 t
  ·refine⟨_,P5 e1,a,rfl,⟨vs,SqL.of e2⟩,k xs ρ (.n a (.lst vs)::.s vs xs::P) H _ ⟨col,?_⟩ (λJ h=>E3 _ (E3 _ h)) B2m ht⟩;exact (r.add (x:=.s vs xs) t1).add (x:=.n a (.lst vs)) ⟨by rw[show col a=0 from za];decide,r.notH (by rw[show col a=0 from za];decide),e2⟩
 ·rename_i xs e;let⟨a,e1,col',r'⟩:=r.freeze e;let⟨a',vs,ea,za,e2,t1⟩:=P7 (show ThV (Z col') H (.ref a) (.list xs) from r'.pd _ E5);cases ea
  ·refine⟨_,P5 e1,a,rfl,⟨vs,SqL.of e2⟩,k xs _ (.n a (.lst vs)::.s vs xs::P) H _ ⟨col',?_⟩ (λJ h=>E3 _ (E3 _ h)) B2m ht⟩;exact ((r'.sub λJ h=>E3 _ h).add (x:=.s vs xs) t1).add (x:=.n a (.lst vs)) ⟨by rw[show col' a=0 from za];decide,r'.notH (by rw[show col' a=0 from za];decide),e2⟩
 ·rename_i xs e;let⟨a,vs,e1,c,n,e2,t⟩:=r.sl i _ e;exact⟨_,P5 e1,a,rfl,⟨vs,SqL.of e2⟩,k xs ρ (.n a (.lst vs)::.s vs xs::P) H _ ⟨col,(r.add (x:=.s vs xs) t).add (x:=.n a (.lst vs)) ⟨c,n,e2⟩⟩ (λJ h=>E3 _ (E3 _ h)) B2m ht⟩
 ·exact ht.elim
def g7 (lo:Int)(n:Nat):!PyData:=(U2 n).map λi=>.int (lo+((i:Nat):Int))
theorem D2k {lo:Int}{n i:Nat}{d:PyData}(h:(g7 lo n)[i]?=some d):i<n/\d=.int (lo+i):=by
 unfold g7 at h;rw[M2] at h;by_cases hi:i<n
 ·rw[C0t hi] at h;cases h;exact⟨hi,rfl⟩
 ·rw[A2g (by rw[m5];omega)] at h;cases h
theorem D2l {lo:Int}{n:Nat}{P:!Pe}:A91 C (Itr lo n) (g7 lo n) P where
 go:=λ{i _ _ _ _} _ _ hi=>by
  have:(g7 lo n).length=n:=by unfold g7;rw[B7,m5]
  show i<n;omega
 yld:=λ{i ρ σ P' H H' x d} _ R hi y=>by
  let⟨e1,e2⟩:=y;subst e1 e2;let⟨_,e3⟩:=D2k hi;subst e3;let⟨col,r⟩:=R;exact⟨col,r.push (.int _)⟩
 stop:=λJ J=>by
  have:(g7 lo n).length=n:=by unfold g7;rw[B7,m5]
  show n<=(g7 lo n).length;omega
def B5v (u:DF)  (ρ:!Sl) (Q:!PyData->!Sl->Prop):Prop:=u ρ λds ρ'=>match ds with
 | [.int j]=>(-(2^62)<=j/\j<2^62)/\Q (g7 0 j.toNat) ρ'
 | _=>False
theorem B2n (h:PI X tg e (C1d (vOf C u))):PI X tg e (iOf C (B5v u)):=PI.wk h λJ J J zz7=>el3 zz7 fun ρ P J R ht k=>⟨ρ,P,_,R,ht,λvs ds ρ' P' H' zz8 s p q=>zz8.elim λcol r=>by
 split at q
 ·have t:=p.th r;let⟨v,rfl,t1⟩:=A3y t;cases t1;exact⟨_,rfl,q.1.1,q.1.2,k _ _ P' _ _ ⟨col,r⟩ s D2l q.2⟩
 ·exact q.elim⟩
def A14 (xs:!PyData):!PyData:=xs.zipIdx.map λp=>.tuple [.int (p.2:Nat),p.1]
theorem D2m {xs:!PyData}{i:Nat}{d:PyData}(h:(A14 xs)[i]?=some d):∃x,xs[i]?=some x/\d=.tuple [.int (i:Nat),x]:=by
 unfold A14 at h;rw[M2,List.getElem?_zipIdx] at h;cases q:xs[i]? with
 | none=>rw[q] at h;cases h
 | some x=>rw[q] at h;cases h;exact⟨x,rfl,by rw[Nat.zero_add]⟩
theorem D2n {K:A8}{a:Addr}{vs:!V}{xs:!PyData}{P:!Pe}:A91 C (Ite K a) (A14 xs) (.n a (.lst vs)::.s vs xs::P) where
 go:=λ{i ρ σ P' H} s R hi=>by
  let⟨col,r⟩:=R;have h1:=r.pd _ (s _ E5);have h2:C3 (Z col) H vs xs:=r.pd _ (s _ (E3 _ E5));have hl:=h2.len;have hi':i<xs.length:=by unfold A14 at hi;rw[B7,List.length_zipIdx] at hi;exact hi
  exact⟨vs,vs[i],SqL.of h1.2.2,M8 (by omega)⟩
 yld:=λ{i ρ σ P' H H' x d} s R hi y=>by
  let⟨p,v,rfl,hp,rfl,y⟩:=y;let⟨col,r⟩:=R;have h1:=r.pd _ (s _ E5);have h2:C3 (Z col) H vs xs:=r.pd _ (s _ (E3 _ E5));have hx:=y vs (SqL.of h1.2.2);let⟨x,e1,rfl⟩:=D2m hi;let⟨d',e2,t⟩:=h2.get hx;rw[e1] at e2;cases e2;exact⟨col,r.tup (.cons (.int _) (.cons t .nil)) hp⟩
 stop:=λ{ρ σ P' H} s R=>by
  let⟨col,r⟩:=R;have h1:=r.pd _ (s _ E5);have h2:C3 (Z col) H vs xs:=r.pd _ (s _ (E3 _ E5));have hl:=h2.len;exact⟨vs,SqL.of h1.2.2,by unfold A14;rw[B7,List.length_zipIdx];omega⟩
def B5w (t:DE)  (ρ:!Sl) (Q:!PyData->!Sl->Prop):Prop:=t ρ λd ρ'=>bnd (V0 d) λxs=>Q (A14 xs) ρ'
theorem C3c {K:A8}(h:PI X tg e (C2o K (w4 (eOf C t) W8))):PI X tg e (iOf C (B5w t)):=PI.wk h λJ J J zz11=>el3 zz11 fun ρ P J R ht k=>⟨ρ,P,_,R,ht,λv d ρ' H' zz12 q=>zz12.elim λcol r=>by
 let⟨xs,hx,q⟩:=P3 q;have:=A6j hx;subst this;let⟨a,vs,rfl,za,e1,t1⟩:=P7 (show ThV (Z col) H' v (.list xs) from r.pd _ E5);refine⟨a,rfl,⟨vs,SqL.of e1⟩,k _ ρ' (.n a (.lst vs)::.s vs xs::P) H' _ ⟨col,?_⟩ (λJ h=>E3 _ (E3 _ h)) D2n q⟩;exact ((r.sub λJ h=>E3 _ h).add (x:=.s vs xs) t1).add (x:=.n a (.lst vs)) ⟨by rw[show col a=0 from za];decide,r.notH (by rw[show col a=0 from za];decide),e1⟩⟩
end
def A35 (tt:DT)(te:DE)(ρ:!Sl)(Q:!PyData->Prop):!PyData->!PyData->Prop
 | [],acc=>Q acc
 | x::r,acc=>tt (ρ++[.sh x]) λb ρ'=>ρ'=ρ++[.sh x]/\if b=true then te (ρ++[.sh x]) λd ρ''=>ρ''=ρ++[.sh x]/\A35 tt te ρ Q r (acc++[d]) else A35 tt te ρ Q r acc
def A15 (j:Nat)(it:DF)(tt:DT)(te:DE)  (ρ:!Sl) (Q:!PyData->!Sl->Prop):Prop:=it ρ λxs ρ1=>(ρ1.length=j/\xs.length<=1000)/\A35 tt te ρ1 (λds=>Q ds ρ1) xs []
def B5x  (ρ:!Sl) (Q:Bool->!Sl->Prop):Prop:=Q true ρ
theorem PTs.wk {es:!Expr}{t t':TT}(h:PTs X es t)(f:∀σ H Q,t' σ H Q->t σ H Q):PTs X es t':=λpins s σ H Q I q=>h pins s σ H Q I (f σ H Q q)
theorem A2y:PTs X [] (cOf C B5x):=PTs.wk m9 λJ J J zz13=>el3 zz13 λJ J J R ht k=>k _ _ _ R ht
theorem Rel.ext {ρ:!Sl}{σ:St}{P:!Pe}{H:Hp}{x:V}{d:PyData}(R:Rel C ρ σ (.v x d::P) H):Rel C (ρ++[.sh d]) (σ++[some x]) P H:=by
 let⟨col,r⟩:=R;have t:ThV (Z col) H x d:=r.pd _ E5;have r:=r.sub λJ h=>E3 _ h;refine⟨col,{ r with sl:=λi s e=>?_,len:=by rw[L3,L3,r.len];rfl }⟩;by_cases hi:i<ρ.length
 ·rw[A7h hi] at e;rw[A7h (by rw[<-r.len];exact hi)];exact r.sl i s e
 ·rw[A7g (by omega)] at e;rw[A7g (by rw[<-r.len];omega),<-r.len]
  match q:i-ρ.length with
  | 0=>rw[q] at e;cases e;exact⟨x,rfl,t⟩
  | n+1=>rw[q] at e;simp at e
theorem G9.unext {col:Addr->Nat}{ρ ρ':!Sl}{σ σ':St}{P:!Pe}{H:Hp}(r:G9 C col (ρ++ρ') (σ++σ') P H)(hl:ρ.length=σ.length):G9 C col ρ σ P H:=by
 refine { r with sl:=λi s e=>?_,len:=hl };have hi:=(X4.mp e).1;have:=r.sl i s (by rw[A7h hi];exact e);rw[A7h (by omega)] at this;exact this
theorem C3.snoc {F:Addr->Prop}{H:Hp}{vs:!V}{ds:!PyData}{v:V}{d:PyData}(t:C3 F H vs ds)(x:ThV F H v d):C3 F H (vs++[v]) (ds++[d]):=t.append (.cons x .nil)
theorem D2o {σ:St}{n j:Nat}{x:V}(h1:n=σ.length+1)(h2:j=σ.length):(T7 n j σ).set j (some x)=σ++[some x]:=by
 subst h1 h2;unfold T7;rw[B4k (by simp),List.set_append_right _ _ (G3 _),List.set_append_right _ _ (G3 _)];simp
theorem B5y {it:DF}{tt:DT}{te:DE}{n j:Nat}(hn:n=j+1){σ:St}{H:Hp}{Q:VK}(h:fOf C (A15 j it tt te) σ H Q):A7v (iOf C it) n j (λY=>cOf C tt) (λY=>eOf C te) σ H Q:=by
 let⟨ρ,P,Qd,R,ht,k⟩:=h;refine⟨ρ,P,_,R,ht,λxs ρ1 P1 H1 J R1 s1 io q=>?_⟩;let⟨⟨hj,hx⟩,q⟩:=q;have lz:∀m,m<=1000->m<=sizeLine:=λm hm=>A3h (B15 hm);refine⟨λi m ys H'=>m=xs.length-i/\i<=xs.length/\ys.length<=i/\∃acc,Rel C ρ1 σ (.s ys acc::P1) H'/\A35 tt te ρ1 (λds=>Qd ds ρ1) (xs.drop i) acc,⟨xs.length,by simp,Q7 _,G3 _,[],?_,q⟩,?_⟩
 ·let⟨col,r⟩:=R1;exact⟨col,r.add (x:=.s [] []) .nil⟩
 rintro i m ys H2 ⟨rfl,hi,hy,acc,R2,q2⟩;refine⟨lz _ (by omega),?_⟩;have sub2:∀p∈P1,p∈Pe.s ys acc::P1:=λY h=>E3 _ h;have hlen:ρ1.length=σ.length:=by let⟨col,r⟩:=R2;exact r.len
 by_cases hlt:i<xs.length
 ·rw[C0u hlt] at q2;refine .inr ⟨io.go sub2 R2 hlt,λys' H'=>ys'.length<=i+1/\∃acc,Rel C ρ1 σ (.s ys' acc::P1) H'/\A35 tt te ρ1 (λds=>Qd ds ρ1) (xs.drop (i+1)) acc,λys' H' zz14=>zz14.elim λh1 h2=>⟨xs.length-(i+1),by omega,rfl,hlt,h1,h2⟩,λx H3 y a=>?_⟩;have R3:=(io.yld sub2 R2 (M8 hlt) y).ext;rw[D2o (by rw[hn,<-hlen,hj]) (by rw[<-hlen,hj])];refine⟨_,_,_,R3,q2,λb ρ' H4 R4 q4=>?_⟩;let⟨rfl,q4⟩:=q4;cases b with
  | true=>refine L4 ⟨_,_,_,R4,by simpa using q4,λv d ρ'' H5 R5 q5=>?_⟩;let⟨rfl,q5⟩:=q5;refine⟨by rw[L3];simp;omega,acc++[d],?_,q5⟩;let⟨col,r⟩:=R5;have t1:ThV (Z col) H5 v d:=r.pd _ E5;have t2:C3 (Z col) H5 ys acc:=r.pd _ (E3 _ E5);exact⟨col,((r.unext hlen).sub λY h=>E3 _ (E3 _ h)).add (x:=.s (ys++[v]) (acc++[d])) (t2.snoc t1)⟩
  | false=>refine G5 ⟨by omega,acc,?_,by simpa using q4⟩;let⟨col,r⟩:=R4;exact⟨col,r.unext hlen⟩
 ·have e:i=xs.length:=by omega
  subst e;rw[List.drop_length] at q2;refine .inl ⟨io.stop sub2 R2,λp hp=>k _ _ _ _ _ ?_ hp q2⟩;let⟨col,r⟩:=R2;exact⟨col,r.sub λp hp=>E3 _ (s1 p hp),r.pd _ E5⟩
structure g8 where
 nx:!Sl->Prop
 rt:PyData->Prop
 bk:!Sl->Prop:=λ_=>False
 ct:!Sl->Prop:=λ_=>False
 ro:Sl->Prop:=λ_=>False
abbrev DS:=g8->!Sl->Prop
def D2p (C:DC)(col:Addr->Nat)(H:Hp)(v:V):Sl->Prop
 | .ow ds=>∃a vs,v=.ref a/\C.H0 a=none/\col a≠0/\H a=some (.lst vs)/\C3 (Z col) H vs ds
 | .o2 dss=>∃a as,v=.ref a/\(C.H0 a=none/\col a≠0)/\H a=some (.lst (as.map V.ref))/\(a::as).Nodup/\Rws (λb=>C.H0 b=none/\col b≠0) (Z col) H as dss
 | .di false ks=>∃a,v=.ref a/\C.H0 a=none/\H a=some (.dT (dEn ks))
 | _=>False
structure D2q (C:DC)(P:!Pe)(Dd:g8)(D:A0x):Prop where
 nx:∀ρ σ H,Rel C ρ σ P H->Dd.nx ρ->D.nx σ H
 rt:∀v d ρ σ H,Rel C ρ σ (.v v d::P) H->Dd.rt d->D.rt v H
 bk:∀ρ σ H,Rel C ρ σ P H->Dd.bk ρ->D.bk σ H
 ct:∀ρ σ H,Rel C ρ σ P H->Dd.ct ρ->D.ct σ H
 ro:∀(v:V)(s:Sl)(ρ:!Sl) σ H col,G9 C col ρ σ P H->D2p C col H v s->Dd.ro s->D.rt v H
def sOf (C:DC)(t:DS):TS:=λD σ H=>∃ρ P Dd,Rel C ρ σ P H/\t Dd ρ/\D2q C P Dd D
section
variable {st:Stmt}{sts:!Stmt}{t u:DS}{te:DE}{tf:DF}{c:DT}
theorem PS.wk {t t':TS}(h:PS X st t)(f:∀D σ H,t' D σ H->t D σ H):PS X st t':=λpins s σ H D I q=>h pins s σ H D I (f D σ H q)
theorem PSs.wk {t t':TS}(h:PSs X sts t)(f:∀D σ H,t' D σ H->t D σ H):PSs X sts t':=λpins s σ H D I q=>h pins s σ H D I (f D σ H q)
def A6l (t u:DS)  (D:g8) (ρ:!Sl):Prop:=t { D with nx:=u D } ρ
def A6m  (D:g8) (ρ:!Sl):Prop:=D.nx ρ
theorem X2:PSs X [] (sOf C A6m):=PSs.wk M9 λJ J J zz15=>el3 zz15 λJ J J R ht E=>E.nx _ _ _ R ht
theorem E9 (h:PS X st (sOf C t)):PSs X [st] (sOf C t):=C9 h
theorem J8 (h1:PS X st (sOf C t))(h2:PSs X sts (sOf C u)):PSs X (st::sts) (sOf C (A6l t u)):=PSs.wk (C0 h1 h2) λJ J J zz16=>el3 zz16 fun ρ P Dd R ht E=>⟨ρ,P,{ Dd with nx:=u Dd },R,ht,⟨fun ρ' J J R' h=>⟨ρ',P,Dd,R',h,E⟩,E.rt,E.bk,E.ct,E.ro⟩⟩
def Go (f:!Sl->Prop)(ρ:!Sl):Prop:=f ρ
theorem go {f:!Sl->Prop}{ρ:!Sl}(h:f ρ):Go f ρ:=h
def A02 (t u:DS)(D:g8)(ρ:!Sl):Prop:=t { D with nx:=Go (u D) } ρ
theorem L9 (h1:PS X st (sOf C t))(h2:PSs X sts (sOf C u)):PSs X (st::sts) (sOf C (A02 t u)):=PSs.wk (C0 h1 h2) λJ J J zz17=>el3 zz17 fun ρ P Dd R ht E=>⟨ρ,P,{ Dd with nx:=Go (u Dd) },R,ht,⟨fun ρ' J J R' h=>⟨ρ',P,Dd,R',h,E⟩,E.rt,E.bk,E.ct,E.ro⟩⟩
def B2o (t:DS)  (D:g8) (ρ:!Sl):Prop:=∃M:!Sl->Prop,t { D with nx:=M } ρ/\∀ρ',M ρ'->D.nx ρ'
theorem A92 (h:PS X st (sOf C t)):PS X st (sOf C (B2o t)):=PS.wk h λ_ _ _ ⟨ρ,P,Dd,R,⟨M,h1,h2⟩,E⟩=>⟨ρ,P,{ Dd with nx:=M },R,h1,⟨fun ρ' σ' H' R' h=>E.nx ρ' σ' H' R' (h2 ρ' h),E.rt,E.bk,E.ct,E.ro⟩⟩
theorem D2r:PS X st (sOf C λJ J=>False):=PS.wk Y5 λJ J J zz22=>el3 zz22 λJ J J J h J=>h
def A6n (te:DE)  (D:g8) (ρ:!Sl):Prop:=te ρ λd J=>D.rt d
theorem G7 (h:PE X e (eOf C te)):PS X (.Return (some e) pos) (sOf C (A6n te)):=PS.wk (G0 h) λJ J J zz23=>el3 zz23 fun ρ P J R ht E=>⟨ρ,P,_,R,ht,λv d J J R' q=>E.rt v d _ _ _ R' q⟩
def A6o (c:DT)(t u:DS)  (D:g8) (ρ:!Sl):Prop:=c ρ λb ρ'=>if b=true then t D ρ' else u D ρ'
theorem V9 {ce:Expr}{a b:!Stmt}(hc:PT X ce (cOf C c))(ha:PSs X a (sOf C t))(hb:PSs X b (sOf C u)):PS X (.If ce a b pos) (sOf C (A6o c t u)):=PS.wk (M5 hc ha hb) λJ J J zz26=>el3 zz26 fun ρ P Dd R ht E=>⟨ρ,P,_,R,ht,λb ρ' J R' q=>by
 cases b with
 | true=>exact L4 ⟨ρ',P,Dd,R',by simpa using q,E⟩
 | false=>exact G5 ⟨ρ',P,Dd,R',by simpa using q,E⟩⟩
def A36 (i:Nat)(te:DE)  (D:g8) (ρ:!Sl):Prop:=te ρ λd ρ'=>D.nx (ρ'.set i (.sh d))
theorem K0 {i:Nat}(hp:PS X st (A9p (eOf C te) (K1 i))):PS X st (sOf C (A36 i te)):=PS.wk hp λJ J J zz28=>el3 zz28 fun ρ P J R ht E=>⟨ρ,P,_,R,ht,λv d ρ' H' zz29 q=>zz29.elim λcol r=>E.nx _ _ _ ⟨col,((r.store (i:=i) (r.pd _ E5)).sub λJ h=>E3 _ h)⟩ q⟩
def A37 (i:Nat)(tf:DF)  (D:g8) (ρ:!Sl):Prop:=tf ρ λds ρ'=>D.nx (ρ'.set i (.ow ds))
theorem A2z {i:Nat}(hp:PS X st (A9p (fOf C tf) (K1 i))):PS X st (sOf C (A37 i tf)):=PS.wk hp λJ J J zz30=>el3 zz30 fun ρ P J R ht E=>⟨ρ,P,_,R,ht,λp vs ds ρ' H1 zz31 hp q=>el2 zz31 λcol r t=>E.nx _ _ _ (r.own t hp) q⟩
theorem D2s {i n j:Nat}{it:DF}{tt:DT}(hn:n=j+1)(hp:PS X st (λD σ H=>A7v (iOf C it) n j (λJ=>cOf C tt) (λJ=>eOf C te) σ H λv H1=>D.nx (σ.set i (some v)) H1)):PS X st (sOf C (A37 i (A15 j it tt te))):=
 PS.wk hp λJ J J zz32=>el3 zz32 fun ρ P J R ht E=>B5y hn ⟨ρ,P,_,R,ht,λp vs ds ρ' H1 zz33 hp q=>el2 zz33 λcol r t=>E.nx _ _ _ (r.own t hp) q⟩
theorem D2t {i n j:Nat}{it:DF}{tt:DT}(hn:n=j+1)(hp:PS X st (λD σ H=>A7v (iOf C it) n j (λJ=>cOf C tt) (λJ=>eOf C te) σ H λv H1=>D.nx (σ.set i (some v)) H1)):PS X st (sOf C (A36 i (dF (A15 j it tt te)))):=
 PS.wk hp λJ J J zz34=>el3 zz34 fun ρ P J R ht E=>B5y hn ⟨ρ,P,_,R,ht,λp vs ds ρ' H1 zz35 hp q=>el2 zz35 λcol r t=>E.nx _ _ _ ⟨col,(((r.lst t hp).store (i:=i) ((r.lst t hp).pd _ E5)).sub λJ h=>E3 _ h)⟩ q⟩
def A38 (i:Nat)(te:DE)  (D:g8) (ρ:!Sl):Prop:=match ρ[i]? with
 | some (.ow _)=>te ρ λd ρ'=>match ρ'[i]? with
  | some (.ow ds)=>ds.length<=1000/\D.nx (ρ'.set i (.ow (ds++[d])))
  | _=>False
 | _=>False
set_option tactic.hygienic true in
theorem A79 {i:Nat}{K:A8}(hp:PS X st (C06 (tBM K "list" B45 (A0g i) (w4 (eOf C te) W8)))):PS X st (sOf C (A38 i te)):=PS.wk hp λD σ H zz36=>el3 zz36 fun ρ P Dd zz37 ht E=>zz37.elim λcol r=>by
 unfold A38 at ht;split at ht
 ·rename_i ds0 e0;let⟨a,vs,e1,c,n,e2,t⟩:=r.sl i _ e0;refine⟨.ref a,P5 e1,.inl ⟨rfl,vs,SqL.of e2⟩,ρ,P,_,⟨col,r⟩,ht,λv d ρ' H' zz38 q=>zz38.elim λcol' r'=>?_⟩;split at q
  ·rename_i ds e0';let⟨a',vs',e1',c',n',e2',t'⟩:=r'.sl i _ e0';rw[e1] at e1';cases e1';exact⟨a,vs',v,rfl,rfl,e2',by rw[t'.len];exact B15 q.1,E.nx _ _ _ ⟨col',((r'.write e0' e1 (t'.snoc (r'.pd _ E5)))).sub λJ h=>E3 _ h⟩ q.2⟩
  ·exact q.elim
 ·exact ht.elim
def A6p (i:Nat)(te tk:DE)  (D:g8) (ρ:!Sl):Prop:=te ρ λd ρ1=>match ρ1[i]? with
 | some (.ow _)=>tk ρ1 λk ρ2=>match ρ2[i]? with
  | some (.ow ds)=>match k with
   | .int k=>bnd (ixN ds.length k) λj=>D.nx (ρ2.set i (.ow (ds.set j d)))
   | _=>False
  | _=>False
 | _=>False
theorem C3.set {F:Addr->Prop}{H:Hp}{v:V}{d:PyData}(x:ThV F H v d):∀{vs:!V}{ds:!PyData}(j:Nat),C3 F H vs ds->C3 F H (vs.set j v) (ds.set j d)
 | _,_,_,.nil=>.nil
 | _,_,0,.cons _ t=>.cons x t
 | _,_,j+1,.cons y t=>.cons y (C3.set x j t)
set_option tactic.hygienic true in
theorem A93 {i:Nat}{tk:DE}(hp:PS X st (A9p (eOf C te) (C09 (A0g i) (eOf C tk) C17))):PS X st (sOf C (A6p i te tk)):=PS.wk hp λD σ H zz39=>el3 zz39 fun ρ P Dd R ht E=>⟨ρ,P,_,R,ht,λv d ρ1 H1 zz40 q1=>zz40.elim λcol1 r1=>by
 split at q1
 ·rename_i ds0 e0;let⟨a,vs,e1,c,n,e2,t⟩:=r1.sl i _ e0;refine⟨.ref a,P5 e1,ρ1,_,_,⟨col1,r1⟩,q1,λw k ρ2 H2 zz41 q2=>zz41.elim λcol2 r2=>?_⟩;split at q2
  ·rename_i ds e0';cases k with
   | int k'=>let⟨j,hj,q⟩:=P3 q2;let⟨a',vs',e1',c',n',e2',t'⟩:=r2.sl i _ e0';rw[e1] at e1';cases e1';have tw:ThV (Z col2) H2 w (.int k'):=r2.pd _ E5;cases tw;refine⟨a,vs',k',j,rfl,rfl,e2',by rw[t'.len];exact hj,E.nx _ _ _ ⟨col2,((r2.write e0' e1 (C3.set (r2.pd (.v v d) (E3 _ E5)) j t'))).sub λJ h=>E3 _ (E3 _ h)⟩ q⟩
   | _=>exact q2.elim
  ·exact q2.elim
 ·exact q1.elim⟩
abbrev DG:=PyData->!Sl->(!Sl->Prop)->Prop
def gOf (C:DC)(g:DG):TG:=λv σ H Q=>∃ρ P d Qd,Rel C ρ σ (.v v d::P) H/\g d ρ Qd/\∀ρ' σ',Rel C ρ' σ' P H->Qd ρ'->Q σ' H
theorem PG.wk {tg:Expr}{g g':TG}(h:PG X tg g)(f:∀v σ H Q,g' v σ H Q->g v σ H Q):PG X tg g':=λpins s σ H v u Q I r q=>h pins s σ H v u Q I r (f v σ H Q q)
def gN (i:Nat)  (d:PyData) (ρ:!Sl) (Q:!Sl->Prop):Prop:=Q (ρ.set i (.sh d))
theorem A94 {tg:Expr}{i:Nat}(h:PG X tg (K1 i)):PG X tg (gOf C (gN i)):=PG.wk h λ_ _ _ _ ⟨_,_,_,_,⟨col,r⟩,ht,k⟩=>k _ _ ⟨col,((r.store (i:=i) (r.pd _ E5)).sub λJ h=>E3 _ h)⟩ ht
def gT2 (i j:Nat)  (d:PyData) (ρ:!Sl) (Q:!Sl->Prop):Prop:=match d with
 | .tuple [a,b]=>Q ((ρ.set i (.sh a)).set j (.sh b))
 | _=>False
set_option tactic.hygienic true in
theorem C3d {tg:Expr}{i j:Nat}{K:A8}(h:PG X tg (C08 K 2 (B4w (K1 i) (B4w (K1 j) C07)))):PG X tg (gOf C (gT2 i j)):=PG.wk h λv σ H Q ⟨ρ,P,d,Qd,⟨col,r⟩,ht,k⟩=>by
 unfold gT2 at ht;split at ht
 ·rename_i a b;have z:ThV (Z col) H v (.tuple [a,b]):=r.pd _ E5;cases z with
  | tup za e t=>let⟨x,y,rfl,t1,t2⟩:=g6 t;exact⟨_,_,rfl,SqT.of e,rfl,x,[y],rfl,y,[],rfl,rfl,k _ _ ⟨col,(((r.store (i:=i) t1).store (i:=j) t2).sub λJ h=>E3 _ h)⟩ ht⟩
 ·exact ht.elim
def Blk (t:DS)(D:g8)(ρ:!Sl):Prop:=t D ρ
def B5z (it:DF)(g:DG)(tb:DS)(D:g8)(ρ:!Sl):Prop:=it ρ λxs ρ1=>∃I:!PyData->!Sl->Prop,I xs ρ1/\(∀x r ρ,I (x::r) ρ->g x ρ (Blk tb { nx:=I r,ct:=I r,bk:=D.nx,rt:=D.rt }))/\∀ρ,I [] ρ->D.nx ρ
theorem A6q {it:DF}{g:DG}{tb:DS}(hp:PS X st (C1e (iOf C it) (gOf C g) (sOf C tb))):PS X st (sOf C (B5z it g tb)):=PS.wk hp λD σ H zz46=>el3 zz46 fun ρ P Dd R ht E=>⟨ρ,P,_,R,ht,λxs ρ1 P1 H1 J R1 s1 io q=>by
 let⟨I,q0,qs,qd⟩:=q;refine⟨λi m σ' H'=>m=xs.length-i/\i<=xs.length/\∃ρ',Rel C ρ' σ' P1 H'/\I (xs.drop i) ρ',⟨xs.length,by simp,Q7 _,ρ1,R1,q0⟩,?_⟩;rintro i m σ2 H2 ⟨rfl,hi,ρ2,R2,q2⟩;by_cases hlt:i<xs.length
 ·rw[C0u hlt] at q2;refine .inr ⟨io.go (λY h=>h) R2 hlt,fun σ' H'=>∃ρ',Rel C ρ' σ' P1 H'/\I (xs.drop (i+1)) ρ',fun σ' H' h=>⟨xs.length-(i+1),by omega,rfl,hlt,h⟩,λx H3 y=>?_⟩;refine⟨ρ2,P1,_,_,io.yld (λY h=>h) R2 (M8 hlt) y,qs _ _ _ q2,fun ρ3 σ3 R3 q3=>?_⟩;refine⟨ρ3,P1,⟨I (xs.drop (i+1)),Dd.rt,Dd.nx,I (xs.drop (i+1)),λY=>False⟩,R3,q3,⟨fun ρ4 σ4 H4 R4 q4=>⟨ρ4,R4,q4⟩,λv d ρ4 σ4 H4 R4 q4=>E.rt v d ρ4 σ4 H4 (R4.sub (C24 s1)) q4,fun ρ4 σ4 H4 R4 q4=>E.nx ρ4 σ4 H4 (R4.sub s1) q4,fun ρ4 σ4 H4 R4 q4=>⟨ρ4,R4,q4⟩,λY Y Y Y Y Y Y Y h=>h.elim⟩⟩
 ·have e:i=xs.length:=by omega
  subst e;rw[List.drop_length] at q2;exact .inl ⟨io.stop (λY h=>h) R2,E.nx _ _ _ (R2.sub s1) (qd _ q2)⟩⟩
def A8a (c:DT)(tb:DS)  (D:g8) (ρ:!Sl):Prop:=∃W:Nat->!Sl->Prop,(∃m,W m ρ)/\∀m ρ,W m ρ->c ρ λb ρ1=>if b=true then Blk tb { nx:=fun ρ'=>∃m',m'<m/\W m' ρ',ct:=fun ρ'=>∃m',m'<m/\W m' ρ',bk:=D.nx,rt:=D.rt } ρ1 else D.nx ρ1
theorem A95 {tb:DS}(hp:PS X st (B4x (cOf C c) (sOf C tb))):PS X st (sOf C (A8a c tb)):=PS.wk hp λD σ H ⟨ρ,P,Dd,R,⟨W,⟨m0,w0⟩,turn⟩,E⟩=>by
 exists λm σ' H'=>∃ρ',Rel C ρ' σ' P H'/\W m ρ',⟨m0,ρ,R,w0⟩;rintro m σ1 H1 ⟨ρ1,R1,w1⟩;refine⟨ρ1,P,_,R1,turn m ρ1 w1,λb ρ2 H2 R2 q2=>?_⟩;cases b with
 | true=>refine L4 ⟨fun σ' H'=>∃ρ',Rel C ρ' σ' P H'/\∃m',m'<m/\W m' ρ',fun σ' H' zz48=>zz48.elim fun ρ' zz49=>zz49.elim λR' zz50=>zz50.elim λm' zz51=>zz51.elim λhm w=>⟨m',hm,ρ',R',w⟩,ρ2,P,⟨fun ρ'=>∃m',m'<m/\W m' ρ',Dd.rt,Dd.nx,fun ρ'=>∃m',m'<m/\W m' ρ',λJ=>False⟩,R2,by simpa [Blk] using q2,⟨fun ρ4 σ4 H4 R4 q4=>⟨ρ4,R4,q4⟩,E.rt,fun ρ4 σ4 H4 R4 q4=>E.nx ρ4 σ4 H4 R4 q4,fun ρ4 σ4 H4 R4 q4=>⟨ρ4,R4,q4⟩,λJ J J J J J J J h=>h.elim⟩⟩
 | false=>exact G5 (E.nx _ _ _ R2 (by simpa using q2))
end
open PySem.Spec PyProof.Rows
def y9:Md->PyData->Sl
 | .sh,d=>.sh d
 | .bo,.list ds=>.bo ds
 | .bo,_=>.no
 | .hd,_=>.hd
 | .b2,d=>match B5r d with
  | some dss=>.b2 dss
  | none=>.no
 | .bd,d=>.bd d
theorem C3e:∀dss:!(!PyData),A33 (lls dss)=some dss
 | []=>rfl
 | ds::dss=>by
  show (A33 (lls dss)).map (ds::·)=some (ds::dss);rw[C3e dss];rfl
theorem D2u (dss:!(!PyData)):y9 .b2 (.list (lls dss))=.b2 dss:=by
 show (match A33 (lls dss) with
  | some dss=>Sl.b2 dss
  | none=>.no)=_
 rw[C3e]
def A39 (n:Nat):!Md->!PyData->!Sl
 | m::ms,d::ds=>y9 m d::A39 (n-1) ms ds
 | _,_=>G1 n .no
def A03:!Str->!Md->!PyData->!Sl
 | [],_,_=>[]
 | _::N,ms,ds=>(match ms,ds with
  | m::_,d::_=>y9 m d
  | _,_=>.no)::A03 N ms.tail ds.tail
theorem C3f:∀N:!Str,A03 N [] []=G1 N.length .no
 | []=>rfl
 | _::N=>by
  show Sl.no::A03 N [] []=_;rw[C3f N];rfl
theorem C3g:∀{N:!Str}{ms:!Md}{ds:!PyData},ms.length<=N.length->ds.length=ms.length->A03 N ms ds=A39 N.length ms ds
 | N,[],[],_,_=>C3f N
 | _::N,m::ms,d::ds,h1,h2=>by
  show y9 m d::A03 N ms ds=y9 m d::A39 (N.length+1-1) ms ds;rw[C3g (by simpa using h1) (by simpa using h2)];rfl
 | [],_::_,_,h,_=>by simp at h
 | _,[],_::_,_,h=>by simp at h
 | _,_::_,[],_,h=>by simp at h
section
variable {P:Program}{w:World}{K:A8}{mg:Str->Option Value}{base:Heap}
theorem D2v {C:DC}{col:Addr->Nat}{H:Hp}{F:Addr->Prop}{hand:Option (Addr×Addr)}(hC:C.hand=hand)(hH:C.H0=H)(f:∀b,F b->col b=0)(lo:∀b,col b<=1){ms:!Md}{vs:!V}{ds:!PyData}{n:Nat}(ar:y7 F hand H ms vs ds) :
  ∀(i:Nat)(s:Sl),(A39 n ms ds)[i]?=some s->∀j:Nat,SlR C col H j ((vs.map some++G1 (n-vs.length) none)[i]?).join s:=by
 induction ar generalizing n with
 | nil=>
  intro i s e j;have e':(G1 n Sl.no)[i]?=some s:=e;rw[C0n] at e';split at e'
  ·cases e';trivial
  ·cases e'
 | @cons m v d ms vs ds a t ih=>
  intro i s e j;have e':(y9 m d::A39 (n-1) ms ds)[i]?=some s:=e;cases i with
  | zero=>
   cases e';show SlR C col H j (some v) (y9 m d);have mv0:∀b o,F b->H b=some o->Z col b/\H b=some o:=λb o z e=>⟨f b z,e⟩;cases m with
   | sh=>exact⟨v,rfl,ThV.mv mv0 a⟩
   | bo=>let⟨ad,us,es,rfl,rfl,nh,e2,t2⟩:=a;exact⟨ad,us,rfl,lo ad,by rw[hC];exact nh,e2,C3.mv mv0 t2⟩
   | hd=>let⟨q,hq,rfl⟩:=a;exact⟨q,hC.trans hq,rfl⟩
   | b2=>let⟨ad,as,dss,rfl,rfl,nh,e2,t2⟩:=a;rw[D2u];exact⟨ad,as,rfl,⟨lo ad,by rw[hC];exact nh⟩,e2,t2.mv mv0 λb o g e=>⟨⟨lo b,by rw[hC];exact g⟩,e⟩⟩
   | bd=>exact⟨v,rfl,ThV.mv (λb o g e=>⟨⟨(by rw[hH,e];exact λq=>nomatch q),by rw[hC];exact g⟩,by rw[hH];exact e⟩) a⟩
  | succ i=>have:=ih (n:=n-1) i s e' j;rw[K9,A0f,A9l,J6,show n-(vs.length+1)=n-1-vs.length by omega];exact this
theorem D2w {F:Addr->Prop}{hand:Option (Addr×Addr)}{H:Hp}{ms:!Md}{vs:!V}{ds:!PyData}{n:Nat}(a:y7 F hand H ms vs ds)(h:ms.length<=n):(A39 n ms ds).length=n:=by
 induction a generalizing n with
 | nil=>show (G1 n Sl.no).length=n;rw[d9]
 | @cons m v d ms vs ds a t ih=>show (y9 m d::A39 (n-1) ms ds).length=n;rw[J6] at h;rw[J6,ih (by omega)];omega
open Classical in
theorem K4 {x qual:Str}{st:Stmt}{f:Addr}{fd:FuncData}{N ps:!Str}{k:Nat}{sp:DSp}{ms:!Md}(F:Fun K x qual st f fd)(S:C8 N ps (B5 st))(hm:ms.length=ps.length)
  (hb:∀(C:DC)(cdv:Value)(A:Around)(outer:!Env)(s:Shared)(H:Hp)(E:XK),Q5 k (A.deeper (envOfC qual (B5 st) s.heap.objs.size f cdv))->
   ∃t,PSs (J3 CX0 P w K mg base N qual (B5 st) f cdv A outer s H E).nox (A2r st) (sOf C t)/\∀ds Q,ds.length=ms.length->sp ds Q->t { nx:=λJ=>Q .none,rt:=Q } (A03 N ms ds)) :
  C5 P w K mg base CX0 (k+1) f fd ps (spD ms sp):=by
 refine F.ok S (λJ H Q J h=>?_) (λcdv A outer s H J Q E hr h=>?_)
 ·let⟨_,_,_,_,_,_,_,a,_⟩:=h;rw[a.len.1,hm]
 ·let⟨G,hand,ds,Qd,h1,h2,h3,a,h4,h5⟩:=h;let⟨t,ht,q⟩:=hb ⟨G,hand,H⟩ cdv A outer s H E hr;have hN:ps.length<=N.length:=by have:=congrArg B07 S.pre;rw[X5] at this;omega
  let col:Addr->Nat:=λb=>if G b then 0 else 1
  have c0:∀b,G b->col b=0:=λb hb=>if_pos hb;have c1:∀b,¬ G b->col b=1:=λb hb=>if_neg hb;have lo:∀b,col b<=1:=λb=>by
   by_cases z:G b
   ·rw[c0 b z];omega
   ·rw[c1 b z];omega
  refine⟨_,ht,A39 N.length ms ds,[],⟨λJ=>Qd .none,Qd,λJ=>False,λJ=>False,λJ=>False⟩,⟨col,λb hb=>c0 b (h1.1 b hb),λb hb=>?_,λq hq=>c1 _ (h2 q hq),λi s e=>D2v (C:=⟨G,hand,H⟩) rfl rfl c0 lo a i s e i,λp hp=>(nomatch hp),Kq.refl,h3,h3,h1,?_⟩,by rw[<-C3g (by omega) a.len.2];exact q ds Qd a.len.2 h4,⟨fun ρ σ H' R h=>?_,λv d ρ σ H' R h=>?_,λJ J J J h=>h.elim,λJ J J J h=>h.elim,λJ J J J J J J J h=>h.elim⟩⟩
  ·by_cases z:G b
   ·exact z
   ·rw[c1 b z] at hb;cases hb
  ·rw[D2w a (by omega)];unfold Lake.start;rw[L3,B7,d9,a.len.1];omega
  ·let⟨col',r⟩:=R;exact h5 _ _ _ h .non r.kq r.hq
  ·let⟨col',r⟩:=R;exact h5 _ _ _ h (ThV.mv (λb o z e=>⟨r.inF b z,e⟩) (r.pd _ E5)) r.kq r.hq
open Classical in
end
end Tactic
namespace Tactic
open PySem Lake
variable {X:Cx}{C:DC}{e:Expr}{pos:Pos}
section
variable {tg a b:Expr}{t ta tb:DE}{u:DF}
def A16:!PyData->Option (!Int)
 | []=>some []
 | .int b::r=>(A16 r).map (b::·)
 | _::_=>none
theorem B50 {F:Addr->Prop}{H:Hp}{ds:!PyData}{vs:!V}{bs:!Int}(t:C3 F H vs ds)(h:A16 ds=some bs):vs=bs.map V.int:=by
 induction ds generalizing vs bs with
 | nil=>cases t;cases h;rfl
 | cons d r ih=>
  cases t with
  | cons x y=>
   cases x with
   | int b=>
    have h':(A16 r).map (b::·)=some bs:=h;cases q:A16 r with
    | none=>rw[q] at h';cases h'
    | some cs=>rw[q] at h';cases h';rw[ih y q];rfl
   | _=>cases h
theorem A8b:∀ns:!Int,A16 (ns.map PyData.int)=some ns
 | []=>rfl
 | n::ns=>by
  show (A16 (ns.map PyData.int)).map (n::·)=some (n::ns);rw[A8b ns];rfl
def gIn (neg:Bool)  (a b:PyData) (Q:PyData->Prop):Prop:=match a,b with
 | .int i,.list xs=>bnd (A16 xs) λns=>Q (.bool (if neg then not (ns.contains i) else ns.contains i))
 | _,_=>False
theorem C3h (i:Int):∀ns:!Int,inV (V.int i) (ns.map V.int)=ns.contains i
 | []=>rfl
 | n::ns=>by
  have:=C3h i ns;unfold inV at this ⊢;rw[K9,A45,this,List.contains_cons];congr 1;show (n == i)=(i == n);exact Bool.beq_comm
theorem C3i:∀ns:!Int,(ns.map V.int).all A2q=true
 | []=>rfl
 | n::ns=>by rw[K9,List.all_cons,C3i ns];rfl
theorem D2x {K:A8}{neg:Bool}:X1 C (rIn K neg) (gIn neg):=by
 intro ρ σ P H v w a b Qd Q R hg k;unfold gIn at hg;split at hg
 ·let⟨ns,hn,q⟩:=P3 hg;let⟨col,r,t1,t2⟩:=th2 R;cases t1;cases t2 with
  | lst za e t=>have z:=B50 t hn;subst z;refine⟨_,_,rfl,.inl (SqL.of e),rfl,C3i ns,k _ _ _ ⟨col,r.push ?_⟩ q⟩;rw[C3h];exact .bl _
 ·exact hg.elim
def A6r (i:Nat)(tk:DE)  (ρ:!Sl) (Q:PyData->!Sl->Prop):Prop:=bnd (X0 ρ i) λa0=>bnd (V0 a0) λJ=>tk ρ λk ρ2=>match k with
 | .int k=>bnd (X0 ρ2 i) λa=>bnd (V0 a) λxs=>bnd (A16 xs) λns=>(k∈ns/\ns.length<=100000)/\Q (.int (ns.idxOf k:Nat)) ρ2
 | _=>False
set_option tactic.hygienic true in
theorem C3j {i:Nat}{K:A8}(h:PE X e (tBM K "list" (C2q K) (A0g i) (w4 (eOf C t) W8))):PE X e (eOf C (A6r i t)):=PE.wk h fun σ H Q zz1=>el3 zz1 fun ρ P Qd zz2 ht k=>zz2.elim λcol0 r0=>by
 let⟨a0,h0,ht⟩:=P3 ht;let⟨xs0,hx0,ht⟩:=P3 ht;have:=A6j hx0;subst this;let⟨v,ev,t0⟩:=r0.slot h0;let⟨a,vs,rfl,e0,_⟩:=t0.lst;refine⟨_,ev,.inl ⟨rfl,vs,SqL.of e0⟩,ρ,P,_,⟨col0,r0⟩,ht,λw d ρ2 H2 R2 h2=>?_⟩;split at h2
 ·rename_i kk;let⟨a1,h1,h2⟩:=P3 h2;let⟨xs,hx,h2⟩:=P3 h2;let⟨ns,hn,⟨hk,hz⟩,q⟩:=P3 h2;have:=A6j hx;subst this;let⟨col,r⟩:=R2;let⟨v',ev',t1⟩:=r.slot h1;rw[ev] at ev';cases ev';let⟨a',vs',e',e1,t1⟩:=t1.lst;cases e';have z:=B50 t1 hn;subst z;have tw:ThV (Z col) H2 w (.int kk):=r.pd _ E5;cases tw;exact⟨a,ns,kk,rfl,rfl,SqL.of e1,hk,hz,k _ _ _ _ ⟨col,(r.sub λJ h=>E3 _ h).push (.int _)⟩ q⟩
 ·exact h2.elim
def A6s (t:DE)  (ρ:!Sl) (Q:!PyData->!Sl->Prop):Prop:=t ρ λd ρ'=>bnd (V0 d) λxs=>Q xs.reverse ρ'
theorem C3.rev {F:Addr->Prop}{H:Hp}{vs:!V}{ds:!PyData}(t:C3 F H vs ds):C3 F H vs.reverse ds.reverse:=by
 induction vs generalizing ds with
 | nil=>cases t;exact .nil
 | cons v vs ih=>
  cases t with
  | cons x t=>rw[C0r,C0r];exact (ih t).append (.cons x .nil)
theorem D2y {K:A8}(h:PE X e (fun σ H Q=>w4 (eOf C t) W8 σ H λvs H1=>∃a xs,vs=[.ref a]/\SqL K H1 a xs/\∀p,H1 p=none->Q (.ref p) (upd H1 p (.lst xs.reverse)))):PE X e (fOf C (A6s t)):=PE.wk h λJ J J zz3=>el3 zz3 fun ρ P J R ht k=>⟨ρ,P,_,R,ht,λv d ρ' H' zz4 q=>zz4.elim λcol r=>by
 let⟨xs,hx,q⟩:=P3 q;have:=A6j hx;subst this;let⟨a,vs,rfl,e,t⟩:=Red.lst (.th (r.pd _ E5));exact⟨a,vs,rfl,SqL.of e,λp hp=>k _ _ _ _ _ ⟨col,r.sub λJ h=>E3 _ h,t.rev⟩ hp q⟩⟩
theorem D2z {K:A8}{a:Addr}{vs:!V}{xs:!PyData}{P:!Pe}:A91 C (Itv K a vs.length) xs.reverse (.n a (.lst vs)::.s vs xs::P) where
 go:=λ{i ρ σ P' H} s R hi=>by
  let⟨col,r⟩:=R;have h1:=r.pd _ (s _ E5);have h2:C3 (Z col) H vs xs:=r.pd _ (s _ (E3 _ E5));have hl:=h2.len;rw[A7l] at hi;exact⟨vs,vs.reverse[i]'(by rw[A7l];omega),SqL.of h1.2.2,rfl,M8 _⟩
 yld:=λ{i ρ σ P' H H' x d} s R hi y=>by
  let⟨e,y⟩:=y;subst e;let⟨col,r⟩:=R;have h1:=r.pd _ (s _ E5);have h2:C3 (Z col) H' vs xs:=r.pd _ (s _ (E3 _ E5));have hx:=y vs (SqL.of h1.2.2);let⟨d',e1,t⟩:=h2.rev.get hx;rw[hi] at e1;cases e1;exact⟨col,r.push t⟩
 stop:=λ{ρ σ P' H} s R=>by
  let⟨col,r⟩:=R;have h2:C3 (Z col) H vs xs:=r.pd _ (s _ (E3 _ E5));have hl:=h2.len;show vs.length<=xs.reverse.length;rw[A7l];omega
def B51 (t:DE)  (ρ:!Sl) (Q:!PyData->!Sl->Prop):Prop:=t ρ λd ρ'=>bnd (V0 d) λxs=>Q xs.reverse ρ'
theorem D20 {K:A8}(h:PI X tg e (C2t K (w4 (eOf C t) W8))):PI X tg e (iOf C (B51 t)):=PI.wk h λJ J J zz5=>el3 zz5 fun ρ P J R ht k=>⟨ρ,P,_,R,ht,λv d ρ' H' zz6 q=>zz6.elim λcol r=>by
 let⟨xs,hx,q⟩:=P3 q;have:=A6j hx;subst this;let⟨a,vs,rfl,za,e1,t1⟩:=P7 (show ThV (Z col) H' v (.list xs) from r.pd _ E5);refine⟨a,vs,rfl,SqL.of e1,k _ ρ' (.n a (.lst vs)::.s vs xs::P) H' _ ⟨col,?_⟩ (λJ h=>E3 _ (E3 _ h)) D2z q⟩;exact ((r.sub λJ h=>E3 _ h).add (x:=.s vs xs) t1).add (x:=.n a (.lst vs)) ⟨by rw[show col a=0 from za];decide,r.notH (by rw[show col a=0 from za];decide),e1⟩⟩
theorem A20 {n j:Nat}{it:DF}{tt:DT}{te:DE}(hn:n=j+1)(h:PE X e (A7v (iOf C it) n j (λJ=>cOf C tt) (λJ=>eOf C te))):PE X e (fOf C (A15 j it tt te)):=PE.wk h λJ J J h=>B5y hn h
end
theorem B2p {α:Type}{x:α}{xs:!α}:atI (x::xs) 0=some x:=f7 (j:=0) rfl
theorem A8c {α:Type}{x:α}:atI [x] 0=some x:=rfl
theorem A8d {α:Type}{x y:α}:atI [x,y] 0=some x:=rfl
theorem A8e {α:Type}{x y:α}:atI [x,y] 1=some y:=rfl
theorem A8f {α:Type}{x y z:α}:atI [x,y,z] 0=some x:=rfl
theorem A8g {α:Type}{x y z:α}:atI [x,y,z] 1=some y:=rfl
theorem A8h {α:Type}{x y z:α}:atI [x,y,z] 2=some z:=rfl
theorem A8i {a b:Prop}:(if true=true then a else b)=a:=rfl
theorem A8j {a b:Prop}:(if false=true then a else b)=b:=rfl
theorem A8k {a b:Bool}:(if true=true then a else b)=a:=rfl
theorem A8l {a b:Bool}:(if false=true then a else b)=b:=rfl
theorem A8m {a b:Int}:(if true=true then a else b)=a:=rfl
theorem A8n {a b:Int}:(if false=true then a else b)=b:=rfl
theorem A8o {α:Type}{a:α}{Q:α->Prop}:bnd (some a) Q=Q a:=rfl
theorem A21 {α:Type}{te:DE}{ρ:!Sl}{Q:!PyData->Prop}{g f:α->PyData}:∀{xs:!α}{acc:!PyData},(∀x∈xs,∀Q':PyData->!Sl->Prop,Q' (f x) (ρ++[.sh (g x)])->te (ρ++[.sh (g x)]) Q')->Q (acc++xs.map f)->A35 B5x te ρ Q (xs.map g) acc
 | [],acc,_,q=>by
  have q':Q (acc++[]):=q;rw[p8] at q';exact q'
 | x::r,acc,h,q=>by
  exists rfl;rw[if_pos rfl];refine h x E5 _ ⟨rfl,A21 (λy hy=>h y (E3 _ hy)) ?_⟩;rw[j9];exact q
theorem B2q {α:Type}{tt:DT}{te:DE}{ρ:!Sl}{Q:!PyData->Prop}{g f:α->PyData}{p:α->Bool}:∀{xs:!α}{acc:!PyData},(∀x∈xs,∀Q':Bool->!Sl->Prop,Q' (p x) (ρ++[.sh (g x)])->tt (ρ++[.sh (g x)]) Q')->(∀x∈xs,p x=true->∀Q':PyData->!Sl->Prop,Q' (f x) (ρ++[.sh (g x)])->te (ρ++[.sh (g x)]) Q')->
  Q (acc++(xs.filter p).map f)->A35 tt te ρ Q (xs.map g) acc
 | [],acc,_,_,q=>by
  have q':Q (acc++[]):=q;rw[p8] at q';exact q'
 | x::r,acc,h1,h2,q=>by
  refine h1 x E5 _ ⟨rfl,?_⟩;cases e:p x with
  | true=>rw[if_pos rfl];refine h2 x E5 e _ ⟨rfl,B2q (λy hy=>h1 y (E3 _ hy)) (λy hy=>h2 y (E3 _ hy)) ?_⟩;rw[C0v e] at q;rw[j9];exact q
  | false=>rw[if_neg Q2];refine B2q (λy hy=>h1 y (E3 _ hy)) (λy hy=>h2 y (E3 _ hy)) ?_;rw[B4l (by rw[e];exact Q2)] at q;exact q
theorem B52 {xs:!PyData}{k:Nat}:y4 xs none (some ((k:Nat):Int))=xs.take k:=by
 unfold y4;rw[HT.sIx_none,HT.sIx_nat,B4m,Nat.sub_zero];by_cases h:k<=xs.length
 ·rw[B4n h]
 ·rw[Nat.min_eq_right (by omega),B4k (G3 _),B4k (by omega)]
theorem D21 {xs:!PyData}{i j:Nat}(h1:i<=xs.length)(h2:j<=xs.length):y4 xs (some ((i:Nat):Int)) (some ((j:Nat):Int))=(xs.drop i).take (j-i):=by
 unfold y4;rw[HT.sIx_nat,HT.sIx_nat,B4n h1,B4n h2]
theorem C3k {te:DE}{ρ:!Sl}{Q:!PyData->Prop}{R:PyData->Prop}:∀{xs acc:!PyData},(∀x∈xs,∀Q':PyData->!Sl->Prop,(∀d,R d->Q' d (ρ++[.sh x]))->te (ρ++[.sh x]) Q')->(∀ds:!PyData,ds.length=xs.length->(∀d∈ds,R d)->Q (acc++ds))->A35 B5x te ρ Q xs acc
 | [],acc,_,q=>by
  have q':=q [] rfl (λd hd=>nomatch hd);rw[p8] at q';exact q'
 | x::r,acc,h,q=>by
  exists rfl;rw[if_pos rfl];refine h x E5 _ λd hd=>⟨rfl,C3k (λy hy=>h y (E3 _ hy)) λds hl hR=>?_⟩;rw[j9];refine q ([d]++ds) (by simp [hl]) λe he=>?_;rcases p7.mp he with z | z
  ·have:e=d:=by simpa using z
   subst this;exact hd
  ·exact hR e z
open Classical in
theorem D22 {xs:!PyData}{x:PyData}:y4 (xs++[x]) none (some (-1))=xs:=by
 have e1:HT.sIx (xs++[x]).length 0 none=0:=rfl;have e2:HT.sIx (xs++[x]).length (xs++[x]).length (some (-1))=xs.length:=by
  show (if (-1:Int)<0 then ((-1:Int)+(((xs++[x]).length:Nat):Int)).toNat else min (-1:Int).toNat (xs++[x]).length)=xs.length;rw[if_pos DD,L3,C8g];omega
 unfold y4;rw[e1,e2,B4m,Nat.sub_zero,List.take_left]
def Q0 (b:Nat×Int):PyData:=.tuple [.int (b.1:Nat),.int b.2]
section
variable {u:DF}
end
section
variable {tg:Expr}{t u:DE}
end
variable {st:Stmt}
section
variable {te:DE}
end
theorem Rws.mvm {G F G' F':Addr->Prop}{H H':Hp}{as:!Addr}{dss:!(!PyData)}(t:Rws G F H as dss)(f:∀b o,F b->H b=some o->F' b/\H' b=some o)(g:∀b o,b∈as->G b->H b=some o->G' b/\H' b=some o):Rws G' F' H' as dss:=by
 induction t with
 | nil=>exact .nil
 | cons x e y _ ih=>have:=g _ _ E5 x e;exact .cons this.1 this.2 (y.mv f) (ih λb o hb=>g b o (E3 _ hb))
section
variable {col col':Addr->Nat}{ρ:!Sl}{σ σ':St}{P:!Pe}{H H':Hp}{p:Addr}
end
section
variable {a b:Expr}
theorem A6t {α β:Type}{f:α->β}{xs:!α}{i:Int}{x:α}(h:atI xs i=some x):atI (xs.map f) i=some (f x):=by
 unfold atI at h ⊢;rw[B7];cases q:ixN xs.length i with
 | none=>rw[q] at h;cases h
 | some j=>rw[q] at h;have h':xs[j]?=some x:=h;show (xs.map f)[j]?=some (f x);rw[M2,h'];rfl
end
section
variable {te:DE}{u:DA}
end
section
variable {ta:DE}
end
end Tactic
namespace Tactic
abbrev Tb:=!(Option Int)
abbrev Rn:=!(Option Nat)
abbrev Wy:=Nat×Nat×Int
def K8 (st lv c:Int):Option Int:=if lv+c<0 then none else some (if st<lv+c then st else lv+c)
def gt {α:Type}(t:!(Option α))(p:Nat):Option α:=(t[p]?).join
def P8 (st:Int)(t:Tb)(w:Wy):Option Int:=match gt t w.1 with
 | none=>none
 | some l=>K8 st l w.2.2
def i7:Option Int->Option Int->Bool
 | none,_=>false
 | some _,none=>true
 | some a,some b=>decide (b<a)
def leO (a b:Option Int):Prop:=i7 a b=false
theorem W0 {a b:Int}:leO (some a) (some b)↔a<=b:=by unfold leO i7;simp
theorem B2r {b:Option Int}:leO none b:=rfl
theorem A04 {a:Int}:¬ leO (some a) none:=by unfold leO i7;simp
theorem A6u (a:Option Int):leO a a:=by
 cases a with
 | none=>rfl
 | some x=>exact W0.mpr (A0v x)
theorem A17 {a b c:Option Int}(h1:leO a b)(h2:leO b c):leO a c:=by
 cases a with
 | none=>rfl
 | some x=>
  cases b with
  | none=>exact absurd h1 A04
  | some y=>
   cases c with
   | none=>exact absurd h2 A04
   | some z=>exact W0.mpr (A0w (W0.mp h1) (W0.mp h2))
theorem D23 {a b:Option Int}(h1:leO a b)(h2:leO b a):a=b:=by
 cases a with
 | none=>cases b with
  | none=>rfl
  | some y=>exact absurd h2 A04
 | some x=>cases b with
  | none=>exact absurd h1 A04
  | some y=>rw[Int.le_antisymm (W0.mp h1) (W0.mp h2)]
theorem D24 {a b:Option Int}(h:i7 a b=true):leO b a:=by
 cases a with
 | none=>cases h
 | some x=>cases b with
  | none=>rfl
  | some y=>unfold i7 at h;exact W0.mpr (by have:=of_decide_eq_true h;omega)
theorem B53 {a b:Option Int}(h:i7 a b=true):¬ leO a b:=λz=>by unfold leO at z;rw[z] at h;cases h
theorem B54 {a b:Option Int}:i7 a b=true\/leO a b:=by
 cases e:i7 a b with
 | true=>exact .inl rfl
 | false=>exact .inr e
theorem C3l {st a b c:Int}(h:a<=b):leO (K8 st a c) (K8 st b c):=by
 unfold K8;by_cases h1:a+c<0
 ·rw[if_pos h1];rfl
 ·have h2:¬ b+c<0:=by omega
  rw[if_neg h1,if_neg h2];apply W0.mpr;split <;> split <;> omega
theorem B55 {st l c x:Int}(h0:0<=st)(h:K8 st l c=some x):0<=x/\x<=st:=by
 unfold K8 at h;split at h
 ·cases h
 ·have:=Option.some.inj h;subst this;split <;> omega
def leT (t u:Tb):Prop:=∀p,leO (gt t p) (gt u p)
theorem A8p (t:Tb):leT t t:=λJ=>A6u _
theorem C3m {t u v:Tb}(a:leT t u)(b:leT u v):leT t v:=λp=>A17 (a p) (b p)
theorem D25 {st:Int}{t u:Tb}{w:Wy}(h:leT t u):leO (P8 st t w) (P8 st u w):=by
 have:=h w.1;unfold P8;cases e:gt t w.1 with
 | none=>rfl
 | some a=>
  rw[e] at this;cases e2:gt u w.1 with
  | none=>rw[e2] at this;exact absurd this A04
  | some b=>rw[e2] at this;exact C3l (W0.mp this)
theorem D26 {st:Int}{t:Tb}{w:Wy}{x:Int}(h0:0<=st)(h:P8 st t w=some x):0<=x/\x<=st:=by
 unfold P8 at h;split at h
 ·cases h
 ·exact B55 h0 h
structure F3 (m:Nat)(st:Int)(t:Tb):Prop where
 len:t.length=m
 bd:∀p x,gt t p=some x->0<=x/\x<=st
structure J2 (m:Nat)(ws:!Wy):Prop where
 m1:1<=m
 m2:m<=12
 few:ws.length<=40
 st:∀w∈ws,w.1<m
 en:∀w∈ws,w.2.1<m
 lo:∀w∈ws,-∅<=w.2.2
 hi:∀w∈ws,w.2.2<=∅
theorem B56 {α:Type}{t:!(Option α)}{p:Nat}(h:t.length<=p):gt t p=none:=by unfold gt;rw[A2g h];rfl
theorem B2s {α:Type}{t:!(Option α)}{p:Nat}(h:p<t.length):t[p]?=some (gt t p):=by unfold gt;rw[M8 h];rfl
theorem A4a {α:Type}{t:!(Option α)}{i j:Nat}{x:Option α}(h:i<t.length):gt (t.set i x) j=if i=j then x else gt t j:=by
 unfold gt;rw[A46];by_cases e:i=j
 ·rw[if_pos e,if_pos h,if_pos e];rfl
 ·rw[if_neg e,if_neg e]
theorem A18 {α:Type}{m p:Nat}:gt (G1 m (none:Option α)) p=none:=by
 unfold gt;rw[C0n];split <;> rfl
theorem C3n {t u:Tb}(hl:t.length=u.length)(h:∀p,gt t p=gt u p):t=u:=by
 apply C0s;intro i;by_cases hi:i<t.length
 ·rw[B2s hi,B2s (by omega),h i]
 ·rw[A2g (by omega),A2g (by omega)]
theorem B57 {t u:Tb}(hl:t.length=u.length)(h1:leT t u)(h2:leT u t):t=u:=C3n hl λp=>D23 (h1 p) (h2 p)
def A4b (st:Int)(t:Tb)(acc:Tb×Rn)(p:Wy×Nat):Tb×Rn:=
 if i7 (P8 st t p.1) (gt acc.1 p.1.2.1)=true then (acc.1.set p.1.2.1 (P8 st t p.1),acc.2.set p.1.2.1 (some p.2)) else acc
def L6 (m:Nat)(ws:!Wy)(st:Int)(t s:Tb):Tb×Rn:=ws.zipIdx.foldl (A4b st t) (s,G1 m none)
structure A8q (m:Nat)(ws:!Wy)(st:Int)(t s:Tb)(L:!(Wy×Nat))(acc:Tb×Rn):Prop where
 l1:acc.1.length=m
 l2:acc.2.length=m
 up:leT s acc.1
 no:∀p,gt acc.2 p=none->gt acc.1 p=gt s p
 yes:∀p n,gt acc.2 p=some n->∃w,ws[n]?=some w/\w.2.1=p/\gt acc.1 p=P8 st t w/\i7 (P8 st t w) (gt s p)=true
 top:∀q∈L,leO (P8 st t q.1) (gt acc.1 q.1.2.1)
theorem D27 {m:Nat}{ws:!Wy}{st:Int}{t s:Tb}{L:!(Wy×Nat)}{acc:Tb×Rn}(ok:J2 m ws)(I:A8q m ws st t s L acc){q:Wy×Nat}(hq:ws[q.2]?=some q.1):A8q m ws st t s (L++[q]) (A4b st t acc q):=by
 have hw:q.1∈ws:=U4 hq;have he:q.1.2.1<m:=ok.en _ hw;unfold A4b;by_cases c:i7 (P8 st t q.1) (gt acc.1 q.1.2.1)=true
 ·rw[if_pos c];have g1:∀j,gt (acc.1.set q.1.2.1 (P8 st t q.1)) j=if q.1.2.1=j then P8 st t q.1 else gt acc.1 j:=λj=>A4a (by rw[I.l1];exact he)
  have g2:∀j,gt (acc.2.set q.1.2.1 (some q.2)) j=if q.1.2.1=j then some q.2 else gt acc.2 j:=λj=>A4a (by rw[I.l2];exact he)
  have hup:∀j,leO (gt acc.1 j) (gt (acc.1.set q.1.2.1 (P8 st t q.1)) j):=λj=>by
   rw[g1];by_cases e:q.1.2.1=j
   ·rw[if_pos e,<-e];exact D24 c
   ·rw[if_neg e];exact A6u _
  refine⟨by rw[j8];exact I.l1,by rw[j8];exact I.l2,λp=>A17 (I.up p) (hup p),λp hp=>?_,λp n hp=>?_,λr hr=>?_⟩
  ·rw[g2] at hp;by_cases e:q.1.2.1=p
   ·rw[if_pos e] at hp;cases hp
   ·rw[if_neg e] at hp;rw[g1,if_neg e];exact I.no p hp
  ·rw[g2] at hp;by_cases e:q.1.2.1=p
   ·rw[if_pos e] at hp;cases hp;refine⟨q.1,hq,e,by rw[g1,if_pos e],?_⟩;rcases B54 (a:=P8 st t q.1) (b:=gt s p) with z | z
    ·exact z
    ·exact absurd (A17 z (I.up p)) (B53 (e▸c))
   ·rw[if_neg e] at hp;rw[g1,if_neg e];exact I.yes p n hp
  ·rcases p7.mp hr with hr | hr
   ·exact A17 (I.top r hr) (hup _)
   ·have:r=q:=by simpa using hr
    subst this;rw[g1,if_pos rfl];exact A6u _
 ·rw[if_neg c];refine⟨I.l1,I.l2,I.up,I.no,I.yes,λr hr=>?_⟩;rcases p7.mp hr with hr | hr
  ·exact I.top r hr
  ·have:r=q:=by simpa using hr
   subst this;rcases B54 (a:=P8 st t r.1) (b:=gt acc.1 r.1.2.1) with z | z
   ·exact absurd z c
   ·exact z
theorem C3o {m:Nat}{ws:!Wy}{st:Int}{t s:Tb}(ok:J2 m ws):∀(R L:!(Wy×Nat))(acc:Tb×Rn),A8q m ws st t s L acc->(∀q∈R,ws[q.2]?=some q.1)->A8q m ws st t s (L++R) (R.foldl (A4b st t) acc)
 | [],L,acc,I,_=>by rw[p8];exact I
 | q::R,L,acc,I,h=>by
  have:=C3o ok R (L++[q]) _ (D27 ok I (h q E5)) λr hr=>h r (E3 _ hr);rw[j9] at this;exact this
theorem Y1 {m:Nat}{ws:!Wy}{st:Int}{t s:Tb}(ok:J2 m ws)(hs:s.length=m):A8q m ws st t s ws.zipIdx (L6 m ws st t s):=by
 have h0:A8q m ws st t s [] (s,G1 m none):=⟨hs,by rw[d9],A8p s,λJ J=>rfl,λp n h=>(by rw[A18] at h;cases h),λq hq=>(nomatch hq)⟩;have:=C3o ok ws.zipIdx [] _ h0 λq hq=>by
  let⟨w,n⟩:=q;rw[C8j] at hq;exact hq
 rw[T2] at this;exact this
theorem B58 {m:Nat}{ws:!Wy}{st:Int}{t s:Tb}(ok:J2 m ws)(hs:s.length=m){w:Wy}(hw:w∈ws):leO (P8 st t w) (gt (L6 m ws st t s).1 w.2.1):=by
 let⟨n,hn,e⟩:=B1a.mp hw;exact (Y1 ok hs).top (w,n) (by rw[C8j];show ws[n]?=some w;rw[M8 hn,e])
theorem D28 {m:Nat}{ws:!Wy}{st:Int}{t s:Tb}(ok:J2 m ws)(h0:0<=st)(hs:F3 m st s):F3 m st (L6 m ws st t s).1:=by
 have I:=Y1 (st:=st) (t:=t) ok hs.len;refine⟨I.l1,λp x h=>?_⟩;cases e:gt (L6 m ws st t s).2 p with
 | none=>rw[I.no p e] at h;exact hs.bd p x h
 | some n=>let⟨w,_,_,e2,_⟩:=I.yes p n e;rw[e2] at h;exact D26 h0 h
def A6v (ws:!Wy)(st:Int)(t:Tb):Prop:=∀w∈ws,leO (P8 st t w) (gt t w.2.1)
theorem D29 {m:Nat}{ws:!Wy}{st:Int}{t s L:Tb}(ok:J2 m ws)(hs:s.length=m)(h1:leT t L)(h2:leT s L)(c:A6v ws st L):leT (L6 m ws st t s).1 L:=λp=>by
 have I:=Y1 (st:=st) (t:=t) ok hs;cases e:gt (L6 m ws st t s).2 p with
 | none=>rw[I.no p e];exact h2 p
 | some n=>let⟨w,hw,e1,e2,_⟩:=I.yes p n e;rw[e2,<-e1];exact A17 (D25 h1) (c w (U4 hw))
structure S1 (m:Nat)(ws:!Wy)(st:Int)(b t:Tb):Prop where
 tab:F3 m st t
 up:leT b t
 cl:A6v ws st t
 le:∀L,F3 m st L->leT b L->A6v ws st L->leT t L
abbrev Rw:=Tb×Rn
def W1 (m:Nat)(ws:!Wy)(st:Int):Nat->Rw->!Rw
 | 0,r=>[r]
 | k+1,r=>if (L6 m ws st r.1 r.1).1=r.1 then [r] else r::W1 m ws st k (L6 m ws st r.1 r.1)
inductive Rows (m:Nat)(ws:!Wy)(st:Int)(b:Tb):!Rw->Prop
 | one:Rows m ws st b [(b,G1 m none)]
 | more {r rs}:Rows m ws st b (r::rs)->(L6 m ws st r.1 r.1).1≠r.1->Rows m ws st b (L6 m ws st r.1 r.1::r::rs)
theorem C3p {m:Nat}{ws:!Wy}{st:Int}{b:Tb}:∀(k:Nat)(r:Rw)(rs:!Rw),Rows m ws st b (r::rs)->∃r' rs',(rs.reverse++W1 m ws st k r).reverse=r'::rs'/\Rows m ws st b (r'::rs')/\((L6 m ws st r'.1 r'.1).1=r'.1\/(r'::rs').length=rs.length+k+1)
 | 0,r,rs,h=>⟨r,rs,by simp [W1],h,.inr (by simp)⟩
 | k+1,r,rs,h=>by
  unfold W1;by_cases c:(L6 m ws st r.1 r.1).1=r.1
  ·rw[if_pos c];exact⟨r,rs,by simp,h,.inl c⟩
  ·rw[if_neg c];let⟨r',rs',e,h',z⟩:=C3p k _ (r::rs) (.more h c);refine⟨r',rs',?_,h',?_⟩
   ·rw[<-e];simp
   ·rcases z with z | z
    ·exact .inl z
    ·refine .inr ?_;rw[z,J6];omega
variable {m:Nat}{ws:!Wy}{st:Int}
section
variable {b:Tb}
theorem Rows.ok (ok:J2 m ws)(h0:0<=st)(hb:F3 m st b):∀{r:Rw}{rs:!Rw},Rows m ws st b (r::rs)->F3 m st r.1/\r.2.length=m/\leT b r.1
 | _,_,.one=>⟨hb,by simp,A8p b⟩
 | _,_,.more (r:=r) h c=>by
  let⟨a1,_,a3⟩:=Rows.ok ok h0 hb h;have I:=Y1 (st:=st) (t:=r.1) ok a1.len;exact⟨D28 ok h0 a1,I.l2,C3m a3 I.up⟩
theorem Rows.under (ok:J2 m ws)(hb:b.length=m){L:Tb}(h1:leT b L)(c:A6v ws st L):∀{r:Rw}{rs:!Rw},Rows m ws st b (r::rs)->r.1.length=m/\leT r.1 L
 | _,_,.one=>⟨hb,h1⟩
 | _,_,.more (r:=r) h _=>by
  let⟨a1,a2⟩:=Rows.under ok hb h1 c h;exact⟨(Y1 (st:=st) (t:=r.1) ok a1).l1,D29 ok a1 a2 a2 c⟩
theorem Rows.least (ok:J2 m ws)(h0:0<=st)(hb:F3 m st b){r:Rw}{rs:!Rw}(h:Rows m ws st b (r::rs))(c:(L6 m ws st r.1 r.1).1=r.1):S1 m ws st b r.1:=by
 let⟨a1,_,a3⟩:=h.ok ok h0 hb;refine⟨a1,a3,λw hw=>?_,λL J h1 cl=>(h.under ok hb.len h1 cl).2⟩;have:=B58 (st:=st) (t:=r.1) (s:=r.1) ok a1.len hw;rw[c] at this;exact this
end
abbrev Ef:=Option (Int×Int×Int)
def EOk (st:Int)(e:Int×Int×Int):Prop:=0<=e.1/\e.1<=st/\0<=e.2.2/\e.2.2<=st/\0<=e.1+e.2.1/\e.2.2<=st+e.2.1
def N2 (e:Ef)(x:Int):Option Int:=match e with
 | none=>none
 | some (l,g,t)=>if x<l then none else some (if t<x+g then t else x+g)
def o7 (a b:Ef):Ef:=match a,b with
 | some (l1,g1,t1),some (l2,g2,t2)=>if t1<l2 then none else some (if l2-g1>l1 then l2-g1 else l1,g1+g2,if t2<t1+g2 then t2 else t1+g2)
 | _,_=>none
theorem A8r {a b:Int×Int×Int}(h:¬ a.2.2<b.1):o7 (some a) (some b)=some (if b.1-a.2.1>a.1 then b.1-a.2.1 else a.1,a.2.1+b.2.1,if b.2.2<a.2.2+b.2.1 then b.2.2 else a.2.2+b.2.1):=by
 let⟨l1,g1,t1⟩:=a;let⟨l2,g2,t2⟩:=b;unfold o7;simp only at h;simp only[if_neg h]
theorem A96 {a b:Int×Int×Int}(h:a.2.2<b.1):o7 (some a) (some b)=none:=by
 let⟨l1,g1,t1⟩:=a;let⟨l2,g2,t2⟩:=b;unfold o7;simp only at h;simp only[if_pos h]
theorem D3a {st:Int}{a b r:Int×Int×Int}(ha:EOk st a)(hb:EOk st b)(h:o7 (some a) (some b)=some r):EOk st r:=by
 by_cases c:a.2.2<b.1
 ·rw[A96 c] at h;cases h
 ·rw[A8r c] at h;cases h;let⟨l1,g1,t1⟩:=a;let⟨l2,g2,t2⟩:=b;let⟨h1,h2,h3,h4,h5,h6⟩:=ha;let⟨i1,i2,i3,i4,i5,i6⟩:=hb;simp only at h1 h2 h3 h4 h5 h6 i1 i2 i3 i4 i5 i6 c;refine⟨?_,?_,?_,?_,?_,?_⟩ <;> dsimp only <;> (repeat' split) <;> omega
theorem D3b {a b r:Int×Int×Int}(h:o7 (some a) (some b)=some r)(x:Int):N2 (some r) x=(N2 (some a) x).bind (N2 (some b)):=by
 by_cases c:a.2.2<b.1
 ·rw[A96 c] at h;cases h
 ·rw[A8r c] at h;cases h;let⟨l1,g1,t1⟩:=a;let⟨l2,g2,t2⟩:=b;simp only at c;unfold N2;dsimp only;by_cases c1:x<l1
  ·rw[if_pos c1,if_pos (by split <;> omega)];rfl
  ·rw[if_neg c1];show _=(if (if t1<x+g1 then t1 else x+g1)<l2 then none else some (if t2<(if t1<x+g1 then t1 else x+g1)+g2 then t2 else (if t1<x+g1 then t1 else x+g1)+g2));obtain⟨y,ey,y1,y2,y3⟩:∃y,(if t1<x+g1 then t1 else x+g1)=y/\y<=t1/\y<=x+g1/\(y=t1\/y=x+g1):=⟨_,rfl,by split <;> omega,by split <;> omega,by split <;> omega⟩;obtain⟨m,em,m1,m2,m3⟩:∃m,(if l2-g1>l1 then l2-g1 else l1)=m/\l1<=m/\l2-g1<=m/\(m=l1\/m=l2-g1):=⟨_,rfl,by split <;> omega,by split <;> omega,by split <;> omega⟩;obtain⟨n,en,n1,n2,n3⟩:∃n,(if t2<t1+g2 then t2 else t1+g2)=n/\n<=t2/\n<=t1+g2/\(n=t2\/n=t1+g2):=⟨_,rfl,by split <;> omega,by split <;> omega,by split <;> omega⟩;rw[ey,em,en];by_cases c2:x<m
   ·rw[if_pos c2,if_pos (show y<l2 by omega)]
   ·rw[if_neg c2,if_neg (show ¬ y<l2 by omega)];congr 1;split <;> split <;> omega
def OkE (st:Int):Ef->Prop
 | none=>True
 | some e=>EOk st e
theorem OkE.join {st:Int}{a b:Ef}(ha:OkE st a)(hb:OkE st b):OkE st (o7 a b):=by
 rcases a with _ | a
 ·exact trivial
 ·rcases b with _ | b
  ·exact trivial
  ·cases q:o7 (some a) (some b) with
   | none=>exact trivial
   | some r=>exact D3a ha hb q
theorem D3c {st:Int}(h:0<=st):EOk st (0,0,st):=⟨A0v _,h,h,A0v _,by simp,by simp⟩
def A05 (st c:Int):Ef:=if st+c<0 then none else some (if -c>0 then -c else 0,c,if st+c<st then st+c else st)
def foF (st:Int)(w:Ef)(cs:!Int):Ef:=cs.foldl (λw c=>o7 w (A05 st c)) w
def fxF (st:Int)(cs:!Int):Ef:=foF st (some (0,0,st)) cs
theorem D3d {st:Int}(h:0<=st)(c:Int):OkE st (A05 st c):=by
 unfold A05;split
 ·exact trivial
 ·refine⟨?_,?_,?_,?_,?_,?_⟩ <;> dsimp only <;> (repeat' split) <;> omega
theorem C3q {st:Int}(h:0<=st):∀(cs:!Int){w:Ef},OkE st w->OkE st (foF st w cs)
 | [],_,hw=>hw
 | c::cs,w,hw=>C3q h cs (hw.join (D3d h c))
theorem D3e {st:Int}(h:0<=st)(cs:!Int):OkE st (fxF st cs):=C3q h cs (D3c h)
theorem D3f (a b:Ef)(x:Int):N2 (o7 a b) x=(N2 a x).bind (N2 b):=by
 rcases a with _ | a
 ·rfl
 ·rcases b with _ | b
  ·show none=(N2 (some a) x).bind (N2 none);cases N2 (some a) x <;> rfl
  ·by_cases c:a.2.2<b.1
   ·rw[A96 c];let⟨l1,g1,t1⟩:=a;let⟨l2,g2,t2⟩:=b;simp only at c;show none=_;unfold N2;dsimp only;by_cases c1:x<l1
    ·rw[if_pos c1];rfl
    ·rw[if_neg c1];show none=if (if t1<x+g1 then t1 else x+g1)<l2 then none else _
     rw[if_pos (by split <;> omega)]
   ·exact D3b (A8r c) x |>.symm▸(by rw[A8r c])
def wkF (st:Int)(o:Option Int)(cs:!Int):Option Int:=cs.foldl (λo c=>o.bind (λx=>K8 st x c)) o
theorem B2t (st:Int):∀cs:!Int,wkF st none cs=none
 | []=>rfl
 | _::cs=>B2t st cs
theorem D3g {st x c:Int}(h0:0<=x)(h1:x<=st):N2 (A05 st c) x=K8 st x c:=by
 unfold A05 K8;by_cases d:st+c<0
 ·rw[if_pos d,if_pos (by omega)];rfl
 ·rw[if_neg d];unfold N2;dsimp only;by_cases e:x+c<0
  ·rw[if_pos e,if_pos (by split <;> omega)]
  ·rw[if_neg e,if_neg (by split <;> omega)];congr 1;split <;> split <;> (try split) <;> omega
theorem C3r {st:Int}(h:0<=st)(x:Int):∀(cs:!Int)(w:Ef),(∀y,N2 w x=some y->0<=y/\y<=st)->N2 (foF st w cs) x=wkF st (N2 w x) cs
 | [],_,_=>rfl
 | c::cs,w,hw=>by
  have e:N2 (o7 w (A05 st c)) x=(N2 w x).bind (λy=>K8 st y c):=by
   rw[D3f];cases q:N2 w x with
   | none=>rfl
   | some y=>exact D3g (hw y q).1 (hw y q).2
  show N2 (foF st (o7 w (A05 st c)) cs) x=wkF st ((N2 w x).bind (λy=>K8 st y c)) cs;rw[C3r h x cs _ ?_,e];intro y q;rw[e] at q;cases q2:N2 w x with
  | none=>rw[q2] at q;cases q
  | some z=>rw[q2] at q;exact B55 h q
theorem C3s {st x:Int}(h0:0<=x)(h1:x<=st):N2 (some (0,0,st)) x=some x:=by
 unfold N2;dsimp only;rw[if_neg (by omega)];congr 1;split <;> omega
theorem B2u {st x:Int}(h0:0<=x)(h1:x<=st)(cs:!Int):N2 (fxF st cs) x=wkF st (some x) cs:=by
 unfold fxF;rw[C3r (by omega) x cs _ ?_,C3s h0 h1];intro y q;rw[C3s h0 h1] at q;cases q;exact⟨h0,h1⟩
theorem C3t {st:Int}:∀(cs:!Int){w:Int×Int×Int}{r:Int×Int×Int},foF st (some w) cs=some r->r.2.1=w.2.1+cs.sum
 | [],w,r,q=>by
  have q':some w=some r:=q;cases q';simp
 | c::cs,w,r,q=>by
  have q':foF st (o7 (some w) (A05 st c)) cs=some r:=q;cases q2:o7 (some w) (A05 st c) with
  | none=>
   rw[q2] at q';have:∀cs:!Int,foF st none cs=none:=by
    intro cs
    induction cs with
    | nil=>rfl
    | cons c cs ih=>exact ih
   rw[this] at q';cases q'
  | some a=>
   rw[q2] at q';rw[C3t cs q'];have ga:a.2.1=w.2.1+c:=by
    unfold A05 at q2;split at q2
    ·cases q2
    ·by_cases d:w.2.2<(if -c>0 then -c else 0)
     ·rw[A96 (by exact d)] at q2;cases q2
     ·rw[A8r (by exact d)] at q2;cases q2;rfl
   rw[ga,C0w];omega
theorem D3h {st:Int}{cs:!Int}{r:Int×Int×Int}(q:fxF st cs=some r):r.2.1=cs.sum:=by
 rw[C3t cs q];show 0+cs.sum=cs.sum;omega
def N4 (ws:!Wy)(n:Nat):Nat:=match ws[n]? with
 | some w=>w.1
 | none=>0
def A22 (ws:!Wy)(n:Nat):Nat:=match ws[n]? with
 | some w=>w.2.1
 | none=>0
def o8 (ws:!Wy)(n:Nat):Int:=match ws[n]? with
 | some w=>w.2.2
 | none=>0
def wlk (ws:!Wy):!Rw->Nat->Nat×!Nat
 | [],p=>(p,[])
 | r::rs,p=>match gt r.2 p with
  | none=>wlk ws rs p
  | some n=>((wlk ws rs (N4 ws n)).1,(wlk ws rs (N4 ws n)).2++[n])
structure Wk (ws:!Wy)(st:Int)(b:Tb)(N:!Nat)(P:Nat->Nat)(L:Nat->Int):Prop where
 way:∀k n,N[k]?=some n->∃w,ws[n]?=some w/\w.1=P k/\w.2.1=P (k+1)/\K8 st (L k) w.2.2=some (L (k+1))
 beg:gt b (P 0)=some (L 0)
 rise:∀k,1<=k->k<=N.length->i7 (some (L k)) (gt b (P k))=true
 strict:∀i j,i<j->j<=N.length->P i=P j->L i<L j
theorem D3i {a b c:Option Int}(h:i7 a c=true)(z:leO b c):i7 a b=true:=by
 rcases B54 (a:=a) (b:=b) with q | q
 ·exact q
 ·exact absurd (A17 q z) (B53 h)
section
variable {b:Tb}
set_option tactic.hygienic true in
theorem C3u (ok:J2 m ws)(h0:0<=st)(hb:F3 m st b):∀{r:Rw}{rs:!Rw},Rows m ws st b (r::rs)->∀p,((rs=[]/\∃l,gt b p=some l)\/(∃n,gt r.2 p=some n))->
  ∃N P L,wlk ws (r::rs) p=(P 0,N)/\N.length=rs.length/\P N.length=p/\gt r.1 p=some (L N.length)/\Wk ws st b N P L/\∀k,k<=N.length->leO (some (L k)) (gt r.1 (P k))
 | _,_,.one,p,h=>by
  rcases h with ⟨_,l,hl⟩ | ⟨n,hn⟩
  ·refine⟨[],λJ=>p,λJ=>l,?_,rfl,rfl,hl,⟨λk n e=>by simp at e,hl,λk h1 h2=>?_,λi j h1 h2=>?_⟩,λk J=>by show leO (some l) (gt b p);rw[hl];exact A6u _⟩
   ·unfold wlk;rw[A18];rfl
   ·simp at h2;omega
   ·simp at h2;omega
  ·rw[A18] at hn;cases hn
 | _,_,.more (r:=r) (rs:=rs) h c,p,hp=>by
  let⟨a1,_,a3⟩:=h.ok ok h0 hb;have I:=Y1 (st:=st) (t:=r.1) ok a1.len;have hp':∃n,gt (L6 m ws st r.1 r.1).2 p=some n:=by
   rcases hp with ⟨z,_⟩ | z
   ·cases z
   ·exact z
  let⟨n,hn⟩:=hp';let⟨w,hw,e1,e2,e3⟩:=I.yes p n hn;obtain⟨l,hl⟩:∃l,P8 st r.1 w=some l:=by
   cases q:P8 st r.1 w with
   | none=>rw[q] at e3;cases e3
   | some l=>exact⟨l,rfl⟩
  obtain⟨l',hl',hs⟩:∃l',gt r.1 w.1=some l'/\K8 st l' w.2.2=some l:=by
   have hl2:=hl;unfold P8 at hl2;split at hl2
   ·cases hl2
   ·rename_i l' e;exact⟨l',e,hl2⟩
  rw[hl] at e2 e3;have hq:(rs=[]/\∃l,gt b w.1=some l)\/(∃n,gt r.2 w.1=some n):=by
   cases h with
   | one=>exact .inl ⟨rfl,l',hl'⟩
   | @more r0 rs0 h' c'=>
    let⟨b1,_,_⟩:=h'.ok ok h0 hb;have I0:=Y1 (st:=st) (t:=r0.1) ok b1.len;cases e:gt (L6 m ws st r0.1 r0.1).2 w.1 with
    | some n'=>exact .inr ⟨n',rfl⟩
    | none=>
     have e4:=I0.no w.1 e;have e5:P8 st r0.1 w=some l:=by
      unfold P8;rw[<-e4,hl'];exact hs
     have:=B58 (st:=st) (t:=r0.1) (s:=r0.1) ok b1.len (U4 hw);rw[e5,e1] at this;exact absurd this (B53 e3)
  let⟨N,P,L,f1,f2,f3,f4,W,f6⟩:=C3u ok h0 hb h w.1 hq;have eL:L N.length=l':=by rw[hl'] at f4;exact (Option.some.inj f4).symm
  let P':Nat->Nat:=λk=>if k<=N.length then P k else p
  let L':Nat->Int:=λk=>if k<=N.length then L k else l
  have p1:∀k,k<=N.length->P' k=P k:=λk hk=>if_pos hk;have p2:∀k,¬ k<=N.length->P' k=p:=λk hk=>if_neg hk;have l1:∀k,k<=N.length->L' k=L k:=λk hk=>if_pos hk;have l2:∀k,¬ k<=N.length->L' k=l:=λk hk=>if_neg hk;have hlen:(N++[n]).length=N.length+1:=by simp
  refine⟨N++[n],P',L',?_,by rw[hlen,f2];rfl,by rw[hlen];exact p2 _ (by omega),by rw[hlen,l2 _ (by omega)];exact e2,⟨λk n' e=>?_,by rw[p1 0 (Q7 _),l1 0 (Q7 _)];exact W.beg,λk k1 k2=>?_,λi j hij hj hp=>?_⟩,λk hk=>?_⟩
  ·show (match gt (L6 m ws st r.1 r.1).2 p with
    | none=>wlk ws (r::rs) p
    | some n=>((wlk ws (r::rs) (N4 ws n)).1,(wlk ws (r::rs) (N4 ws n)).2++[n]))=_
   rw[hn];have:N4 ws n=w.1:=by unfold N4;rw[hw]
   show ((wlk ws (r::rs) (N4 ws n)).1,(wlk ws (r::rs) (N4 ws n)).2++[n])=_;rw[this,f1,p1 0 (Q7 _)]
  ·by_cases hk:k<N.length
   ·rw[A7h hk] at e;rw[p1 k (by omega),p1 (k+1) (by omega),l1 k (by omega),l1 (k+1) (by omega)];exact W.way k n' e
   ·rw[A7g (by omega)] at e;have hk':k=N.length:=by
     match q:k-N.length with
     | 0=>omega
     | z+1=>rw[q] at e;simp at e
    subst hk';rw[Nat.sub_self] at e;cases e;refine⟨w,hw,?_,?_,?_⟩
    ·rw[p1 _ (G3 _),f3]
    ·rw[p2 _ (by omega),e1]
    ·rw[l1 _ (G3 _),l2 _ (by omega),eL];exact hs
  ·by_cases hk:k<=N.length
   ·rw[p1 k hk,l1 k hk];exact W.rise k k1 hk
   ·rw[p2 k hk,l2 k hk];exact D3i e3 (a3 p)
  ·by_cases hk:j<=N.length
   ·rw[l1 i (by omega),l1 j hk];rw[p1 i (by omega),p1 j hk] at hp;exact W.strict i j hij hk hp
   ·rw[hlen] at hj;rw[p1 i (by omega),p2 j hk] at hp;rw[l1 i (by omega),l2 j hk];have z:=f6 i (by omega);rw[hp] at z;cases q:gt r.1 p with
    | none=>rw[q] at z;exact absurd z A04
    | some y=>rw[q] at z e3;have z1:=W0.mp z;have z2:y<l:=of_decide_eq_true e3;omega
  ·by_cases hk':k<=N.length
   ·rw[p1 k hk',l1 k hk'];exact A17 (f6 k hk') (I.up _)
   ·rw[p2 k hk',l2 k hk',e2];exact A6u _
end
def seg (N:!Nat)(i j:Nat):!Nat:=(N.drop i).take (j-i)
def chs (ws:!Wy)(ns:!Nat):!Int:=ns.map (o8 ws)
theorem A8s (N:!Nat)(i:Nat):seg N i i=[]:=by unfold seg;rw[Nat.sub_self];rfl
theorem B59 {N:!Nat}{i j:Nat}(h:i<=j)(h2:j<N.length):seg N i (j+1)=seg N i j++[N[j]]:=by
 unfold seg;have e:j+1-i=j-i+1:=by omega
 rw[e,A1t,List.getElem?_drop,show i+(j-i)=j by omega,M8 h2];rfl
theorem A97 {N:!Nat}{i j:Nat}(h:j<=N.length):(seg N i j).length=j-i:=by
 unfold seg;rw[X5,List.length_drop];omega
theorem B6a (st:Int)(o:Option Int)(xs ys:!Int):wkF st o (xs++ys)=wkF st (wkF st o xs) ys:=by unfold wkF;rw[List.foldl_append]
section
variable {b:Tb}{N:!Nat}{P:Nat->Nat}{L:Nat->Int}
theorem Wk.ch (W:Wk ws st b N P L){k:Nat}(h:k<N.length):K8 st (L k) (o8 ws N[k])=some (L (k+1)):=by
 let⟨w,hw,_,_,e⟩:=W.way k N[k] (M8 h);unfold o8;rw[hw];exact e
theorem Wk.seg (W:Wk ws st b N P L){i:Nat}:∀{j:Nat},i<=j->j<=N.length->wkF st (some (L i)) (chs ws (Tactic.seg N i j))=some (L j)
 | 0,h1,_=>by
  have:i=0:=by omega
  subst this;rw[A8s];rfl
 | j+1,h1,h2=>by
  by_cases e:i=j+1
  ·subst e;rw[A8s];rfl
  ·rw[B59 (by omega) (by omega)];unfold chs;rw[L7,B6a];have:=W.seg (i:=i) (j:=j) (by omega) (by omega);unfold chs at this;rw[this];exact W.ch (by omega)
theorem Wk.bd (W:Wk ws st b N P L)(h0:0<=st){m:Nat}(hb:F3 m st b):∀k,k<=N.length->0<=L k/\L k<=st
 | 0,_=>hb.bd _ _ W.beg
 | k+1,h=>B55 h0 (W.ch (k:=k) (by omega))
theorem Wk.pl (W:Wk ws st b N P L){m:Nat}(ok:J2 m ws)(hb:F3 m st b):∀k,k<=N.length->P k<m
 | 0,_=>by
  by_cases h:P 0<m
  ·exact h
  ·have:=W.beg;rw[B56 (by rw[hb.len];omega)] at this;cases this
 | k+1,h=>by
  let⟨w,hw,_,e,_⟩:=W.way k N[k] (M8 (by omega));rw[<-e];exact ok.en w (U4 hw)
theorem Wk.lid (W:Wk ws st b N P L){T:Tb}(c:A6v ws st T){i:Nat}{x:Int}(hx:leO (some x) (gt T (P i))):∀{j:Nat}{y:Int},i<=j->j<=N.length->wkF st (some x) (chs ws (Tactic.seg N i j))=some y->leO (some y) (gt T (P j))
 | 0,y,h1,_,e=>by
  have:i=0:=by omega
  subst this;rw[A8s] at e;cases e;exact hx
 | j+1,y,h1,h2,e=>by
  by_cases q:i=j+1
  ·subst q;rw[A8s] at e;cases e;exact hx
  ·rw[B59 (by omega) (by omega)] at e;unfold chs at e;rw[L7,B6a] at e;let⟨w,hw,e1,e2,_⟩:=W.way j N[j] (M8 (by omega));cases z:wkF st (some x) ((Tactic.seg N i j).map (o8 ws)) with
   | none=>rw[z] at e;cases e
   | some v=>
    rw[z] at e;have e':K8 st v (o8 ws N[j])=some y:=e;have ih:=W.lid c hx (j:=j) (y:=v) (by omega) (by omega) z;have hc:o8 ws N[j]=w.2.2:=by unfold o8;rw[hw]
    cases g:gt T (P j) with
    | none=>rw[g] at ih;exact absurd ih A04
    | some u=>rw[g] at ih;have s1:=C3l (st:=st) (c:=w.2.2) (W0.mp ih);rw[<-hc,e',hc] at s1;have s2:=c w (U4 hw);unfold P8 at s2;rw[e1,g,e2] at s2;exact A17 s1 s2
end
def Q6 (st lv:Int):!Int->!Int
 | []=>[lv]
 | c::cs=>match K8 st lv c with
  | none=>[lv]
  | some x=>lv::Q6 st x cs
theorem D3j {st lv c:Int}{cs:!Int}(h:K8 st lv c=none):Q6 st lv (c::cs)=[lv]:=by rw[Q6,h]
theorem D3k {st lv c x:Int}{cs:!Int}(h:K8 st lv c=some x):Q6 st lv (c::cs)=lv::Q6 st x cs:=by rw[Q6,h]
theorem B6b {st:Int}:∀{cs:!Int}{x y:Int},wkF st (some x) cs=some y->∀k,k<=cs.length->∃z,(Q6 st x cs)[k]?=some z/\wkF st (some x) (cs.take k)=some z
 | [],x,y,_,k,hk=>by
  have:k=0:=by simpa using hk
  subst this;exact⟨x,rfl,rfl⟩
 | c::cs,x,y,h,k,hk=>by
  cases e:K8 st x c with
  | none=>have h':wkF st (K8 st x c) cs=some y:=h;rw[e,B2t] at h';cases h'
  | some x1=>
   have h':wkF st (K8 st x c) cs=some y:=h;rw[e] at h';unfold Q6;rw[e];cases k with
   | zero=>exact⟨x,rfl,rfl⟩
   | succ k=>let⟨z,z1,z2⟩:=B6b h' k (by simpa using hk);exists z,z1;show wkF st (K8 st x c) (cs.take k)=some z;rw[e];exact z2
theorem B6c {st:Int}:∀{cs:!Int}{x y:Int},wkF st (some x) cs=some y->(Q6 st x cs).length=cs.length+1
 | [],_,_,_=>rfl
 | c::cs,x,y,h=>by
  have h':wkF st (K8 st x c) cs=some y:=h;cases e:K8 st x c with
  | none=>rw[e,B2t] at h';cases h'
  | some x1=>rw[e] at h';unfold Q6;rw[e,J6,J6,B6c h']
theorem C3v {st:Int}:∀{cs:!Int}{x y:Int},wkF st (some x) cs=some y->y=x+cs.sum\/st∈Q6 st x cs
 | [],x,y,h=>by
  cases h;exact .inl (by simp)
 | c::cs,x,y,h=>by
  have h':wkF st (K8 st x c) cs=some y:=h;cases e:K8 st x c with
  | none=>rw[e,B2t] at h';cases h'
  | some x1=>
   rw[e] at h';have hd:(Q6 st x1 cs).head?=some x1:=by
    cases cs with
    | nil=>rfl
    | cons d ds=>unfold Q6;cases K8 st x1 d <;> rfl
   by_cases q:x1=st
   ·refine .inr ?_;unfold Q6;rw[e];refine E3 _ ?_;have hm:=List.mem_of_head? hd;have e3:(st∈Q6 st x1 cs)=(x1∈Q6 st x1 cs):=congrArg (·∈Q6 st x1 cs) q.symm;rw[e3];exact hm
   ·have e1:x1=x+c:=by
     unfold K8 at e;split at e
     ·cases e
     ·have e2:=Option.some.inj e;split at e2
      ·exact absurd e2.symm q
      ·exact e2.symm
    rcases C3v h' with z | z
    ·refine .inl ?_;rw[z,e1,C0w];omega
    ·refine .inr ?_;unfold Q6;rw[e];exact E3 _ z
structure Rnd (st:Int)(cs:!Int)(x:Int)(le g tp:Int)(k:Nat):Prop where
 fx:fxF st cs=some (le,g,tp)
 g0:0<g
 gs:g=cs.sum
 xt:x<tp
 tst:tp<=st
 kl:k<=cs.length
 ki:(Q6 st tp cs).idxOf st=k
 km:st∈Q6 st tp cs
 kw:wkF st (some tp) (cs.take k)=some st
 ll:(Q6 st tp cs).length=cs.length+1
set_option tactic.hygienic true in
theorem D3l {st:Int}{cs:!Int}{x y:Int}(h0:0<=x)(h1:x<=st)(w:wkF st (some x) cs=some y)(hy:x<y):∃le g tp k,Rnd st cs x le g tp k/\le<=x:=by
 have hp:=B2u h0 h1 cs;rw[w] at hp;have hok:=D3e (by omega) cs (st:=st);cases e:fxF st cs with
 | none=>rw[e] at hp;cases hp
 | some r=>
  let⟨le,g,tp⟩:=r;rw[e] at hp hok;have gs:=D3h e;let⟨o1,o2,o3,o4,o5,o6⟩:=hok;simp only at o1 o2 o3 o4 o5 o6 gs;unfold N2 at hp;dsimp only at hp;split at hp
  ·cases hp
  ·rename_i hle;have hy2:=Option.some.inj hp;have g0:0<g:=by split at hy2 <;> omega
   have xt:x<tp:=by split at hy2 <;> omega
   have wt:=B2u (st:=st) (x:=tp) o3 o4 cs;rw[e] at wt;unfold N2 at wt;dsimp only at wt;rw[if_neg (by omega),if_pos (by omega)] at wt;have km:st∈Q6 st tp cs:=by
    rcases C3v wt.symm with z | z
    ·omega
    ·exact z
   have hlt:=B4i.mpr km;have ll:=B6c wt.symm;rw[ll] at hlt;let⟨z,z1,z2⟩:=B6b wt.symm ((Q6 st tp cs).idxOf st) (by omega);have ez:z=st:=by
    have hl2:=B4i.mpr km;rw[M8 hl2,C8i hl2] at z1;exact (Option.some.inj z1).symm
   subst ez;exact⟨le,g,tp,_,⟨e,g0,gs,xt,o4,by omega,rfl,km,z2,ll⟩,by omega⟩
section
variable {b:Tb}{N:!Nat}{P:Nat->Nat}{L:Nat->Int}
theorem B6d {N:!Nat}{i j k:Nat}(h:k<=j-i):(seg N i j).take k=seg N i (i+k):=by
 unfold seg;rw[List.take_take,show min k (j-i)=k by omega,show i+k-i=k by omega]
theorem D3m (W:Wk ws st b N P L){i j:Nat}(hij:i<j)(hj:j<=N.length)(hp:P i=P j){le g tp:Int}{k:Nat}(hle:le<=L i)(R:Rnd st (chs ws (seg N i j)) (L i) le g tp k){T:Tb}(hT:F3 m st T)(hb:leT b T)(c:A6v ws st T) :
  leO (some st) (gt T (P (i+k))):=by
 have kl:k<=j-i:=by
  have:=R.kl;unfold chs at this;rw[B7,A97 hj] at this;exact this
 have h0:leO (some (L 0)) (gt T (P 0)):=by rw[<-W.beg];exact hb _
 have hi:=W.lid c h0 (j:=i) (Q7 _) (by omega) (W.seg (Q7 _) (by omega));cases q:gt T (P i) with
 | none=>rw[q] at hi;exact absurd hi A04
 | some z=>
  rw[q] at hi;have hz:=W0.mp hi;let⟨z0,z1⟩:=hT.bd _ _ q;have wz:=B2u z0 z1 (chs ws (seg N i j));rw[R.fx] at wz;unfold N2 at wz;dsimp only at wz;rw[if_neg (by omega)] at wz;have hr:=W.lid c (x:=z) (by rw[q];exact A6u _) (j:=j) (by omega) hj wz.symm;rw[<-hp,q] at hr;have hr':=W0.mp hr;have:=R.g0;have htz:tp<=z:=by split at hr' <;> omega
  have ht:leO (some tp) (gt T (P i)):=by rw[q];exact W0.mpr htz
  refine W.lid c ht (j:=i+k) (by omega) (by omega) ?_;have kw:=R.kw;unfold chs at kw ⊢;rw[<-A2i,B6d kl] at kw;exact kw
theorem D3n (W:Wk ws st b N P L)(h0:0<=st)(hb:F3 m st b){i j k:Nat}(hij:i<j)(hj:j<=N.length)(hp:P i=P j)(hk:i+k<=j):gt b (P (i+k))≠some st:=λe=>by
 have key:∀q,1<=q->q<=N.length->gt b (P q)≠some st:=λq h1 h2 e=>by
  have r:=W.rise q h1 h2;rw[e] at r;have:=of_decide_eq_true r;have:=(W.bd h0 hb q h2).2;omega
 by_cases hk0:i+k=0
 ·rw[hk0] at e;have:i=0:=by omega
  rw[this] at hp;rw[hp] at e;exact key j (by omega) hj e
 ·exact key (i+k) (by omega) (by omega) e
theorem S1.fill (hb:F3 m st b){p:Nat}(hp:p<m){t:Tb}(h:S1 m ws st (b.set p (some st)) t)(hl:∀T,F3 m st T->leT b T->A6v ws st T->leO (some st) (gt T p)):S1 m ws st b t:=by
 have g:∀j,gt (b.set p (some st)) j=if p=j then some st else gt b j:=λj=>A4a (by rw[hb.len];exact hp)
 refine⟨h.tab,λq=>A17 ?_ (h.up q),h.cl,λT hT h1 h2=>h.le T hT (λq=>?_) h2⟩
 ·rw[g];by_cases e:p=q
  ·rw[if_pos e];cases z:gt b q with
   | none=>rfl
   | some x=>exact W0.mpr (hb.bd _ _ z).2
  ·rw[if_neg e];exact A6u _
 ·rw[g];by_cases e:p=q
  ·rw[if_pos e,<-e];exact hl T hT h1 h2
  ·rw[if_neg e];exact h1 q
theorem D3o (h0:0<=st)(hb:F3 m st b){p:Nat}(hp:p<m):F3 m st (b.set p (some st)):=by
 refine⟨by rw[j8];exact hb.len,λq x h=>?_⟩;rw[A4a (by rw[hb.len];exact hp)] at h;by_cases e:p=q
 ·rw[if_pos e] at h;cases h;exact⟨h0,A0v _⟩
 ·rw[if_neg e] at h;exact hb.bd q x h
end
def A6w (st:Int)(b:Tb):Nat:=b.countP λx=>not (x == some st)
theorem C3w (st:Int):∀(b:Tb)(p:Nat),p<b.length->gt b p≠some st->A6w st (b.set p (some st))<A6w st b
 | [],_,h,_=>by simp at h
 | x::b,0,_,h=>by
  have hx:x≠some st:=h;show List.countP _ (some st::b)<List.countP _ (x::b);rw[List.countP_cons_of_neg (by simp),List.countP_cons_of_pos (by simp [hx])];omega
 | x::b,p+1,h1,h2=>by
  have ih:=C3w st b p (by simpa using h1) h2;show List.countP _ (x::b.set p (some st))<List.countP _ (x::b);unfold A6w at ih;rw[List.countP_cons,List.countP_cons];omega
theorem B6e:∀(m:Nat)(l:!Nat),l.Nodup->(∀x∈l,x<m)->l.length<=m
 | 0,l,_,h=>by
  cases l with
  | nil=>exact G3 _
  | cons x r=>exact absurd (h x E5) (by omega)
 | m+1,l,nd,h=>by
  by_cases c:m∈l
  ·have h1:=B6e m (l.erase m) (nd.erase m) λx hx=>by
    have h2:=h x (List.mem_of_mem_erase hx);have h3:x≠m:=λe=>by
     subst e;exact absurd hx (nd.not_mem_erase)
    omega
   rw[List.length_erase_of_mem c] at h1;omega
  ·have:=B6e m l nd λx hx=>by
    have h2:=h x hx;have h3:x≠m:=λe=>c (e▸hx);omega
   omega
abbrev Sp2:=Nat×Int
def Z9 (m:Nat)(b:Sp2):Tb:=(G1 m none).set b.1 (some b.2)
def srF (m:Nat)(ws:!Wy)(st:Int)(b:Sp2):Nat->Rw
 | 0=>(Z9 m b,G1 m none)
 | k+1=>L6 m ws st (srF m ws st b k).1 (G1 m none)
def skF (m:Nat)(ws:!Wy)(st:Int)(b:Sp2)(k:Nat):Tb:=(srF m ws st b k).1
def srs (m:Nat)(ws:!Wy)(st:Int)(b:Sp2)(n:Nat):!Rw:=(U2 n).map (srF m ws st b)
def enF (t:Tb)(g:Sp2):Bool:=match gt t g.1 with
 | none=>false
 | some l=>decide (g.2<=l)
def goN (ws:!Wy)(st:Int):!Nat->Sp2->Option Sp2
 | [],q=>some q
 | n::ns,q=>match ws[n]? with
  | none=>none
  | some w=>if w.1=q.1 then (K8 st q.2 w.2.2).bind λl=>goN ws st ns (w.2.1,l) else none
section
variable {b g:Sp2}
theorem C3x {w:Wy}{n:Nat}{l:Int}(hw:ws[n]?=some w):∀{ns:!Nat}{q r:Sp2},goN ws st ns q=some r->w.1=r.1->K8 st r.2 w.2.2=some l->goN ws st (ns++[n]) q=some (w.2.1,l)
 | [],q,r,e,h1,h2=>by
  cases e;show (match ws[n]? with
   | none=>none
   | some w=>if w.1=q.1 then (K8 st q.2 w.2.2).bind λl=>goN ws st [] (w.2.1,l) else none)=_
  rw[hw];show (if w.1=q.1 then (K8 st q.2 w.2.2).bind λl=>goN ws st [] (w.2.1,l) else none)=_;rw[if_pos h1,h2];rfl
 | k::ns,q,r,e,h1,h2=>by
  have e':(match ws[k]? with
   | none=>none
   | some w=>if w.1=q.1 then (K8 st q.2 w.2.2).bind λl=>goN ws st ns (w.2.1,l) else none)=some r:=e
  show (match ws[k]? with
   | none=>none
   | some w=>if w.1=q.1 then (K8 st q.2 w.2.2).bind λl=>goN ws st (ns++[n]) (w.2.1,l) else none)=_
  cases hk:ws[k]? with
  | none=>rw[hk] at e';cases e'
  | some v=>
   rw[hk] at e';have e2:(if v.1=q.1 then (K8 st q.2 v.2.2).bind λl=>goN ws st ns (v.2.1,l) else none)=some r:=e';show (if v.1=q.1 then (K8 st q.2 v.2.2).bind λl=>goN ws st (ns++[n]) (v.2.1,l) else none)=_;by_cases c:v.1=q.1
   ·rw[if_pos c] at e2 ⊢;cases hs:K8 st q.2 v.2.2 with
    | none=>rw[hs] at e2;cases e2
    | some x=>rw[hs] at e2;exact C3x hw (ns:=ns) e2 h1 h2
   ·rw[if_neg c] at e2;cases e2
theorem B2v:(Z9 m b).length=m:=by unfold Z9;rw[j8,d9]
theorem D3p (hb:b.1<m){p:Nat}:gt (Z9 m b) p=if b.1=p then some b.2 else none:=by
 unfold Z9;rw[A4a (by rw[d9];exact hb),A18]
theorem B6f (ok:J2 m ws):∀k,(skF m ws st b k).length=m
 | 0=>B2v
 | k+1=>(Y1 (st:=st) (t:=skF m ws st b k) ok (d9 (a:=(none:Option Int)))).l1
theorem D3q (ok:J2 m ws):∀k,(srF m ws st b k).2.length=m
 | 0=>d9
 | k+1=>(Y1 (st:=st) (t:=skF m ws st b k) ok (d9 (a:=(none:Option Int)))).l2
theorem D3r (ok:J2 m ws):∀{k q n:Nat},gt (srF m ws st b k).2 q=some n->n<ws.length
 | 0,q,n,h=>by
  have h':gt (G1 m (none:Option Nat)) q=some n:=h;rw[A18] at h';cases h'
 | k+1,q,n,h=>by
  let⟨w,hw,_⟩:=(Y1 (st:=st) (t:=skF m ws st b k) ok (d9 (a:=(none:Option Int)))).yes q n h;exact (X4.mp hw).1
theorem B6g (n:Nat):srs m ws st b (n+1)=srs m ws st b n++[srF m ws st b n]:=by unfold srs;rw[C0x,L7];rfl
theorem C3y (ok:J2 m ws)(hb:b.1<m):∀{k p:Nat}{l:Int},gt (skF m ws st b k) p=some l->∃ns:!Nat,wlk ws (srs m ws st b (k+1)).reverse p=(b.1,ns)/\ns.length=k/\goN ws st ns b=some (p,l)/\∀n∈ns,n<ws.length
 | 0,p,l,h=>by
  have h':gt (Z9 m b) p=some l:=h;rw[D3p hb] at h';by_cases c:b.1=p
  ·rw[if_pos c] at h';cases h';subst c;refine⟨[],?_,rfl,rfl,λn hn=>nomatch hn⟩;show (match gt (G1 m (none:Option Nat)) b.1 with
    | none=>wlk ws [] b.1
    | some n=>((wlk ws [] (N4 ws n)).1,(wlk ws [] (N4 ws n)).2++[n]))=_
   rw[A18];rfl
  ·rw[if_neg c] at h';cases h'
 | k+1,p,l,h=>by
  have I:=Y1 (st:=st) (t:=skF m ws st b k) ok (d9 (n:=m) (a:=(none:Option Int)));have h':gt (L6 m ws st (skF m ws st b k) (G1 m none)).1 p=some l:=h;cases e:gt (L6 m ws st (skF m ws st b k) (G1 m none)).2 p with
  | none=>have:=I.no p e;rw[h',A18] at this;cases this
  | some n=>
   let⟨w,hw,h1,h2,_⟩:=I.yes p n e;rw[h'] at h2;unfold P8 at h2;cases e3:gt (skF m ws st b k) w.1 with
   | none=>rw[e3] at h2;cases h2
   | some x=>
    rw[e3] at h2;have h2':K8 st x w.2.2=some l:=h2.symm;let⟨ns,a1,a2,a3,a4⟩:=C3y ok hb e3;refine⟨ns++[n],?_,by rw[L3,a2];rfl,?_,λz hz=>?_⟩
    ·rw[B6g,List.reverse_append];show (match gt (L6 m ws st (skF m ws st b k) (G1 m none)).2 p with
      | none=>wlk ws (srs m ws st b (k+1)).reverse p
      | some n=>((wlk ws (srs m ws st b (k+1)).reverse (N4 ws n)).1,(wlk ws (srs m ws st b (k+1)).reverse (N4 ws n)).2++[n]))=_
     rw[e];show ((wlk ws (srs m ws st b (k+1)).reverse (N4 ws n)).1,(wlk ws (srs m ws st b (k+1)).reverse (N4 ws n)).2++[n])=_;have:N4 ws n=w.1:=by unfold N4;rw[hw]
     rw[this,a1]
    ·rw[<-h1];exact C3x hw a3 rfl h2'
    ·rcases p7.mp hz with z1 | z1
     ·exact a4 z z1
     ·have:z=n:=by simpa using z1
      rw[this];exact (X4.mp hw).1
end
variable {row:!Nat}{cs:!Int}{sc gv:Int}
section
variable {x y:Int}{p0:Nat}
end
section
variable {B S:!Wy}
end
section
variable {x y:Int}{p0 pl:Nat}
end
def Bet (ws ws':!Wy):Prop:=∀w∈ws,∃w'∈ws',w'.1=w.1/\w'.2.1=w.2.1/\w.2.2<=w'.2.2
def A98 (st:Int)(t:Tb):Tb:=t.map λo=>o.map λx=>if st<x then st else x
theorem A99 (t:Tb)(p:Nat):gt (A98 st t) p=(gt t p).map λx=>if st<x then st else x:=by
 unfold gt A98;rw[M2];cases t[p]? with
 | none=>rfl
 | some o=>rfl
theorem D3s (t:Tb):leT (A98 st t) t:=λp=>by
 rw[A99];cases gt t p with
 | none=>exact B2r
 | some x=>refine W0.mpr ?_;show (if st<x then st else x)<=x;split <;> omega
theorem B6h {ws ws':!Wy}{st':Int}{b b' t t':Tb}(h0:0<=st)(hs:st<=st')(hb0:F3 m st b)(hw:Bet ws ws')(hb:leT b b')(h:S1 m ws st b t)(h':S1 m ws' st' b' t'):leT t t':=by
 refine C3m (h.le (A98 st t') ⟨by unfold A98;rw[B7];exact h'.tab.len,λp x e=>?_⟩ (λp=>?_) λw hw1=>?_) (D3s t')
 ·rw[A99] at e;cases z:gt t' p with
  | none=>rw[z] at e;cases e
  | some y=>rw[z] at e;have e':(if st<y then st else y)=x:=Option.some.inj e;let⟨y0,_⟩:=h'.tab.bd p y z;subst e';split <;> omega
 ·rw[A99];have h1:=A17 (hb p) (h'.up p);cases z:gt b p with
  | none=>exact B2r
  | some x=>
   rw[z] at h1;cases z2:gt t' p with
   | none=>rw[z2] at h1;exact absurd h1 A04
   | some y=>rw[z2] at h1;have:=W0.mp h1;have:=(hb0.bd p x z).2;refine W0.mpr ?_;show x<=(if st<y then st else y);split <;> omega
 ·let⟨w',hw',e1,e2,e3⟩:=hw w hw1;have c:=h'.cl w' hw';unfold P8 at c ⊢;rw[e1,e2] at c;rw[A99,A99];cases z:gt t' w.1 with
  | none=>exact B2r
  | some x=>
   rw[z] at c;have c':leO (K8 st' x w'.2.2) (gt t' w.2.1):=c;show leO (K8 st (if st<x then st else x) w.2.2) _;generalize hx:(if st<x then st else x)=y;have hy:y<=x:=by rw[<-hx];split <;> omega
   unfold K8 at c' ⊢;by_cases d:y+w.2.2<0
   ·rw[if_pos d];exact B2r
   ·rw[if_neg d];rw[if_neg (by omega)] at c';cases z2:gt t' w.2.1 with
    | none=>rw[z2] at c';exact absurd c' A04
    | some u=>rw[z2] at c';have c2:=W0.mp c';refine W0.mpr ?_;show _<=(if st<u then st else u);split at c2 <;> split <;> split <;> omega
end Tactic
namespace Lake
open PySem PySem.Spec PyProof.Rows
def C3z (N:!Str)(osc scope:Scope)(x:Str)(j:Nat):Bool:=
 decide N.Nodup&&decide (N[j]?=some x)&&decide (scope.kind=.function)&&decide (osc.kind=.function)&&(scope.names.lookup x == some .local)&&
  scope.names.all λy=>match y.2 with
   | .cell=>false
   | .local=>scope.names.lookup y.1 == some .local&&(y.1 == x||not (N.contains y.1))
   | .free=>osc.names.lookup y.1 == some .cell
   | _=>true
theorem N1.old {N:!Str}{osc scope:Scope}{x:Str}{j:Nat}(h:C3z N osc scope x j=true):N1 N N osc scope j x:=by
 unfold C3z at h;simp only[Z2,decide_eq_true_eq,B09,beq_iff_eq] at h;let⟨⟨⟨⟨⟨h1,h0⟩,h2⟩,h3⟩,h4⟩,h5⟩:=h;refine⟨h1,h0,λi y J e=>e,A3j _,h2,λy hy e=>?_,λy hy e=>?_,λy hy e=>?_,h4,h3,λy hy e=>?_⟩
 ·have:=h5 y hy;rw[e] at this;cases this
 ·have:=h5 y hy;rw[e] at this;simp only[Z2,beq_iff_eq] at this;exact this.1
 ·have:=h5 y hy;rw[e] at this;simp only[Z2,A9k,beq_iff_eq,C0q,List.contains_eq_mem,decide_eq_false_iff_not] at this;exact this.2
 ·have:=h5 y hy;rw[e] at this;simp only[beq_iff_eq] at this;exact this
end Lake
namespace Tactic
open PySem Lake
variable {X:Cx}{C:DC}{st:Stmt}{te:DE}
section
variable {tg e:Expr}{u:DF}
end
section
def A4c (d:Int)(ds:!PyData)(Q:PyData->Prop):Prop:=match ds with
 | [.list xs]=>bnd (A16 xs) λns=>(ns=[]->Q (.int d))/\∀M,B19 ns M->Q (.int M)
 | _=>False
set_option tactic.hygienic true in
theorem C30 {K:A8}{d:Int}:A13 C (B5h d K) (A4c d):=by
 intro ρ σ P col H vs ds Qd Q r t g k;unfold A4c at g;split at g
 ·rename_i xs;cases hn:A16 xs with
  | none=>rw[hn] at g;exact g.elim
  | some ns=>
   rw[hn] at g;let⟨g1,g2⟩:=g;let⟨v,rfl,t1⟩:=A3y t;cases t1 with
   | lst _ e t2=>have z:=B50 t2 hn;subst z;exact⟨_,ns,rfl,SqL.of e,λq=>k _ _ _ ⟨col,r.push (.int d)⟩ (g1 q),λM hM=>k _ _ _ ⟨col,r.push (.int M)⟩ (g2 M hM)⟩
 ·exact g.elim
section
variable {ta:DF}
variable {a b:Expr}{pos:Pos}
end
end
section
variable {col col2:Addr->Nat}{ρ:!Sl}{σ:St}{P:!Pe}{H H2:Hp}{i:Nat}{ds:!PyData}{a:Addr}{vs:!V}
variable {e:Expr}
end
end Tactic
namespace Lake
open PySem PySem.Spec PyProof.Rows
section
variable {κ:Type}[DecidableEq κ]
def V2 (kvs:!(κ×V))(k:κ):Option V:=(kvs.find? λkv=>decide (kv.1=k)).map (·.2)
def i8 (kvs:!(κ×V))(k:κ)(v:V):!(κ×V):=
 if (kvs.any λkv=>decide (kv.1=k))=true then kvs.map (λkv=>if kv.1=k then (kv.1,v) else kv) else kvs++[(k,v)]
def A23 (kvs:!(κ×V))(k:κ):!(κ×V):=kvs.filter λkv=>decide (kv.1≠k)
theorem B2w {p:κ×V}{r:!(κ×V)}{k:κ}(e:p.1=k):V2 (p::r) k=some p.2:=by simp [V2,A47,e]
theorem B2x {p:κ×V}{r:!(κ×V)}{k:κ}(e:¬ p.1=k):V2 (p::r) k=V2 r k:=by simp [V2,A47,e]
theorem C31 (k:κ):∀kvs:!(κ×V),(kvs.any λkv=>decide (kv.1=k))=(V2 kvs k).isSome
 | []=>rfl
 | p::r=>by
  rw[A45];by_cases e:p.1=k
  ·simp only[B2w e,decide_eq_true e,Bool.true_or,Option.isSome_some]
  ·rw[B2x e,decide_eq_false e,Bool.false_or];exact C31 k r
theorem C32 (kvs:!(κ×V))(k:κ)(v:V):(i8 kvs k v).length<=kvs.length+1:=by
 unfold i8;split
 ·rw[B7];omega
 ·rw[L3,J6,A7m];omega
theorem W5.isSome_eq {o:Option V}{u:Option Value}(r:W5 o u):o.isSome=u.isSome:=by
 cases o with
 | none=>cases u with
  | none=>rfl
  | some _=>exact (show False from r).elim
 | some _=>cases u with
  | none=>exact (show False from r).elim
  | some _=>rfl
theorem W5.getD {o:Option V}{u:Option Value}{d:V}{d':Value}(r:W5 o u)(rd:F1 d d'):F1 (o.getD d) (u.getD d'):=by
 cases o with
 | none=>cases u with
  | none=>exact rd
  | some _=>exact (show False from r).elim
 | some _=>cases u with
  | none=>exact (show False from r).elim
  | some _=>exact r
theorem KV.val {kvs:!(κ×V)}{vs:!(κ×Value)}(r:KV kvs vs)(k:κ):W5 (V2 kvs k) (valueAt vs k):=by
 unfold KV at r
 induction r with
 | nil=>exact True.intro
 | @cons p q ps qs h t ih=>
  let⟨h1,h2⟩:=h;by_cases e:p.1=k
  ·have e':q.1=k:=h1.symm.trans e;have b:valueAt (q::qs) k=some q.2:=by simp [valueAt,A47,e']
   rw[B2w e,b];exact h2
  ·have e':¬ q.1=k:=λz=>e (h1.trans z);have b:valueAt (q::qs) k=valueAt qs k:=by simp [valueAt,A47,e']
   rw[B2x e,b];exact ih
theorem KV.any {kvs:!(κ×V)}{vs:!(κ×Value)}(r:KV kvs vs)(k:κ):(kvs.any λkv=>decide (kv.1=k))=vs.any λkv=>decide (kv.1=k):=by
 unfold KV at r
 induction r with
 | nil=>rfl
 | cons h t ih=>rw[A45,A45,ih,h.1]
theorem KV.repl {kvs:!(κ×V)}{vs:!(κ×Value)}(r:KV kvs vs)(k:κ){y:V}{u:Value}(ry:F1 y u) :
  KV (kvs.map λkv=>if kv.1=k then (kv.1,y) else kv) (vs.map λkv=>if kv.1=k then (kv.1,u) else kv):=by
 unfold KV at r ⊢
 induction r with
 | nil=>exact .nil
 | @cons p q ps qs h t ih=>
  rw[K9,K9];refine .cons ?_ ih;let⟨h1,h2⟩:=h;by_cases e:p.1=k
  ·rw[if_pos e,if_pos (h1.symm.trans e)];exact⟨h1,ry⟩
  ·rw[if_neg e,if_neg (λz=>e (h1.trans z))];exact⟨h1,h2⟩
theorem KV.put {kvs:!(κ×V)}{vs:!(κ×Value)}(r:KV kvs vs)(k:κ){y:V}{u:Value}(ry:F1 y u):KV (i8 kvs k y) (stored vs k u):=by
 unfold i8 stored;rw[r.any k];by_cases e:(vs.any λkv=>decide (kv.1=k))=true
 ·rw[if_pos e,if_pos e];exact r.repl k ry
 ·rw[if_neg e,if_neg e];exact Paired.snoc r ⟨rfl,ry⟩
theorem KV.drop {kvs:!(κ×V)}{vs:!(κ×Value)}(r:KV kvs vs)(k:κ):KV (A23 kvs k) (without vs k):=by
 unfold KV at r ⊢;unfold A23 without
 induction r with
 | nil=>exact .nil
 | @cons p q ps qs h t ih=>
  let⟨h1,h2⟩:=h;rw[List.filter_cons,List.filter_cons];by_cases e:p.1=k
  ·have a:¬ decide (p.1≠k)=true:=by simp [e]
   have b:¬ decide (q.1≠k)=true:=by simp [h1.symm.trans e]
   rw[if_neg a,if_neg b];exact ih
  ·have e':¬ q.1=k:=λz=>e (h1.trans z);have a:decide (p.1≠k)=true:=by simp [e]
   have b:decide (q.1≠k)=true:=by simp [e']
   rw[if_pos a,if_pos b];exact .cons ⟨h1,h2⟩ ih
theorem KV.length {kvs:!(κ×V)}{vs:!(κ×Value)}(r:KV kvs vs):kvs.length=vs.length:=Paired.length r
theorem D3t (kvs:!(κ×V))(k:κ):(A23 kvs k).length<=kvs.length:=C0y _ _
end
theorem A4d {P:Program}{w:World}{k:Key}{u:Value}(r:F1 (kV k) u):(U7 P w).is k u=true:=by
 cases k with
 | inl i=>let⟨t,e⟩:=(show ∃t,u=Value.int i t from r);subst e;exact C80 P w i t
 | inr x=>let⟨t,e⟩:=(show ∃t,u=Value.str x t from r);subst e;exact B4t P w x t
theorem C33 {P:Program}{w:World}:∀{ks:!Key}{us:!Value},E1 (ks.map kV) us->ItemsAre (U7 P w) ks us
 | [],_,r=>by rw[B4g] at r;cases r;exact .nil
 | k::ks,_,r=>by
  rw[K9] at r;cases r with
  | cons h t=>exact .cons (A4d h) (C33 t)
abbrev KT (H:Hp):!(!Key×V)->!(!Key×Addr×Value)->Prop:=Paired λp q=>p.1=q.1/\H q.2.1=some (.tup (p.1.map kV))/\F1 p.2 q.2.2
theorem KT.val {H:Hp}{kvs:!(!Key×V)}{xs:!(!Key×Addr×Value)}(r:KT H kvs xs)(k:!Key):W5 (V2 kvs k) ((atKey xs k).map (·.2)):=by
 induction r with
 | nil=>exact True.intro
 | @cons p q ps qs h t ih=>
  let⟨h1,_,h2⟩:=h;by_cases e:p.1=k
  ·have e':q.1=k:=h1.symm.trans e;have b:atKey (q::qs) k=some q.2:=by simp [atKey,A47,e']
   rw[B2w e,b];exact h2
  ·have e':¬ q.1=k:=λz=>e (h1.trans z);have b:atKey (q::qs) k=atKey qs k:=by simp [atKey,A47,e']
   rw[B2x e,b];exact ih
theorem KT.repl {H:Hp}{kvs:!(!Key×V)}{xs:!(!Key×Addr×Value)}(r:KT H kvs xs)(k:!Key){y:V}{u:Value}(ry:F1 y u) :
  KT H (kvs.map λkv=>if kv.1=k then (kv.1,y) else kv) (xs.map (putAt k u)):=by
 induction r with
 | nil=>exact .nil
 | @cons p q ps qs h t ih=>
  rw[K9,K9];refine .cons ?_ ih;let⟨h1,h2,h3⟩:=h;unfold putAt;by_cases e:p.1=k
  ·rw[if_pos e,if_pos (h1.symm.trans e)];exact⟨h1,h2,ry⟩
  ·rw[if_neg e,if_neg (λz=>e (h1.trans z))];exact⟨h1,h2,h3⟩
theorem KT.put {H:Hp}{kvs:!(!Key×V)}{xs:!(!Key×Addr×Value)}(r:KT H kvs xs)(k:!Key){b:Addr}{y:V}{u:Value}(hb:H b=some (.tup (k.map kV)))(ry:F1 y u) :
  KT H (i8 kvs k y) (storedH xs k b u):=by
 have e:(kvs.any λkv=>decide (kv.1=k))=(atKey xs k).isSome:=by
  rw[C31,(r.val k).isSome_eq,Option.isSome_map]
 unfold i8 storedH;rw[e];by_cases q:(atKey xs k).isSome=true
 ·rw[if_pos q,if_pos q];exact r.repl k ry
 ·rw[if_neg q,if_neg q];exact Paired.snoc r ⟨rfl,hb,ry⟩
theorem KT.keeps {H H':Hp}{kvs:!(!Key×V)}{xs:!(!Key×Addr×Value)}(r:KT H kvs xs)(ht:∀b ys,H b=some (.tup ys)->H' b=some (.tup ys)):KT H' kvs xs:=
 Paired.mapP r λJ J z=>⟨z.1,ht _ _ z.2.1,z.2.2⟩
variable {H:Hp}{a:Addr}
section
variable {P:Program}{w:World}{h:Heap}
theorem C34 {u:HO}(ok:HOk P w H h)(e:Rd H a u):N3 P w H h a u:=e.ok ok
theorem A6x {kvs:!(Key×V)}(ok:HOk P w H h)(e:Rd H a (.dK kvs)):kvs.length<=sizeLine/\(a == sysModules)=false/\∃vs,KV kvs vs/\h.DictOf (U7 P w) a vs:=
 show N3 P w H h a (.dK kvs) from C34 ok e
theorem B6i {kvs:!(Key×V)}(ok:HOk P w H h)(e:H a=some (.dK kvs)):kvs.length<=sizeLine/\(a == sysModules)=false/\∃vs,KV kvs vs/\h.DictOf (U7 P w) a vs:=A6x ok (.inl e)
theorem B0a {ks:!Key}(ok:HOk P w H h)(e:H a=some (.tup (ks.map kV))):(tupleKind (U7 P w)).is h ks a:=by
 let⟨_,its,r,o,h1,h2,n,h3⟩:=(show N3 P w H h a (.tup (ks.map kV)) from ok a _ e);exact⟨o,its.toArray,n,h1,h2,h3,by simpa using C33 r⟩
theorem A8t {kvs:!(!Key×V)}(ok:HOk P w H h)(e:Rd H a (.dT kvs)):kvs.length<=sizeLine/\(a == sysModules)=false/\
  ∃xs,KT H kvs xs/\h.DictOfH (tupleKind (U7 P w)) a xs:=by
 let⟨z,y,xs,r,o,es,ep,h1,h2,h3,h4,h5⟩:=(show N3 P w H h a (.dT kvs) from C34 ok e);refine⟨z,y,xs,r,o,es,ep,h1,h2,h3,h4,λx hx=>?_,h5⟩;have all:∀{l:!(!Key×V)}{m:!(!Key×Addr×Value)},KT H l m->∀x∈m,(tupleKind (U7 P w)).is h x.1 x.2.1:=by
  intro l m q
  induction q with
  | nil=>intro x hx;exact nomatch hx
  | @cons p q ps qs hq t ih=>
   intro x hx;rcases K7.mp hx with e | hx
   ·subst e;exact B0a ok (by rw[<-hq.1];exact hq.2.1)
   ·exact ih x hx
 exact all r x hx
theorem D3u {kvs:!(!Key×V)}(ok:HOk P w H h)(e:H a=some (.dT kvs)):kvs.length<=sizeLine/\(a == sysModules)=false/\
  ∃xs,KT H kvs xs/\h.DictOfH (tupleKind (U7 P w)) a xs:=A8t ok (.inl e)
end
def z4 (H:Hp)(a:Addr)(y:V)(r:Option V):Prop:=
 (∃kvs k,Rd H a (.dK kvs)/\y=kV k/\r=V2 kvs k)\/∃kvs k b,Rd H a (.dT kvs)/\y=.ref b/\H b=some (.tup (k.map kV))/\r=V2 kvs k
def A8u (H:Hp)(a:Addr)(y v:V)(H':Hp):Prop:=
 (∃kvs k,H a=some (.dK kvs)/\y=kV k/\kvs.length<sizeLine/\H'=upd H a (.dK (i8 kvs k v)))\/
 ∃kvs k b,H a=some (.dT kvs)/\y=.ref b/\H b=some (.tup (k.map kV))/\kvs.length<sizeLine/\H'=upd H a (.dT (i8 kvs k v))
theorem z4.k {H:Hp}{a:Addr}{kvs:!(Key×V)}{k:Key}(e:H a=some (.dK kvs)):z4 H a (kV k) (V2 kvs k):=.inl ⟨kvs,k,.inl e,rfl,rfl⟩
theorem A8u.k {H:Hp}{a:Addr}{kvs:!(Key×V)}{k:Key}{v:V}(e:H a=some (.dK kvs))(hl:kvs.length<sizeLine):A8u H a (kV k) v (upd H a (.dK (i8 kvs k v))):=.inl ⟨kvs,k,e,rfl,hl,rfl⟩
variable {X:Cx}{pins:!(Addr×Obj)}{σ:St}{s:Shared}{y:V}{u:Value}{A:Around}{E:Value->Shared->Prop}
section
variable {v:V}{r:Value}{o:Option V}
theorem Inv.big (I:Inv X pins σ H s):sysModules<s.heap.objs.size:=by
 have h:mainGlobals<s.heap.objs.size:=(I.mod.glob.keeps I.bk).lt;exact Nat.lt_trans DD h
theorem D3v {Q:Value->Shared->Prop}(hu:A.units+1<cLine)(I:Inv X pins σ H s)(g:z4 H a y (some v))(ry:F1 y u)(h:∀w' s',Inv X pins σ H s'->F1 v w'->Q w' s') :
  wpAny (model X.prog X.w) A (getItem (.ref a) u) Q E s:=by
 rcases g with ⟨kvs,k,e,ey,l⟩ | ⟨kvs,k,b,e,ey,eb,l⟩
 ·subst ey;let⟨z,hd,vs,rel,dd⟩:=A6x I.hok e;let⟨w',hw,rw'⟩:=W5.some_of (v:=v) (o:=valueAt vs k) (by rw[l];exact rel.val k);exact wpAny_getItem_of (A4d ry) dd.mapOf hw (h w' _ (I.tok _) rw')
 ·subst ey;cases (show u=Value.ref b from ry);let⟨z,hd,xs,rel,dd⟩:=A8t I.hok e;let⟨w',hw,rw'⟩:=W5.some_of (v:=v) (o:=(atKey xs k).map (·.2)) (by rw[l];exact rel.val k);let⟨p,hp,hp2⟩:=A1e.mp hw;refine wpAny_getItem_heap (tupleKind_room_in1 hu) (B0a I.hok eb) dd hp ?_;rw[hp2];exact h w' _ (I.tok _) rw'
theorem D3w {Q:Value->Shared->Prop}(hu:A.units+1<cLine)(I:Inv X pins σ H s)(g:z4 H a y o)(ry:F1 y u)(h:∀s',Inv X pins σ H s'->Q (.bool o.isSome) s') :
  wpAny (model X.prog X.w) A (compareOp .In u (.ref a)) Q E s:=by
 rcases g with ⟨kvs,k,e,ey,l⟩ | ⟨kvs,k,b,e,ey,eb,l⟩
 ·subst ey;let⟨z,hd,vs,rel,dd⟩:=A6x I.hok e;refine wpAny_in_of (A4d ry) hd dd.mapOf ?_;rw[<-(rel.val k).isSome_eq,<-l];exact h _ (I.tok _)
 ·subst ey;cases (show u=Value.ref b from ry);let⟨z,hd,xs,rel,dd⟩:=A8t I.hok e;refine wpAny_in_heap (tupleKind_room_in1 hu) (B0a I.hok eb) hd dd ?_;have q:=(rel.val k).isSome_eq;rw[Option.isSome_map] at q;rw[<-q,<-l];exact h _ (I.tok _)
theorem D3x {Q:Value->Shared->Prop}(hu:A.units+1<cLine)(I:Inv X pins σ H s)(g:z4 H a y o)(ry:F1 y u)(h:∀s',Inv X pins σ H s'->Q (.bool (not o.isSome)) s') :
  wpAny (model X.prog X.w) A (compareOp .NotIn u (.ref a)) Q E s:=by
 rcases g with ⟨kvs,k,e,ey,l⟩ | ⟨kvs,k,b,e,ey,eb,l⟩
 ·subst ey;let⟨z,hd,vs,rel,dd⟩:=A6x I.hok e;refine wpAny_notIn_of (A4d ry) hd dd.mapOf ?_;rw[<-(rel.val k).isSome_eq,<-l];exact h _ (I.tok _)
 ·subst ey;cases (show u=Value.ref b from ry);let⟨z,hd,xs,rel,dd⟩:=A8t I.hok e;refine wpAny_notIn_heap (tupleKind_room_in1 hu) (B0a I.hok eb) hd dd ?_;have q:=(rel.val k).isSome_eq;rw[Option.isSome_map] at q;rw[<-q,<-l];exact h _ (I.tok _)
theorem B6j {h':Heap}{t':Nat}{ob:HO}(I:Inv X pins σ H s)(mu:Mut (H a))(hs:Heap.SameBut a s.heap h')(he:∃q,h'.get? a=some q)(new:N3 X.prog X.w (upd H a ob) h' a ob) :
  Inv X pins σ (upd H a ob) { s with heap:=h',toks:=t' }:=
 I.write (x:=a) (e:=a) mu (.inl rfl) (λb q hb z=>(hs.2 b hb).trans z) he new
theorem C35 {P:Program}{w:World}{H':Hp}{h':Heap}{kvs:!(Key×V)}{vs:!(Key×Value)}(z:kvs.length<=sizeLine)(hd:(a == sysModules)=false)(rel:KV kvs vs)(dd:h'.DictOf (U7 P w) a vs) :
  N3 P w H' h' a (.dK kvs):=⟨z,hd,vs,rel,dd⟩
theorem D3y {H':Hp}{Q:Unit->Shared->Prop}(hu:A.units+1<cLine)(I:Inv X pins σ H s)(g:A8u H a y v H')(ry:F1 y u)(rv:F1 v r)(h:∀s',Inv X pins σ H' s'->Q () s') :
  wpAny (model X.prog X.w) A (setItem (.ref a) u r) Q E s:=by
 rcases g with ⟨kvs,k,e,ey,l,eH⟩ | ⟨kvs,k,b,e,ey,eb,l,eH⟩
 ·subst ey eH;let⟨z,hd,vs,rel,dd⟩:=B6i I.hok e;have hz:vs.length<=sizeLine:=by rw[<-rel.length];exact z
  have hl:(i8 kvs k v).length<=sizeLine:=by have:=C32 kvs k v;omega
  refine wpAny_setItem_pairs (hsz:=hz) (A4d ry) dd λh' dd' hs=>h _ ?_;have he:∃q,h'.get? a=some q:=let ⟨q,_,_,hq,_⟩:=dd';⟨q,hq⟩;exact B6j I (by rw[e];exact True.intro) hs he (C35 hl hd (rel.put k rv) dd')
 ·subst ey eH;cases (show u=Value.ref b from ry);let⟨z,hd,xs,rel,dd⟩:=D3u I.hok e;have hz:xs.length<=sizeLine:=by rw[<-Paired.length rel];exact z
  have hl:(i8 kvs k v).length<=sizeLine:=by have:=C32 kvs k v;omega
  refine wpAny_setItem_heap (hsz:=hz) (tupleKind_room_in1 hu) (B0a I.hok eb) dd λh' dd' hs=>h _ ?_;let⟨q,es,ep,hq,h2,h3,h4,_,h5⟩:=dd';refine B6j I (by rw[e];exact True.intro) hs ⟨q,hq⟩ ⟨hl,hd,_,(rel.put k eb rv).keeps λc ys ec=>?_,q,es,ep,hq,h2,h3,h4,h5⟩;rw[C4 (C01 ec e (λz=>nomatch z))];exact ec
end
section
variable {kvs:!(Key×V)}{k:Key}
theorem D3z {v:V}{more:!Value}{Q:Value->Shared->Prop}(I:Inv X pins σ H s)(e:H a=some (.dK kvs))(ry:F1 (kV k) u)(l:V2 kvs k=some v)(hm:more=[]\/∃x,more=[x])
  (h:∀w' s',Inv X pins σ (upd H a (.dK (A23 kvs k))) s'->F1 v w'->Q w' s'):wpAny (model X.prog X.w) A (call (.builtin "dict.pop") (.ref a::u::more)) Q E s:=by
 let⟨z,hd,vs,rel,dd⟩:=B6i I.hok e;let⟨w',hw,rw'⟩:=W5.some_of (v:=v) (o:=valueAt vs k) (by rw[<-l];exact rel.val k);have hp:(keyPart u).isSome=true:=by
  cases k with
  | inl i=>let⟨t,q⟩:=(show ∃t,u=Value.int i t from ry);subst q;rfl
  | inr x=>let⟨t,q⟩:=(show ∃t,u=Value.str x t from ry);subst q;rfl
 have ha:argsOk "dict.pop" ⟨.ref a::u::more,[]⟩:=by
  rcases hm with q | ⟨x,q⟩
  ·subst q;exact PySem.F.args_dict_pop_2 _ _
  ·subst q;exact PySem.F.args_dict_pop_3 _ _ _
 refine call_meetsIn PySem.F.slot_dict_pop dd.typeIs PySem.F.entry_dict_pop ha (meets_dict_pop_there (U7 X.prog X.w) a (A4d ry) more hm hp)
  ⟨vs,w',dd,by rw[<-rel.length];exact z,hw,λh' dd' hs=>h w' _ ?_ rw'⟩
 have he:∃q,h'.get? a=some q:=let ⟨q,_,_,hq,_⟩:=dd';⟨q,hq⟩;exact B6j I (by rw[e];exact True.intro) hs he (C35 (M0 (D3t kvs k) z) hd (rel.drop k) dd')
theorem D30 {Q:Value->Shared->Prop}(I:Inv X pins σ H s)(e:Rd H a (.dK kvs))(h:∀t s',Inv X pins σ H s'->Q (.int kvs.length t) s'):wpAny (model X.prog X.w) A (call (.builtin "len") [.ref a]) Q E s:=by
 let⟨z,hd,vs,rel,dd⟩:=A6x I.hok e;refine call_len_dict hd dd (by rw[<-rel.length];rw[sizeLine_eq] at z;omega) ?_;rw[<-rel.length];exact h _ _ (I.tok _)
end
def B6k (i:Expr):Prop:=∀ov iv,subscripted i false ov iv=operate [ov,iv] (getItem ov iv)
theorem C36 {prog:Program}{w:World}{A:Around}{E:Value->Shared->Prop}{s:Shared}{env:Env}{value slice:Expr}{pos:Pos}{T id:String}{Q:Value->Shared->Prop}
  (hl:typeLookup (.type T) "__getitem__" = pure (some (.builtin id))) (hs:B6k slice)
  (h:wpAny (model prog w) A (eval value env) (λo s₁=>wpAny (model prog w) A (eval slice env) (λi s₂=>s₂.TypeIs o T/\wpAny (model prog w) A (getItem o i) Q E s₂) E s₁) E s) :
  wpAny (model prog w) A (eval (.Subscript value slice pos) env) Q E s:=by
 refine Subscript_ (wpAny_mono h (λo s₁ h₁=>wpAny_mono h₁ (λi s₂ h₂=>?_) λJ J x=>x) λJ J x=>x);let⟨hT,h₂⟩:=h₂;unfold subscriptTail;refine wpAny_bind ?_;rw[getitemInPython_of_ne hT.not_modules];refine wpAny_bind (wpAny_specialOf hT hl ?_);have fin:wpAny (model prog w) A (subscripted slice false o i) (λr s₃=>wpAny (model prog w) A (letTemporaryGo value o r >>= λJ=>pure r) Q E s₃) E s₂:=by
  rw[hs o i];exact wpAny_operating (wpAny_mono h₂ (λr s₃ h₃=>wpAny_bind (wpAny_letTemporaryGo (wpAny_pure h₃))) λJ J x=>x)
 first
  | exact wpAny_pure (wpAny_bind fin)
  | exact wpAny_bind (wpAny_pure (wpAny_bind fin))
  | exact wpAny_bind fin
theorem D31 {X:Cx}{pins:!(Addr×Obj)}{σ:St}{H:Hp}{s:Shared}{a:Addr}{y:V}{o:Option V}(I:Inv X pins σ H s)(g:z4 H a y o):s.TypeIs (.ref a) "dict" :=by
 rcases g with ⟨kvs,k,e,_,_⟩ | ⟨kvs,k,b,e,_,_,_⟩
 ·let⟨_,_,vs,_,dd⟩:=A6x I.hok e;exact dd.typeIs
 ·let⟨_,_,xs,_,dd⟩:=A8t I.hok e;exact dd.typeIs
def D32 (td ty:TE):TE:=fun σ H Q=>td σ H λx H1=>ty σ H1 λy H2=>∃a v,x=.ref a/\z4 H2 a y (some v)/\Q v H2
def D33 (ty td:TE):TE:=fun σ H Q=>ty σ H λy H1=>td σ H1 λx H2=>∃a o,x=.ref a/\z4 H2 a y o/\Q (.bl o.isSome) H2
def D34 (ty td:TE):TE:=fun σ H Q=>ty σ H λy H1=>td σ H1 λx H2=>∃a o,x=.ref a/\z4 H2 a y o/\Q (.bl (not o.isSome)) H2
def D35 (td ty tv:TE):TS:=λD σ H=>tv σ H λv H1=>td σ H1 λx H2=>ty σ H2 λy H3=>∃a H4,x=.ref a/\A8u H3 a y v H4/\D.nx σ H4
section
variable {o i e value:Expr}{pos pos' tpos:Pos}{td ty tv:TE}
theorem B6l (hu:X.A.units+1<cLine)(ho:PE X o td)(hi:PE X i ty)(hs:B6k i):PE X (.Subscript o i pos) (D32 td ty):=by
 intros Q I h;refine C36 PySem.F.slot_dict_getitem.lookup hs (thn (ho pins s σ H _ I h) λu s1 zw1=>el5 zw1 λx H1 I1 rx q1=>thn (hi pins s1 σ H1 _ I1 q1) λiv s2 zw2=>el5 zw2 λy H2 I2 ry qw2=>?_);let⟨a,v,ex,g,q2⟩:=qw2;subst ex;obtain rfl:u=Value.ref a:=rx;exact⟨D31 I2 g,D3v hu I2 g ry λw' s3 I3 rw'=>⟨v,H2,I3,rw',q2⟩⟩
theorem D36 (hu:X.A.units+1<cLine)(hi:PE X i ty)(ho:PE X o td):PC X .In i o (D33 ty td):=by
 intros Q I h;refine thn (hi pins s σ H _ I h) λiv s1 zw3=>el5 zw3 λy H1 I1 ry q1=>thn (ho pins s1 σ H1 _ I1 q1) λu s2 zw4=>el5 zw4 λx H2 I2 rx qw4=>?_;let⟨a,ov,ex,g,q2⟩:=qw4;subst ex;obtain rfl:u=Value.ref a:=rx;exact D3w hu I2 g ry λs3 I3=>⟨.bl ov.isSome,H2,I3,rfl,q2⟩
theorem D37 (hu:X.A.units+1<cLine)(hi:PE X i ty)(ho:PE X o td):PC X .NotIn i o (D34 ty td):=by
 intros Q I h;refine thn (hi pins s σ H _ I h) λiv s1 zw5=>el5 zw5 λy H1 I1 ry q1=>thn (ho pins s1 σ H1 _ I1 q1) λu s2 zw6=>el5 zw6 λx H2 I2 rx qw6=>?_;let⟨a,ov,ex,g,q2⟩:=qw6;subst ex;obtain rfl:u=Value.ref a:=rx;exact D3x hu I2 g ry λs3 I3=>⟨.bl (not ov.isSome),H2,I3,rfl,q2⟩
theorem C37 (hu:X.A.units+1<cLine)(ho:PE X o td)(hi:PE X i ty)(hv:PE X value tv)(hs:swapsWith value (some (.Subscript o i pos')) pos.line X.env=pure false) :
  PS X (.Assign [.Subscript o i pos'] value pos) (D35 td ty tv):=by
 intros D I h;refine wpAny_Assign_Subscript (thn (hv pins s σ H _ I h) λr s1 zw7=>el5 zw7 λv H1 I1 rv q1=>thn (ho pins s1 σ H1 _ I1 q1) λu s2 zw8=>el5 zw8 λx H2 I2 rx q2=>thn (hi pins s2 σ H2 _ I2 q2) λiv s3 zw9=>el5 zw9 λy H3 I3 ry qw9=>?_) hs;let⟨a,H4,ex,g,q3⟩:=qw9;subst ex;obtain rfl:u=Value.ref a:=rx;exact D3y hu I3 g ry rv λs4 I4=>⟨σ,H4,I4,q3⟩
end
theorem D38 {P:Program}{w:World}{H:Hp}(h:Heap)(hb:sysModules<h.objs.size):N3 P w H (h.push { cls:=.type "dict",data:=.dict #[] }) h.objs.size (.dK []):=
 ⟨Q7 _,beq_eq_false_iff_ne.mpr (Ne.symm (S5 hb)),[],.nil,Heap.DictOf.new h⟩
def D39:TE:=λJ H Q=>∀p,H p=none->Q (.ref p) (upd H p (.dK []))
section
variable {pos:Pos}
theorem D4a:PE X (.Dict [] [] pos) D39:=λpins s σ H Q I h=>
 wpAny_Dict_empty ⟨.ref s.heap.objs.size,_,I.laid (a:=s.heap.objs.size) (o:=.dK []) (t':=s.toks) (λJ J q=>Q3 _ q) (G3 _) (D38 s.heap I.big),rfl,h _ (I.hok.fresh (G3 _))⟩
end
structure M1 (X:Cx)(o:Expr)(m:Str)(apos:Pos)(e:Expr)(cpos:Pos):Prop where
 base:attributeBase o m X.env (eval o X.env)=eval o X.env
 few:((backTo cpos (starEach [e] X.env)).all (λx=>not x.1)&&(backToKw cpos (keywordEach [] X.env)).all (λx=>x.1.isSome)
  &&decide (([e]:!Expr).length+([]:!Keyword).length+(if ([]:!Keyword).isEmpty then 0 else 1)<30))=true
 line:(apos.endLine == cpos.line)=true
 trees:backTo cpos (starEach [e] X.env)=[(false,eval e X.env)]
def IsD (H:Hp)(a:Addr):Prop:=(∃kvs,Rd H a (.dK kvs))\/∃kvs,Rd H a (.dT kvs)
theorem D4b {X:Cx}{pins:!(Addr×Obj)}{σ:St}{H:Hp}{s:Shared}{a:Addr}(I:Inv X pins σ H s)(d:IsD H a) :
  s.TypeIs (.ref a) "dict" /\(∀b,Value.ref a=.ref b->∃ob,s.heap.get? b=some ob/\ob.dict=none)/\(a == sysModules)=false:=by
 rcases d with ⟨kvs,e⟩ | ⟨kvs,e⟩
 ·let⟨_,hd,vs,_,dd⟩:=A6x I.hok e;refine⟨dd.typeIs,λb q=>?_,hd⟩;cases q;let⟨ob,_,_,h1,h2,_⟩:=dd;exact⟨ob,h1,h2.2.1⟩
 ·let⟨_,hd,xs,_,dd⟩:=A8t I.hok e;refine⟨dd.typeIs,λb q=>?_,hd⟩;cases q;let⟨ob,_,_,h1,h2,_⟩:=dd;exact⟨ob,h1,h2.2.1⟩
section
variable {d:V}{r:Value}{o:Option V}
end
def D4c (td ty:TE):TE:=fun σ H Q=>td σ H λx H1=>∃a,x=.ref a/\IsD H1 a/\ty σ H1 λy H2=>∃kvs k v,H2 a=some (.dK kvs)/\y=kV k/\V2 kvs k=some v/\Q v (upd H2 a (.dK (A23 kvs k)))
section
variable {o e f:Expr}{apos cpos:Pos}{td ty tx:TE}
theorem D4d (ho:PE X o td)(he:PE X e ty)(m:M1 X o "pop" apos e cpos):PE X (.Call (.Attribute o "pop" apos) [e] [] cpos) (D4c td ty):=by
 intros Q I h;refine wpAny_Call_method m.base m.few m.line PySem.F.plainAttrs_dict PySem.F.slot_dict_pop PySem.F.type_dict_pop (thn (ho pins s σ H _ I h) λu s1 zw10=>el5 zw10 λx H1 I1 rx qw10=>?_);let⟨a,ex,d,q1⟩:=qw10;subst ex;obtain rfl:u=Value.ref a:=rx;let⟨t1,t2,_⟩:=D4b I1 d;exists t1,t2;rw[m.trees];refine Calls.callWith_builtin rfl (Calls.evalArgs_plain (Calls.spliced_cons (thn (he pins s1 σ H1 _ I1 q1) λiv s2 zw11=>el5 zw11 λy H2 I2 ry qw11=>Calls.spliced_nil ?_)));let⟨kvs,k,v,ea,ey,l,q2⟩:=qw11;subst ey;exact D3z I2 ea ry l (.inl rfl) λw' s3 I3 rw'=>⟨v,_,I3,rw',q2⟩
end
section
variable {kvs:!(Key×V)}
end
section
variable {prog:Program}{w:World}
end
end Lake
namespace Tactic
open PySem Lake
theorem u1 {n:Nat}(h:n+64<cLine):n+1<cLine:=by omega
section
variable {C:DC}{col:Addr->Nat}{ρ:!Sl}{σ:St}{P:!Pe}{H H':Hp}{p:Addr}
end
open PySem.Spec PyProof.Rows
section
variable {P:Program}{w:World}{K:A8}{mg:Str->Option Value}{base:Heap}
open Classical in
end
section
variable {X:Cx}{C:DC}{st:Stmt}{e a b:Expr}{te tk:DE}{u:DA}{pos:Pos}
end
end Tactic
namespace Tactic
open PySem Lake
mutual
def D4e:PyData->!(!PyData)
 | .list ds=>ds::B6m ds
 | .tuple ds=>B6m ds
 | _=>[]
def B6m:!PyData->!(!PyData)
 | []=>[]
 | d::ds=>D4e d++B6m ds
end
mutual
def szD:PyData->Nat
 | .list ds=>szL ds+1
 | .tuple ds=>szL ds+1
 | _=>1
def szL:!PyData->Nat
 | []=>0
 | d::ds=>szD d+szL ds
end
section
variable {X:Cx}{C:DC}{st:Stmt}{u:DA}
variable {a b:Expr}{tb:DE}{pos:Pos}
variable {a b:Expr}{tb:DE}{pos:Pos}
end
end Tactic
namespace Lake
open PySem PySem.Spec PyProof.Rows
end Lake
namespace Tactic
open PySem Lake
open PySem.Spec PyProof.Rows
section
variable {C:DC}{col:Addr->Nat}{ρ:!Sl}{σ:Lake.St}{P:!Pe}{H H':Hp}{p:Addr}
end
section
variable {X:Cx}{C:DC}{st:Stmt}{e:Expr}{te:DE}{u:DA}{pos:Pos}
end
end Tactic
namespace Tactic
open PySem Lake
section
variable {X:Cx}{C:DC}{st:Stmt}{e:Expr}{ta:DE}
end
end Tactic
namespace Tactic
abbrev Ct:=!(!(Option Int))
abbrev Spt:=Nat×Nat
def ca (t:Ct)(s:Spt):Option Int:=gt (t.getD s.1 []) s.2
open PySem Lake
def mxI (a b:Int):Int:=if b>a then b else a
end Tactic
namespace Lake
open PySem PySem.Spec PyProof.Rows
section
variable {X:Cx}
end
end Lake
namespace Tactic
open PySem Lake
section
variable {C:DC}
end
end Tactic
namespace Lake
open PySem PySem.Spec PyProof.Rows
variable {X:Cx}{s:Shared}
section
variable {pins:!(Addr×Obj)}{σ:St}{H:Hp}
end
variable {prog:Program}{A:Around}{E:Value->Shared->Prop}
section
variable {w:World}{K:Type}[DecidableEq K]{knd:HeapKind prog w K}
end
section
variable {pins:!(Addr×Obj)}{σ:St}{H:Hp}{a b:Addr}{kvs:!(!Key×V)}{k:!Key}
end
section
variable {w:World}
end
section
variable {w:World}{R:Result->Shared->Prop}{I:Addr}{fp wr:!Addr}{n:Nat}{P:Nat->Value->Prop}{St:Nat->Heap->Prop}
end
theorem C38:∀{kvs:!(Key×V)}{vs:!(Key×Value)}{ns:!Int}{its:!Value},KV kvs vs->kvs.map (·.1)=ns.map Sum.inl->its.length=vs.length->(∀(j:Nat)(v:Value),its[j]?=some v->∃k x,vs[j]?=some (k,x)/\∀i,k=Sum.inl i->∃t,v=Value.int i t)->E1 (ns.map V.int) its
 | [],[],[],[],_,_,_,_=>.nil
 | [],[],[],_::_,_,_,hl,_=>nomatch hl
 | [],[],_::_,_,_,h,_,_=>nomatch h
 | [],_::_,_,_,h,_,_,_=>nomatch h
 | _::_,[],_,_,h,_,_,_=>nomatch h
 | _::_,_::_,[],_,_,h,_,_=>nomatch h
 | _::_,_::_,_::_,[],_,_,hl,_=>nomatch hl
 | p::kvs,q::vs,n::ns,u::its,h,hk,hl,hp=>by
  let⟨k,x,e,e1⟩:=hp 0 u rfl;cases e;have h1:p.1=k/\KV kvs vs:=by
   cases h with
   | cons a b=>exact⟨a.1,b⟩
  rw[K9,K9] at hk;injection hk with hk1 hk2
  rw[h1.1] at hk1;exact .cons (e1 n hk1) (C38 h1.2 hk2 (by simpa using hl) λj v hj=>hp (j+1) v hj)
section
variable {w:World}{T:String}{r d:Addr}{n:Nat}{P:Nat->Value->Prop}{OK:Heap->Prop}
theorem D4f {R:!Value->Shared->Prop}(src:PySem.W.KdlSrc prog w T r d n P OK)(calm:A.handled=none)(ok:OK s.heap)(few:n<=sizeLine)
  (k:∀(g:Heap)(t:Nat)(xs:Array Value),(∀b o,s.heap.get? b=some o->g.get? b=some o)->s.heap.objs.size<=g.objs.size->ItemsOf P xs n->R xs.toList { s with heap:=g,toks:=t }) :
  wpAny (model prog w) A (collect (.ref r)) R E s:=by
 let⟨lt1,lt2⟩:=src.there _ ok;unfold collect;refine wpAny_bind (wpAny_runValue (codeAny_builtin entry_proto_collect' ?_));rw[Around.under_plainId PySem.F.plain_proto_collect _];show wpAny _ A.in1 (newList [] >>= λq=>again (.builtin "list.__iadd__" ⟨[q,.ref r],[]⟩)) _ _ s;refine wpAny_bind (wpAny_newObj_type (wpAny_pure ⟨plainId_quiet PySem.F.plain_list_iadd _,codeAny_builtin entry_list_iadd' ?_⟩));rw[Around.under_plainId PySem.F.plain_list_iadd _];show wpAny _ A.in1 (Builtin.List.listExtendWith (.ref s.heap.objs.size) (.ref r) (.ref s.heap.objs.size)) _ _ _;have base:(s.heap.push { cls:=.type "list",data:=.seq ([]:!Value).toArray }).get? s.heap.objs.size=some { cls:=.type "list",data:=.seq #[] }:=U3 _ rfl;have walk:=PySem.W.kdl_extend (A:=A) (s:={ s with heap:=s.heap.push { cls:=.type "list",data:=.seq ([]:!Value).toArray } })
  (R:=λ(q:Result) (s':Shared)=>∃(g:Heap)(t:Nat)(xs:Array Value)(c:Nat),q=.ok (.ret (.ref s.heap.objs.size))/\s'={ s with heap:=g,toks:=t }/\(∀b o,s.heap.get? b=some o->g.get? b=some o)/\
   g.get? s.heap.objs.size=some { cls:=.type "list",dict:=none,data:=.seq xs c,slots:=#[] }/\ItemsOf P xs n)
  src calm (src.keep _ _ ok λb J o z=>Q3 _ z) s.heap.objs.size (A9i lt1) (A9i lt2) (.ref s.heap.objs.size) 0 base
  (λg t xs c hk hS hx=>⟨g,t,xs,c,rfl,rfl,λb o z=>hk b o (S5 (K3 z)) (Q3 _ z),hS,hx⟩) few
 have fin:∀{g:Heap}{t:Nat}{xs:Array Value}{c:Nat},(∀b o,s.heap.get? b=some o->g.get? b=some o)->g.get? s.heap.objs.size=some { cls:=.type "list",dict:=none,data:=.seq xs c,slots:=#[] }->ItemsOf P xs n->R xs.toList { s with heap:=g,toks:=t }:=
  λhk hS hx=>k _ _ _ hk (A3h (K3 hS)) hx
 refine wpAny_mono walk (λf s' x=>?_) λe s' x=>by let⟨_,_,_,_,z,_⟩:=x;cases z
 cases f with
 | done f=>let⟨g,t,xs,c,z,rfl,hk,hS,hx⟩:=x;cases z;show wpAny _ A (load s.heap.objs.size >>= _) _ _ _;exact wpAny_bind (wpAny_load hS (wpAny_pure (fin hk hS hx)))
 | again c₁=>refine⟨x.1,codeAny_mono x.2 λq s₂ y=>?_⟩;let⟨g,t,xs,c,rfl,rfl,hk,hS,hx⟩:=y;show wpAny _ A (load s.heap.objs.size >>= _) _ _ _;exact wpAny_bind (wpAny_load hS (wpAny_pure (fin hk hS hx)))
end
theorem C39 (hc:X.calm=true):X7 X (.builtin "sorted") (λxs H Q=>∃(p:Addr)(kvs:!(Key×V))(ns:!Int),xs=[.ref p]/\H p=some (.dK kvs)/\kvs.map (·.1)=ns.map Sum.inl/\ns.length<64/\∀(l:Addr)(ms:!Int),H l=none->ms.Perm ns->ms.Pairwise (·<=·)->Q (.ref l) (upd H l (.lst (ms.map V.int)))):=by
 intros xs us Q I r h;let⟨p,kvs,ns,rfl,e,hkeys,hn,q⟩:=h;let⟨u,rfl,rx⟩:=X9 r;cases rx;let⟨z,lo,vs,rel,dd⟩:=B6i I.hok e;let⟨ep,hat⟩:=dd.dictAt;have hh:=I.ok.hd hc;have ln:kvs.length=ns.length:=by have:=congrArg B07 hkeys;simpa using this
 have lv:vs.length=ns.length:=by rw[<-rel.length,ln]
 refine Calls.call_function_entry kind_sorted plain_sorted entry_sorted (args_sorted1 _) ?_;unfold Builtin.«sorted»;refine wpAny_bind (m:=checkCount "sorted" 1 1 _) (wpAny_pure ?_);refine wpAny_bind (D4f (A:=X.A.in1) (PySem.W.kdl_dict (knd:=U7 X.prog X.w) (kvs:=vs) (ep:=ep) lo) hh hat (by rw[<-rel.length];exact z) λh' tk acc hk ge hacc=>?_);have hl:acc.toList.length=vs.length:=by rw[A7e];exact hacc.1
 have hv:E1 (ns.map V.int) acc.toList:=C38 rel hkeys hl λj v hj=>by
  let⟨k,x,e1,e2⟩:=hacc.2 j v (by rw[<-B08];exact hj);refine⟨k,x,e1,λi hi=>?_⟩;subst hi;have e2:A3n (Sum.inl i) v=true:=(C8z X.prog X.w (Sum.inl i) v).symm.trans e2;rcases A1w e2 with ⟨j,t,e3,e4⟩ | ⟨y,t,e3,_⟩
  ·cases e3;exact⟨t,e4⟩
  ·cases e3
 have hi:=C11 hv;have h64:acc.toList.length<64:=by rw[hl,lv];exact hn
 refine wpAny_bind (wpAny_newList ?_ (by rw[hl,<-rel.length];exact z));have hoL:(h'.push (seqObj "list" acc.toList.toArray 0)).get? h'.objs.size=some (seqObj "list" acc.toList.toArray 0):=U3 _ rfl;refine wpAny_bind (wpAny_holding (wpAny_call_entry slot_list_sort ⟨_,hoL,rfl⟩ entry_list_sort (list_sort_tree hoL hi h64 λout ms a1 a2 a3=>⟨_,rfl,?_⟩) (args_list_sort _)));refine wpAny_pure ⟨_,rfl,?_⟩;have hk2:∀b o,s.heap.get? b=some o->(sortedHeap (h'.push (seqObj "list" acc.toList.toArray 0)) h'.objs.size acc.toList out).get? b=some o:=λb o z=>by
  have z':=hk b o z;have lt:=K3 z';rw[sortedHeap_old (S5 lt) (by rw[size_push'];exact Nat.lt_succ_of_lt lt)];exact Q3 _ z'
 let⟨en,he⟩:=sortedHeap_at (out:=out) hoL;have hv2:E1 (ms.map V.int) out.toList:=B47 a1;refine⟨.ref h'.objs.size,_,I.laid (t':=tk) hk2 ge (show N3 X.prog X.w _ _ _ (.lst (ms.map V.int)) from ⟨?_,out.toList,en,hv2,by simpa [seqObj] using he⟩),rfl,q _ ms (I.hok.fresh ge) a2 a3⟩;rw[B7,a2.length_eq,sizeLine_eq];omega
theorem D4g:X7 X (.builtin "len") (λxs H Q=>∃a kvs,xs=[V.ref a]/\H a=some (.dK kvs)/\Q (.int kvs.length) H):=by
 intros xs us Q I r h;let⟨a,kvs,rfl,ha,q⟩:=h;let⟨u,rfl,ru⟩:=X9 r;cases ru;exact D30 I (.inl ha) λt s' I'=>⟨.int kvs.length,H,I',⟨t,rfl⟩,q⟩
theorem C4a:∀{ys:!Str}{us:!Value},E1 (ys.map V.str) us->StrsAre us ys
 | [],_,h=>by
  rw[B4g] at h;cases h;exact .nil
 | y::ys,_,h=>by
  rw[K9] at h;cases h with
  | cons r t=>let⟨k,rfl⟩:=(show ∃t,_=Value.str y t from r);exact .cons y k (C4a t)
def D4h (K:A8):V->!V->Hp->VK->Prop:=λx vs H Q=>∃c p ys,x=.str c/\vs=[.ref p]/\SqL K H p (ys.map V.str)/\(ys.map (λy=>y.length)).sum+ys.length*c.length<=16777216/\Q (.str (Txt.join c ys)) H
theorem A8v:MtM X "str.join" (D4h X.K):=by
 intros x vs v us Q I rx rv h;let⟨c,p,ys,rfl,rfl,hq,hz,q⟩:=h;let⟨u,rfl,ru⟩:=rv.one;let⟨t,rfl⟩:=rx;cases ru;let⟨its,r',pl,_⟩:=I.list hq;exact join_list pl.isList (by simpa using C4a r') hz λt' k=>⟨.str _,H,I.tok k,⟨_,rfl⟩,q⟩
def D4i:V->!V->Hp->VK->Prop:=λx vs H Q=>∃a b,x=.str a/\vs=[.str b]/\Q (.bl (Txt.startswith a b)) H
theorem D4j:MtM X "str.startswith" D4i:=by
 intros x vs v us Q I rx rv h;let⟨a,b,rfl,rfl,q⟩:=h;let⟨u,rfl,ru⟩:=rv.one;let⟨t,rfl⟩:=rx;let⟨t',rfl⟩:=ru;exact SC.startswith ⟨.bl _,H,I,rfl,q⟩
theorem C4b:∀(k:Nat)(ys:!Str),E1 (ys.map V.str) (strsFrom k ys)
 | _,[]=>.nil
 | k,y::ys=>by
  rw[K9];exact .cons ⟨_,rfl⟩ (C4b (k+1) ys)
def D4k:V->!V->Hp->VK->Prop:=λx vs H Q=>∃a b,x=.str a/\vs=[.str b]/\(b.length == 0)=false/\a.length<=1000000/\∀p,H p=none->Q (.ref p) (upd H p (.lst ((Txt.split a b).map V.str)))
theorem B6n:MtM X "str.split" D4k:=by
 intros x vs v us Q I rx rv h;let⟨a,b,rfl,rfl,hb,hz,q⟩:=h;let⟨u,rfl,ru⟩:=rv.one;let⟨t,rfl⟩:=rx;let⟨t',rfl⟩:=ru;have hl:=(fact_split a b).2;have hs:=sizeLine_eq;by_cases c1:(decide (a.length<b.length)||decide (Builtin.Str.strKind a<Builtin.Str.strKind b))=true
 ·refine call_meets B1b rfl C8k (C8l _ _) (meets_str_split_cannot_occur a b t t' c1) ?_;have e:Txt.split a b=[a]:=by unfold Txt.split;rw[if_pos c1]
  rw[e] at q;exact⟨.ref _,_,I.lnew (ys:=[V.str a]) (its:=[.str a t]) (.cons ⟨_,rfl⟩ .nil) (by show 1<=sizeLine;rw[hs];decide),rfl,q _ I.fresh⟩
 ·have c1:(decide (a.length<b.length)||decide (Builtin.Str.strKind a<Builtin.Str.strKind b))=false:=by simpa using c1
  by_cases c2:(Builtin.Str.occurrences a b 0 a.length (a.length+1)).isEmpty=true
  ·refine call_meets B1b rfl C8k (C8l _ _) (meets_str_split_not_found a b t t' c1 hb c2) ?_;have e:Txt.split a b=[a]:=by unfold Txt.split;rw[if_neg (by rw[c1];exact Q2),if_pos c2]
   rw[e] at q;exact⟨.ref _,_,I.lnew (ys:=[V.str a]) (its:=[.str a t]) (.cons ⟨_,rfl⟩ .nil) (by show 1<=sizeLine;rw[hs];decide),rfl,q _ I.fresh⟩
  ·have c2:(Builtin.Str.occurrences a b 0 a.length (a.length+1)).isEmpty=false:=by simpa using c2
   have e:Txt.split a b=Builtin.Str.partsBetween a (Builtin.Str.occurrences a b 0 a.length (a.length+1)) b.length:=by unfold Txt.split;rw[if_neg (by rw[c1];exact Q2),if_neg (by rw[c2];exact Q2)]
   have hl2:=hl;rw[e] at hl2;refine call_meets B1b rfl C8k (C8l _ _) (meets_str_split_sep a b t t' c1 hb c2 OO OO) ?_;rw[e] at q;exact⟨.ref _,_,I.lnew (C4b _ _) (by rw[B7];omega),rfl,q _ I.fresh⟩
inductive B6o:V->Str->Prop
 | txt (x:Str) (h:x.length<=sizeLine):B6o (.str x) x
 | num (i:Int) (h:i.natAbs.log2<1920):B6o (.int i) (toString i)
def C4c (t:TE):TE:=fun σ H Q=>t σ H λy H1=>∃x,B6o y x/\Q (.str x) H1
abbrev TJ:=St->Hp->Str->(Str->Hp->Prop)->Prop
def tJn:TJ:=λJ H acc Q=>Q acc H
def tJc (ta:TE)(tr:TJ):TJ:=fun σ H acc Q=>ta σ H λy H1=>∃x,y=.str x/\(acc++x).length<=sizeLine/\tr σ H1 (acc++x) Q
def tJs (t:TJ):TE:=fun σ H Q=>t σ H Str.empty λout H1=>out.length<=sizeLine/\Q (.str out) H1
theorem A4e {e:Expr}{t:TE}{pos:Pos}(h:PE X e t):PE X (.FormattedValue e (-1) none pos) (C4c t):=by
 intros Q I hq;refine wpAny_FormattedValue_plain (thn (h pins s σ H _ I hq) λv s1 zz=>el5 zz λy H1 I1 r1 q1=>?_);let⟨x,hs,q⟩:=q1;cases hs with
 | txt x hz=>let⟨t,rfl⟩:=r1;exact wpAny_formatField_str ⟨.str x,H1,I1,⟨_,rfl⟩,q⟩ ⟨.str x,H1,I1.tok _,⟨_,rfl⟩,q⟩ hz
 | num i hz=>let⟨t,rfl⟩:=r1;exact wpAny_formatField_int hz ⟨.str _,H1,I1.tok _,⟨_,rfl⟩,q⟩
def PJ (X:Cx)(es:!Expr)(t:TJ):Prop:=
 ∀(pins:!(Addr×Obj))(s:Shared)(σ:St)(H:Hp)(acc:Str)(Q:Str->Hp->Prop),Inv X pins σ H s->t σ H acc Q->Joins (model X.prog X.w) X.A X.xe (evalEach es X.env) acc (λout s1=>∃H1,Inv X pins σ H1 s1/\Q out H1) s
theorem Joins.mono {M:Model}{A:Around}{E:Value->Shared->Prop}:∀{ms:!(Sem Value)}{acc:Str}{Q Q':Str->Shared->Prop}{s:Shared},Joins M A E ms acc Q s->(∀a s,Q a s->Q' a s)->Joins M A E ms acc Q' s
 | [],_,_,_,_,h,k=>k _ _ h
 | _::_,_,_,_,_,h,k=>thn h λ_ _ ⟨y,t,e,z,r⟩=>⟨y,t,e,z,Joins.mono r k⟩
theorem C4d:PJ X [] tJn:=λJ J J H J J I h=>⟨H,I,h⟩
theorem z5 {e:Expr}{es:!Expr}{ta:TE}{tr:TJ}(ha:PE X e ta)(hr:PJ X es tr):PJ X (e::es) (tJc ta tr):=by
 intros acc Q I h;show wpAny _ _ (eval e X.env) _ _ s;refine thn (ha pins s σ H _ I h) λv s1 zz=>el5 zz λy H1 I1 r1 q1=>?_;let⟨x,rfl,hz,q⟩:=q1;let⟨t,rfl⟩:=r1;exact⟨x,t,rfl,hz,hr pins s1 σ H1 _ Q I1 q⟩
theorem C4e {e1 e2:Expr}{es:!Expr}{t:TJ}{pos:Pos}(h:PJ X (e1::e2::es) t):PE X (.JoinedStr (e1::e2::es) pos) (tJs t):=by
 intros Q I hq;refine wpAny_JoinedStr (Joins.mono (h pins s σ H _ _ I hq) λout s1 zz=>?_);let⟨H1,I1,z,q⟩:=zz;exact⟨z,.str out,H1,I1.tok _,⟨_,rfl⟩,q⟩
theorem C4f:X7 X (.type "int") (λxs H Q=>∃x n,xs=[.str x]/\PySem.intText? x=some n/\x.length<=640/\Q (.int n) H):=by
 intros xs us Q I r h;let⟨x,n,rfl,hn,hz,q⟩:=h;let⟨u,rfl,t,rfl⟩:=X9 r;exact PySem.W.KIN.call_text hn hz ⟨.int n,H,I.tok _,⟨_,rfl⟩,q⟩
def Its (x:Str):It:=⟨λi J=>i<x.cps.size,λi H y H'=>H'=H/\∃c,x.cps[i]?=some c/\y=.str ⟨#[c]⟩,λi J=>x.cps.size<=i⟩
theorem C4g {P:Program}{w:World}{K:A8}{tg:Expr}{ty:String}{x:Str}{t:Tok}(it:Addr)
  (W:∀A:Around,A.handled=none->Walks P w A it [it] [it] x.cps.size (SignAt x) (λi h=>h.IsStrIter it ty x t i))
  (hn:["enumerate","zip","dict_itemiterator","dict_reverseitemiterator","odict_iterator","itertools.zip_longest","itertools.pairwise"].contains ty=false)
  (hd:∀(A:Around),A.handled=none->∀(s:Shared)(i:Nat)(E:Value->Shared->Prop)(Q:Option Value->Shared->Prop),s.heap.IsStrIter it ty x t i->x.cps.size<=i->(∀h',Heap.ExtBut it s.heap h'->Q none { s with heap:=h' })->wpAny (model P w) A (pyNext (.ref it)) Q E s)
  (hs:∀(A:Around)(i:Nat)(s:Shared)(Q:Value->Shared->Prop)(E:Value->Shared->Prop),s.heap.IsStrIter it ty x t i->Q (.ref it) s->wpAny (model P w) A (pyIter (.ref it)) Q E s) :
  A3q P w K tg (Its x) [it] it (λi h=>h.IsStrIter it ty x t i) where
 mem:=by simp
 obj:=λi h st b hb=>by
  have e:b=it:=by simpa using hb
  subst e;let⟨o,e,c,d⟩:=st;exact⟨o,e,λv z=>by rw[d] at z;cases z⟩
 keep:=λi h h' st k=>let ⟨o,e,r⟩:=st;⟨o,k it (by simp) o e,r⟩
 item:=by
  intro X hP hw hK hc i pins s σ H E I hf st hg;subst hP hw hK;let⟨f0,f1,f2,f3,f4,f5⟩:=hf it (by simp);refine (W X.A (I.ok.hd hc)).item i s _ _ hg st λv h' tk hv st' kk=>?_;let⟨c,u,hx,rfl⟩:=hv;have I1:Inv X pins σ H { s with heap:=h',toks:=tk }:=I.turned (λb o hb e=>kk b o (by simpa using hb) e) f0 f1 f3 f4 f5;let⟨o,e,cc,d⟩:=id st';exact⟨_,rfl,B1t (s:={ s with heap:=h',toks:=tk }) e cc d hn ⟨.str ⟨#[c]⟩,H,I1,⟨u,rfl⟩,⟨rfl,c,hx,rfl⟩,st',λb hb=>(hf b hb).1⟩⟩
 done:=by
  intro X hP hw hK hc i pins s σ H E I hf st hg;subst hP hw hK;let⟨f0,f1,f2,f3,f4,f5⟩:=hf it (by simp);exact hd X.A (I.ok.hd hc) s i E _ st hg λh' eb=>⟨rfl,I.turned (t':=s.toks) (λb o hb e=>eb b o hb e) f0 f1 f3 f4 f5⟩
 self:=λA i s Q E st h=>hs A i s Q E st h
section
variable {tg:Expr}
def D4l (tl:TE):TI:=fun σ H R=>tl σ H λx H1=>∃y,x=.str y/\R (Its y) H1
theorem D4m {l:Expr}{tl:TE}(hl:PE X l tl):PI X tg l (D4l tl):=by
 intros R I h;refine thn (hl pins s σ H _ I h) λv s1 zz=>el5 zz λx H1 I1 r1 q1=>?_;let⟨y,rfl,q⟩:=q1;let⟨t,rfl⟩:=r1;have fp:∀b∈[s1.heap.objs.size],Z5 X pins H1 b:=λb hb=>by
  have e:b=s1.heap.objs.size:=by simpa using hb
  subst e;exact I1.fpOk (G3 _) (I1.hok.fresh (G3 _))
 cases ha:y.cps.all (· < 128)
 ·exact wpAny_pyIter_wide ha ⟨s1.heap.objs.size,[s1.heap.objs.size],_,_,H1,rfl,I1.kept (t':=s1.toks) λb o e=>Q3 _ e,
   C4g (t:=t) _ (λA hA=>Walks.strWide hA _ y t) DD (λA hA s i E Q st hi k=>wpAny_pyNext_wide_end hA st (Array.getElem?_eq_none hi) k) (λA i s Q E st h=>wpAny_pyIter_striter_wide st h),⟨_,U3 _ rfl,rfl,rfl⟩,fp,q⟩
 ·exact wpAny_pyIter_ascii ha ⟨s1.heap.objs.size,[s1.heap.objs.size],_,_,H1,rfl,I1.kept (t':=s1.toks) λb o e=>Q3 _ e,
   C4g (t:=t) _ (λA hA=>Walks.strAscii hA _ y t) DD (λA hA s i E Q st hi k=>wpAny_pyNext_ascii_end hA st (Array.getElem?_eq_none hi) k) (λA i s Q E st h=>wpAny_pyIter_striter_ascii st h),⟨_,U3 _ rfl,rfl,rfl⟩,fp,q⟩
def D4n:V->Option Int->Option Int->Hp->VK->Prop:=λx lo hi H Q=>∃y,x=.str y/\y.length<=sizeLine/\Q (.str (Txt.slice y lo hi)) H
theorem C4h:SlR X D4n:=by
 intros x v vl vu lo hi sl Q I rx hs pl pu h;let⟨y,rfl,hz,q⟩:=h;let⟨t,rfl⟩:=rx;have fin:∀t' k,EP X pins σ Q (.str (Txt.slice y lo hi) t') { s with toks:=k }:=λt' k=>⟨.str _,H,I.tok k,⟨_,rfl⟩,q⟩;exists "str",_,F.slot_str_getitem.lookup,typeIs_str _ _ _;cases pl with
 | none=>
  cases pu with
  | none=>exact wpAny_getItem_str_slice (l:=none) (u:=none) (st:=none) hs rfl (post_val_or_str ⟨M0 (Txt.slice_le y _ _) hz,λt' k=>fin t' k⟩)
  | int j uj=>exact wpAny_getItem_str_slice (l:=none) (u:=some (j,uj)) (st:=none) hs rfl (post_val_or_str ⟨M0 (Txt.slice_le y _ _) hz,λt' k=>fin t' k⟩)
 | int i ui=>
  cases pu with
  | none=>exact wpAny_getItem_str_slice (l:=some (i,ui)) (u:=none) (st:=none) hs rfl (post_val_or_str ⟨M0 (Txt.slice_le y _ _) hz,λt' k=>fin t' k⟩)
  | int j uj=>exact wpAny_getItem_str_slice (l:=some (i,ui)) (u:=some (j,uj)) (st:=none) hs rfl (post_val_or_str ⟨M0 (Txt.slice_le y _ _) hz,λt' k=>fin t' k⟩)
end
structure FnB (P:Program)(w:World)(K:A8)(mg:Str->Option Value)(base:Heap)(CX:CXT)(k:Nat)(a:Addr)(sp:Sp):Prop where
 go:∃j fd ps,j<=k/\C5 P w K mg base CX j a fd ps sp/\A7f K (.ref a)=true/\A0h K fd ps []
def D4o (S:Addr->Sp->Prop)(E:XK)(tf:TE)(t:TA):TE:=fun σ H Q=>tf σ H λv H1=>∃a sp,v=.ref a/\S a sp/\t σ H1 λvs H2=>sp vs H2 Q E
def KDt (P:Program)(w:World)(K:A8)(a:Addr)(kvs:!(Key×V)):Prop:=(a == sysModules)=false/\∃o vs,K.lookup a=some o/\KV kvs vs/\o.IsDictOf (U7 P w) vs
def D4p (P:Program)(w:World)(K:A8)(td ty:TE):TE:=fun σ H Q=>td σ H λx H1=>ty σ H1 λy H2=>∃a kvs k v,x=.ref a/\KDt P w K a kvs/\y=kV k/\V2 kvs k=some v/\Q v H2
def D4q (P:Program)(w:World)(K:A8)(td ty:TE):TE:=fun σ H Q=>td σ H λx H1=>∃a kvs,x=.ref a/\KDt P w K a kvs/\ty σ H1 λy H2=>∃k,y=kV k/\Q ((V2 kvs k).getD .non) H2
section
variable {CX:CXT}{k:Nat}{E:XK}{o i e:Expr}{es:!Expr}{pos p cpos apos:Pos}{td ty tf:TE}{t:TA}
theorem KDt.at {pins:!(Addr×Obj)}{σ:St}{H:Hp}{s:Shared}{a:Addr}{kvs:!(Key×V)}(h:KDt X.prog X.w X.K a kvs)(I:Inv X pins σ H s):(a == sysModules)=false/\∃vs,KV kvs vs/\s.heap.DictOf (U7 X.prog X.w) a vs:=by
 let⟨h0,ob,vs,h1,h2,h3⟩:=h;exact⟨h0,vs,h2,Heap.dictOf_iff.mpr ⟨ob,I.kIn _ _ h1,h3⟩⟩
theorem D4r (ho:PE X o td)(hi:PE X i ty)(hs:B6k i):PE X (.Subscript o i pos) (D4p X.prog X.w X.K td ty):=by
 intros Q I h;refine C36 PySem.F.slot_dict_getitem.lookup hs (thn (ho pins s σ H _ I h) λu s1 zw12=>el5 zw12 λx H1 I1 rx q1=>thn (hi pins s1 σ H1 _ I1 q1) λiv s2 zw13=>el5 zw13 λy H2 I2 ry qw13=>?_);let⟨a,kvs,k,v,ex,g,ek,l,q2⟩:=qw13;subst ex;obtain rfl:u=Value.ref a:=rx;let⟨hd,vs,rel,dd⟩:=g.at I2;subst ek;let⟨w',hw,rw'⟩:=W5.some_of (v:=v) (o:=valueAt vs k) (by rw[<-l];exact rel.val k);exact⟨dd.typeIs,wpAny_getItem_of (A4d ry) dd.mapOf hw ⟨v,H2,I2.tok _,rw',q2⟩⟩
theorem D4s (ho:PE X o td)(he:PE X e ty)(m:M1 X o "get" apos e cpos):PE X (.Call (.Attribute o "get" apos) [e] [] cpos) (D4q X.prog X.w X.K td ty):=by
 intros Q I h;refine wpAny_Call_method m.base m.few m.line PySem.F.plainAttrs_dict PySem.F.slot_dict_get PySem.F.type_dict_get (thn (ho pins s σ H _ I h) λu s1 zw14=>el5 zw14 λx H1 I1 rx qw14=>?_);let⟨a,kvs,ex,g,q1⟩:=qw14;subst ex;obtain rfl:u=Value.ref a:=rx;let⟨_,_,_,d1⟩:=g.at I1;refine⟨d1.typeIs,λb q=>?_,?_⟩
 ·cases q;let⟨ob,_,_,h1,h2,_⟩:=d1;exact⟨ob,h1,h2.2.1⟩
 rw[m.trees];refine Calls.callWith_builtin rfl (Calls.evalArgs_plain (Calls.spliced_cons (thn (he pins s1 σ H1 _ I1 q1) λiv s2 zw15=>el5 zw15 λy H2 I2 ry qw15=>Calls.spliced_nil ?_)));let⟨k,ek,q2⟩:=qw15;subst ek;let⟨hd,vs,rel,dd⟩:=g.at I2;refine call_meetsIn PySem.F.slot_dict_get dd.typeIs PySem.F.entry_dict_get (PySem.F.args_dict_get_2 _ _) (meets_dict_get (U7 X.prog X.w) a (A4d ry) hd) ⟨_,dd.mapOf,?_⟩;have rv:F1 ((V2 kvs k).getD .non) ((valueAt vs k).getD Value.none):=(rel.val k).getD rfl;exact⟨_,H2,I2.tok _,rv,q2⟩
theorem D4t (a i:Expr)(p:Pos)(args:!Expr)(kws:!Keyword)(pos:Pos)(env:Env):eval (.Call (.Subscript a i p) args kws pos) env=(do
  callWith pos (<-eval (.Subscript a i p) env) [] (backTo pos (starEach args env)) (backToKw pos (keywordEach kws env))):=rfl
theorem D4u {S:Addr->Sp->Prop}(hf:PE X (.Subscript o i p) tf)(hr:Q5 k X.A)(G:∀a sp,S a sp->FnB X.prog X.w X.K X.mg X.base CX k a sp)(hx:A2p CX X E)
  (ha:PA X (e::es) t) (he:autoParam (starEach (e::es) X.env=(false,eval e X.env)::starEach es X.env) RF._auto_1) (hpl:autoParam ((backTo pos (starEach es X.env)).any (·.1)=false) RF._auto_1) :
  PE X (.Call (.Subscript o i p) (e::es) [] pos) (D4o S E tf t):=by
 intros Q I h;rw[D4t];refine wpAny_bind (thn (hf pins s σ H _ I h) λu s1 zz=>?_);let⟨x,H1,I1,rx,a,sp,ex,hS,q⟩:=zz;subst ex;obtain rfl:u=Value.ref a:=rx;let⟨j,fd,ps,hj,F,hk,hb⟩:=(G a sp hS).go;refine C0m (h₀:=X.base) I1.ok.mod.kin hk (thn (ha pos pins s1 σ H1 _ I1 q) λus s2 zz=>el5 zz λvs H2 I2 r q=>⟨I2.kIn,?_⟩) he hpl;exact B12 F (hr.mono hj) hb .nil hx I2 r (by rw[p8];exact q)
end
def A19 (w:World):!DictEntry->!(Str×V)->Prop
 | [],[]=>True
 | e::es,q::r=>e.hash=hashStr w q.1/\(∃t,e.key=.str q.1 t)/\F1 q.2 e.val/\A19 w es r
 | _,_=>False
abbrev A4f (q:Str×V):Key×V:=(.inr q.1,q.2)
theorem A19.keys {P:Program}{w:World}:∀{es:!DictEntry}{r:!(Str×V)},A19 w es r->∀e∈es,∃k,(U7 P w).is k e.key=true/\e.hash=(U7 P w).hash k
 | [],_,_,_,h=>by cases h
 | e::es,[],h,_,_=>h.elim
 | e::es,q::r,h,x,hx=>by
  rcases K7.mp hx with rfl | hx
  ·let⟨h1,⟨t,h2⟩,_⟩:=h;exact⟨.inr q.1,by rw[h2];exact B4t P w q.1 t,h1⟩
  ·exact A19.keys h.2.2.2 x hx
theorem A19.pairs {P:Program}{w:World}:∀{es:!DictEntry}{r:!(Str×V)},A19 w es r->∃vs,KV (r.map A4f) vs/\Pairs (U7 P w) es vs/\vs.map (·.1)=r.map λq=>Sum.inr q.1
 | [],[],_=>⟨[],.nil,.nil,rfl⟩
 | [],_::_,h=>h.elim
 | e::es,[],h=>h.elim
 | e::es,q::r,h=>by
  let⟨h1,⟨t,h2⟩,h3,h4⟩:=h;let⟨vs,a,b,c⟩:=A19.pairs (P:=P) h4;exact⟨(.inr q.1,e.val)::vs,.cons ⟨rfl,h3⟩ a,.cons (by rw[h2];exact B4t P w q.1 t) rfl b,by rw[K9,K9,c]⟩
theorem KDt.of {P:Program}{w:World}{K:A8}{a:Addr}{es:Array DictEntry}{ep:Nat}{r:!(Str×V)}(h:K.lookup a=some ⟨.type "dict",none,.dict es ep,#[]⟩)(e:A19 w es.toList r)(h0:(a == sysModules)=false)
  (nd:(r.map (·.1)).Nodup):KDt P w K a (r.map A4f):=by
 let⟨vs,a1,b1,c1⟩:=e.pairs (P:=P);exists h0,_,vs,h,a1,es,ep,⟨rfl,rfl,rfl⟩,rfl,λx hx=>e.keys x (Array.mem_toList_iff.mpr hx),b1;rw[c1];have:(r.map λq=>(Sum.inr q.1:Key))=(r.map (·.1)).map Sum.inr:=by rw[Q8];rfl
 rw[this];exact List.Pairwise.map _ (λJ J n e=>n (Sum.inr.inj e)) nd
def B0b (w:World)(K:A8):!DictEntry->!(Str×(Int ⊕ Str))->Prop
 | [],[]=>True
 | e::es,q::r=>e.hash=hashStr w q.1/\(∃t,e.key=.str q.1 t)/\(match q.2 with | .inl i=>∃t,e.val=.int i t | .inr x=>∃f,e.val=.ref f/\A1u K mainGlobals x=some (some (.ref f)))/\B0b w K es r
 | _,_=>False
def B6p (mg:Str->Option Value):!(Str×(Int ⊕ Str))->!(Str×V)->Prop
 | [],[]=>True
 | p::ps,q::r=>p.1=q.1/\(match p.2 with | .inl i=>q.2=.int i | .inr x=>∃a,q.2=.ref a/\mg x=some (.ref a))/\B6p mg ps r
 | _,_=>False
theorem B0b.to {w:World}{K:A8}{mg:Str->Option Value}{h:Heap}(X:K.In h)(G:h.Ns mainGlobals mg):∀{es:!DictEntry}{ps:!(Str×(Int ⊕ Str))}{r:!(Str×V)},B0b w K es ps->B6p mg ps r->A19 w es r
 | [],[],[],_,_=>trivial
 | [],[],_::_,_,m=>m.elim
 | [],_::_,_,e,_=>e.elim
 | _::_,[],_,e,_=>e.elim
 | _::_,_::_,[],_,m=>m.elim
 | e::es,p::ps,q::r,⟨e1,e2,e3,e4⟩,⟨m1,m2,m3⟩=>by
  refine⟨by rw[<-m1];exact e1,by rw[<-m1];exact e2,?_,B0b.to X G e4 m3⟩;cases hp:p.2 with
  | inl i=>rw[hp] at e3 m2;let⟨t,e3⟩:=e3;rw[show q.2=.int i from m2,e3];exact⟨t,rfl⟩
  | inr x=>rw[hp] at e3 m2;let⟨f,e3,e5⟩:=e3;let⟨a,m2,m4⟩:=m2;rw[m2,e3];have:=A2j X G e5;rw[m4] at this;cases this;rfl
def KDN (w:World)(K:A8)(c:Addr)(ps:!(Str×(Int ⊕ Str))):Prop:=(c == sysModules)=false/\∃es ep,K.lookup c=some ⟨.type "dict",none,.dict es ep,#[]⟩/\B0b w K es.toList ps
def KDH (w:World)(K:A8)(c:Addr)(r:!(Str×V)):Prop:=(c == sysModules)=false/\∃es ep,K.lookup c=some ⟨.type "dict",none,.dict es ep,#[]⟩/\A19 w es.toList r
theorem KDN.to {w:World}{K:A8}{mg:Str->Option Value}{h:Heap}{c:Addr}{ps:!(Str×(Int ⊕ Str))}{r:!(Str×V)}(X:K.In h)(G:h.Ns mainGlobals mg)(k:KDN w K c ps)(m:B6p mg ps r):KDH w K c r:=by
 let⟨h0,es,ep,hl,e⟩:=k;exact⟨h0,es,ep,hl,e.to X G m⟩
theorem KDH.at {P:Program}{w:World}{K:A8}{c:Addr}{r:!(Str×V)}(k:KDH w K c r)(nd:(r.map (·.1)).Nodup):KDt P w K c (r.map A4f):=by
 let⟨h0,es,ep,hl,e⟩:=k;exact KDt.of hl e h0 nd
def KTH (K:A8)(c:Addr)(xs:!V):Prop:=∃(o:Obj)(its:Array Value)(n:Nat),K.lookup c=some o/\o.cls=.type "tuple" /\o.data=.seq its n/\its.size<=sizeLine/\E1 xs its.toList
theorem KTH.at {K:A8}{c:Addr}{xs:!V}(k:KTH K c xs)(H:Hp):SqT K H c xs:=.inr k
theorem C4i:X7 X (.type "str") (λxs H Q=>(∃i,xs=[.int i]/\i.natAbs.log2<1920/\Q (.str (toString i)) H)\/∃x,xs=[.str x]/\Q (.str x) H):=by
 intros xs us Q I r h;rcases h with h | ⟨x,rfl,q⟩
 ·exact W7 pins s σ H xs us Q I r h
 ·let⟨u,rfl,t,rfl⟩:=X9 r;exact PySem.P.str_of_str ⟨.str x,H,I,⟨t,rfl⟩,q⟩
def D4v:R2:=λx y H Q=>∃a b,x=.str a/\y=.str b/\a.length+b.length<=16777216/\Q (.str (a++b)) H
theorem V3:OpR X (binaryOp .Add) D4v:=by
 intros x y v u Q I rx ry h;let⟨a,b,rfl,rfl,hz,q⟩:=h;let⟨t,rfl⟩:=rx;let⟨t',rfl⟩:=ry;exact PySem.W.KXadd.add (G3 _) (G3 _) hz λt2 k J=>⟨.str (a++b),H,I.tok _,⟨t2,rfl⟩,q⟩
theorem V4 {n:Int}(h:n.natAbs<10^60):n.natAbs.log2<1920:=by
 by_cases z:n.natAbs=0
 ·rw[z];decide
 ·exact (Nat.log2_lt z).mpr (U1 h KK)
end Lake
namespace Tactic
open PySem Lake
abbrev cp (x:Str):!Nat:=x.cps.toList
theorem Y2 {x y:Str}(h:cp x=cp y):x=y:=Str.ext' (Array.toList_inj.mp h)
theorem A0a (x y:Str):cp (x++y)=cp x++cp y:=Array.toList_append
theorem W2 (x:Str):x.length=(cp x).length:=rfl
theorem B6q (s:String):cp (Str.ofString s)=s.toList.map A2k:=PyProof.Rows.signs_ofString s
def jn:!Str->!Nat
 | []=>[]
 | w::r=>cp w++(if r.isEmpty then [] else 32::jn r)
theorem A0b (w v:Str)(r:!Str):jn (w::v::r)=cp w++32::jn (v::r):=rfl
theorem a8 (w:Str):jn [w]=cp w:=p8 _
theorem B6r:∀ws:!Str,cp (Str.join " " ws)=jn ws
 | []=>rfl
 | [w]=>(a8 w).symm
 | w::v::r=>by
  show cp (w++(Str.ofString " ")++Str.join " " (v::r))=_;rw[A0a,A0a,B6r (v::r),A0b,j9];rfl
theorem C4j {c:Nat}:∀{a b x y:!Nat},c∉a->c∉b->a++c::x=b++c::y->a=b/\x=y
 | [],[],_,_,_,_,h=>⟨rfl,(A1f.inj h).2⟩
 | [],q::b,_,_,_,hb,h=>absurd (A1f.inj h).1 λe=>hb (e▸E5)
 | p::a,[],_,_,ha,_,h=>absurd (A1f.inj h).1 λe=>ha (e▸E5)
 | p::a,q::b,_,_,ha,hb,h=>by
  let⟨e,t⟩:=A1f.inj h;let⟨e1,e2⟩:=C4j (λz=>ha (E3 _ z)) (λz=>hb (E3 _ z)) t;exact⟨by rw[e,e1],e2⟩
def A6y (ws:!Str):Prop:=∀w∈ws,32∉cp w
theorem A6y.tl {w:Str}{ws:!Str}(h:A6y (w::ws)):A6y ws:=λv hv=>h v (E3 _ hv)
theorem C4k:∀{ws vs:!Str},ws≠[]->vs≠[]->A6y ws->A6y vs->jn ws=jn vs->ws=vs
 | [],_,h,_,_,_,_=>absurd rfl h
 | _,[],_,h,_,_,_=>absurd rfl h
 | [w],[v],_,_,_,_,h=>by rw[a8,a8] at h;rw[Y2 h]
 | [w],v::v2::r,_,_,f,_,h=>by
  rw[a8,A0b] at h;exact absurd (h▸A1d _ E5:32∈cp w) (f w E5)
 | w::w2::r,[v],_,_,_,g,h=>by
  rw[a8,A0b] at h;exact absurd (h▸A1d _ E5:32∈cp v) (g v E5)
 | w::w2::r,v::v2::q,_,_,f,g,h=>by
  rw[A0b,A0b] at h;let⟨e1,e2⟩:=C4j (f w E5) (g v E5) h;rw[Y2 e1,C4k (by simp) (by simp) f.tl g.tl e2]
theorem C4l {x:Str}{ws:!Str}(hne:ws≠[])(f:A6y ws)(h:cp x=jn ws):Txt.split x " " = ws:=by
 have h1:=StrLaws.join_split x " ";have h2:A6y (Txt.split x " "):=StrLaws.split_free x 32;have h3:Txt.split x " " ≠[]:=by
  unfold Txt.split;split
  ·simp
  ·split
   ·simp
   ·rw[StrLaws.partsBetween_eq];let⟨p,r,e⟩:=StrLaws.partsFrom_ne x (Str.length " ") 0 (Builtin.Str.occurrences x " " 0 x.length (x.length+1));rw[e];simp
 refine C4k h3 hne h2 f ?_;rw[<-B6r,h1,h]
def o9 (c:Nat):Bool:=decide (48<=c)&&decide (c<=57)
def a9 (l:!Nat):Bool:=decide (1<=l.length)&&decide (l.length<=60)&&l.all o9&&(decide (l=[48])||decide (l.head?≠some 48))
def nmL (l:!Nat):Bool:=if l.head?=some 45 then a9 l.tail&&decide (l.tail≠[48]) else a9 l
def A06 (x:Str):Bool:=nmL (cp x)
def A8w (x:Str):Int:=(intText? x).getD 0
theorem D4w {l:!Nat}(h:l.all o9=true):NumText.AllDigits l:=λc hc=>by
 have:=B09.mp h c hc;simp only[o9,Z2,decide_eq_true_eq] at this;exact this
theorem A4g {l:!Nat}(h:a9 l=true):1<=l.length/\l.length<=60/\NumText.AllDigits l/\(l=[48]\/l.head?≠some 48):=by
 simp only[a9,Z2,A9k,decide_eq_true_eq] at h;exact⟨h.1.1.1,h.1.1.2,D4w h.1.2,h.2⟩
theorem B6s {x:Str}(h:A06 x=true):intText? x=some (A8w x)/\x.length<=61:=by
 unfold A06 nmL at h;by_cases c:(cp x).head?=some 45
 ·rw[if_pos c] at h;let⟨a,b,d,_⟩:=A4g (C8m.mp h).1;cases e:cp x with
  | nil=>rw[e] at c;cases c
  | cons k r=>
   rw[e] at c a b d;cases c;have hl:x.length<=61:=by rw[W2,e];simp at b ⊢;omega
   have:=intText_neg e d (λz=>by rw[z] at a;simp at a) (OO);exact⟨by unfold A8w;rw[this];rfl,hl⟩
 ·rw[if_neg c] at h;let⟨a,b,d,_⟩:=A4g h;have hl:x.length<=60:=b;have:=intText_digits d (λz=>by rw[show cp x=[] from z] at a;simp at a) (OO);exact⟨by unfold A8w;rw[this];rfl,OO⟩
def itx (n:Int):Str:=Str.ofString (toString n)
theorem A0n (m:Nat):cp (itx (m:Int))=(Z3 10 m).map A2k:=PySem.W.KIN.signs_num m
theorem B6t (m:Nat)(h:0<m):cp (itx (-(m:Int)))=45::cp (itx (m:Int)):=by
 obtain⟨k,rfl⟩:∃k,m=k+1:=⟨m-1,OO⟩;unfold itx;rw[B6q,B6q];show (("-" ++Nat.repr (k+1):String).toList.map A2k)=45::(Nat.repr (k+1)).toList.map A2k;rw[String.toList_append,L7];rfl
theorem B0c (m:Nat):NumText.AllDigits ((Z3 10 m).map A2k):=λc hc=>by
 let⟨ch,hch,e⟩:=L0.mp hc;have r:=PyProof.Rows.digit_range (Nat.isDigit_of_mem_toDigits DD DD hch);rw[<-e];exact r
theorem C4m (m:Nat):∀k,1<=k->m<10^k->(Z3 10 m).length<=k:=by
 induction m using Nat.strongRecOn with
 | _ m ih=>
  intro k hk h;by_cases c:m<10
  ·rw[B4o c];simpa using hk
  ·have hm:m%10<10:=Nat.mod_lt m (DD);have t:Z3 10 (m/10)++Z3 10 (m%10)=Z3 10 (10*(m/10)+m%10):=C8n DD OO hm;rw[Nat.div_add_mod] at t;have k2:2<=k:=by
    by_cases z:k=1
    ·subst z;simp at h;omega
    ·omega
   have:=ih (m/10) OO (k-1) OO (by
    obtain⟨j,rfl⟩:∃j,k=j+1:=⟨k-1,OO⟩;rw[Nat.pow_succ] at h;simp only[Nat.add_sub_cancel];omega)
   rw[<-t,L3,B4o hm];simp;omega
theorem B6u (m:Nat):1<=(Z3 10 m).length:=by
 by_cases c:m<10
 ·rw[B4o c];simp
 ·have hm:m%10<10:=Nat.mod_lt m (DD);have t:Z3 10 (m/10)++Z3 10 (m%10)=Z3 10 (10*(m/10)+m%10):=C8n DD OO hm;rw[Nat.div_add_mod] at t;rw[<-t,L3,B4o hm];simp
theorem C4n (m:Nat):0<m->((Z3 10 m).map A2k).head?≠some 48:=by
 induction m using Nat.strongRecOn with
 | _ m ih=>
  intro h;by_cases c:m<10
  ·rw[B4o c];have:∀d:Nat,d<10->0<d->[(Nat.digitChar d).toNat].head?≠some 48:=by decide
   exact this m c h
  ·have hm:m%10<10:=Nat.mod_lt m (DD);have t:Z3 10 (m/10)++Z3 10 (m%10)=Z3 10 (10*(m/10)+m%10):=C8n DD OO hm;rw[Nat.div_add_mod] at t;have:=ih (m/10) OO (OO);rw[<-t,L7];cases e:(Z3 10 (m/10)).map A2k with
   | nil=>have:=B6u (m/10);rw[A7n.mp e] at this;simp at this
   | cons a r=>rw[e] at this;exact this
theorem C4o {l:!Nat}(h:NumText.AllDigits l):l.all o9=true:=B09.mpr λc hc=>by
 have:=h c hc;simp only[o9,Z2,decide_eq_true_eq];exact this
theorem C4p {m:Nat}(h:m<10^60):a9 (cp (itx (m:Int)))=true:=by
 rw[A0n];unfold a9;simp only[Z2,A9k,decide_eq_true_eq,B7];exists ⟨⟨B6u m,C4m m 60 DD h⟩,C4o (B0c m)⟩;by_cases z:m=0
 ·subst z;exact .inl (DD)
 ·exact .inr (C4n m OO)
theorem D4x {m:Nat}:(cp (itx (m:Int))).head?≠some 45:=by
 rw[A0n];intro h;cases e:(Z3 10 m).map A2k with
 | nil=>rw[e] at h;cases h
 | cons a r=>rw[e] at h;cases h;have:=B0c m 45 (by rw[e];exact E5);omega
theorem A6z {n:Int}(h:n.natAbs<10^60):A06 (itx n)=true:=by
 rcases Int.le_total 0 n with h0 | h0
 ·let⟨m,rfl⟩:=B4j h0;unfold A06 nmL;rw[if_neg D4x];exact C4p (by simpa using h)
 ·let⟨m,e⟩:=B4j (show 0<=-n by omega);by_cases z:m=0
  ·have:n=((0:Nat):Int):=by omega
   subst this;decide
  have en:n=-(m:Int):=by omega
  subst en;unfold A06 nmL;rw[B6t m OO,if_pos (show (45::cp (itx (m:Int))).head?=some 45 from rfl)];rw[A9m];refine C8m.mpr ⟨C4p (by simpa using h),decide_eq_true λz2=>?_⟩;have:=C4n m (OO);rw[A0n] at z2;rw[z2] at this;exact this rfl
theorem D4y {n:Int}(h:n.natAbs<10^60):intText? (itx n)=some n:=by
 have hl:∀m:Nat,m<10^60->((Z3 10 m).map A2k).length<=60:=λm hm=>by
  rw[B7];exact C4m m 60 DD hm
 have hn:∀m:Nat,(Z3 10 m).map A2k≠[]:=λm z=>by
  have:=B6u m;rw[A7n.mp z] at this;simp at this
 rcases Int.le_total 0 n with h0 | h0
 ·let⟨m,rfl⟩:=B4j h0;have hm:m<10^60:=by simpa using h
  have l1:(itx (m:Int)).length<=60:=by rw[W2,A0n];exact hl m hm
  have:=intText_digits (x:=itx (m:Int)) (by rw[<-cp,A0n];exact B0c m) (by rw[<-cp,A0n];exact hn m) (OO);rw[this,<-cp,A0n,C8o]
 ·let⟨m,e⟩:=B4j (show 0<=-n by omega);by_cases z:m=0
  ·have:n=((0:Nat):Int):=by omega
   subst this;have:=intText_digits (x:=itx ((0:Nat):Int)) (by rw[<-cp,A0n];exact B0c 0) (by rw[<-cp,A0n];exact hn 0) (by rw[W2,A0n];decide);rw[this,<-cp,A0n,C8o]
  have en:n=-(m:Int):=by omega
  subst en;have hm:m<10^60:=by simpa using h
  have l1:(itx (-(m:Int))).length<=61:=by rw[W2,B6t m OO,A0n];have:=hl m hm;rw[J6];omega
  have:=intText_neg (x:=itx (-(m:Int))) (cs:=(Z3 10 m).map A2k) (by rw[<-cp,B6t m OO,A0n]) (B0c m) (hn m) (OO);rw[this,C8o]
theorem B6v {n:Int}(h:n.natAbs<10^60):A8w (itx n)=n:=by unfold A8w;rw[D4y h];rfl
theorem R6 {n:Int}(h:n.natAbs<10^60):(itx n).length<=61:=(B6s (A6z h)).2
theorem C4q {x:Str}(h:A06 x=true):32∉cp x:=by
 unfold A06 nmL at h;by_cases c:(cp x).head?=some 45
 ·rw[if_pos c] at h;let⟨_,_,d,_⟩:=A4g (C8m.mp h).1;cases e:cp x with
  | nil=>simp
  | cons k r=>
   rw[e] at c d;cases c;intro z;rcases K7.mp z with z | z
   ·cases z
   ·have:=d 32 z;omega
 ·rw[if_neg c] at h;intro z;have:=(A4g h).2.2.1 32 z;omega
set_option tactic.hygienic true in
theorem C4r (x:Str){a b:Nat}(hab:a<=b)(hb:b<=x.length):cp (Txt.slice x (some (a:Int)) (some (b:Int)))=((cp x).drop a).take (b-a):=by
 unfold Txt.slice;split
 ·rename_i h;rw[Z2] at h;have h2:=h.2;rw[StrLaws.strSliceIndices_plain hab hb,B7,m5,beq_iff_eq] at h2;obtain rfl:a=0:=by omega
  rw[B4m,h2];exact (A1v (l:=cp x)).symm
 ·exact StrLaws.sliced_plain x hab hb
theorem D4z (x:Str)(h:1<=x.length):cp (Txt.slice x (some 1) none)=(cp x).tail:=by
 have e:Txt.slice x (some 1) none=Txt.slice x (some ((1:Nat):Int)) (some ((x.length:Nat):Int)):=by
  unfold Txt.slice;rw[StrLaws.sliceIdx_none_hi];rfl
 rw[e,C4r x h (G3 _),List.drop_one,B4k (by rw[List.length_tail,W2];exact G3 _)]
open PySem.Spec PyProof.Rows
mutual
def A60:PyData->Bool
 | .none=>true
 | .bool _=>true
 | .int _=>true
 | .str _=>true
 | .tuple xs=>C4s xs
 | .list _=>false
 | .dict _=>false
def C4s:!PyData->Bool
 | []=>true
 | d::ds=>A60 d&&C4s ds
end
open Classical in
section
variable {X:Cx}{C:DC}{e a b:Expr}{es:!Expr}{t ta tb te:DE}{u:DA}{pos:Pos}{st:Stmt}{tg:Expr}
end
end Tactic
namespace Tactic
open PySem Lake
open Classical in
section
variable {C:DC}{col col2:Addr->Nat}{ρ:!Sl}{σ:Lake.St}{P:!Pe}{H H2:Hp}{i:Nat}{d:PyData}
open Classical in
open Classical in
end
section
variable {X:Cx}{C:DC}{e:Expr}{st:Stmt}{t te:DE}{u:DA}{i:Nat}
open Classical in
mutual
def D40:PyData->PyData
 | .tuple xs=>.tuple (C4t xs)
 | .list _=>.list []
 | .none=>.none
 | .bool b=>.bool b
 | .int i=>.int i
 | .str s=>.str s
 | .dict d=>.dict d
def C4t:!PyData->!PyData
 | []=>[]
 | d::ds=>D40 d::C4t ds
end
open Classical in
open Classical in
end
end Tactic
namespace Lake
open PySem PySem.Spec PyProof.Rows
section
variable {X:Cx}
end
end Lake
namespace Tactic
open PySem Lake
variable {X:Cx}{C:DC}{a:Expr}{te:DE}{pos:Pos}
section
variable {b:Expr}{i:Nat}
end
variable {e:Expr}{t:DE}
section
variable {b:Expr}{tt:DT}{i:Nat}
end
section
variable {u:DA}{i:Nat}
end
variable {H:Hp}
section
variable {col:Addr->Nat}{ρ:!Sl}{σ:St}{P:!Pe}{H':Hp}{p:Addr}
end
variable {st:Stmt}
section
variable {b:Expr}{tk:DE}
theorem C3.lenD {F:Addr->Prop}{H:Hp}:∀{vs:!V}{ds:!PyData},C3 F H vs ds->vs.length=ds.length
 | _,_,.nil=>rfl
 | _,_,.cons _ t=>by rw[J6,J6,C3.lenD t]
end
section
variable {i j:Nat}
end
section
variable {tp tl:DE}{i:Nat}
open Classical in
end
open PySem.Spec
section
variable {st:Expr}
end
mutual
def okS:PyData->Bool
 | .none=>true
 | .bool _=>true
 | .int _=>true
 | .str _=>true
 | .tuple xs=>B6w xs
 | .list xs=>B6w xs
 | .dict ks=>ks.isEmpty
def B6w:!PyData->Bool
 | []=>true
 | d::ds=>okS d&&B6w ds
end
section
variable {pins:!(Addr×Obj)}{σ:St}{s:Shared}{F:Addr->Prop}
end
open PyProof.Rows
section
variable {i:Nat}
open Classical in
end
section
variable {b:Expr}{tl tb:DE}
end
mutual
inductive FpV (F:Addr->Prop)(H:Hp):V->PyData->!Addr->Prop
 | non:FpV F H .non .none []
 | bl (b):FpV F H (.bl b) (.bool b) []
 | int (i):FpV F H (.int i) (.int i) []
 | str (x):FpV F H (.str x) (.str x) []
 | lst {a xs ds fp}:F a->H a=some (.lst xs)->Y9 F H xs ds fp->FpV F H (.ref a) (.list ds) (a::fp)
 | tup {a xs ds fp}:F a->H a=some (.tup xs)->Y9 F H xs ds fp->FpV F H (.ref a) (.tuple ds) fp
inductive Y9 (F:Addr->Prop)(H:Hp):!V->!PyData->!Addr->Prop
 | nil:Y9 F H [] [] []
 | cons {x xs d ds fp fps}:FpV F H x d fp->Y9 F H xs ds fps->Y9 F H (x::xs) (d::ds) (fp++fps)
end
theorem D41 {F:Addr->Prop}{H:Hp}{m1:V->PyData->!Addr->Prop}{m2:!V->!PyData->!Addr->Prop}(c1:m1 .non .none [])(c2:∀b,m1 (.bl b) (.bool b) [])(c3:∀i,m1 (.int i) (.int i) [])(c4:∀x,m1 (.str x) (.str x) [])
  (c5:∀{a xs ds fp},F a->H a=some (.lst xs)->Y9 F H xs ds fp->m2 xs ds fp->m1 (.ref a) (.list ds) (a::fp)) (c6:∀{a xs ds fp},F a->H a=some (.tup xs)->Y9 F H xs ds fp->m2 xs ds fp->m1 (.ref a) (.tuple ds) fp)
  (c7:m2 [] [] []) (c8:∀{x xs d ds fp fps},FpV F H x d fp->Y9 F H xs ds fps->m1 x d fp->m2 xs ds fps->m2 (x::xs) (d::ds) (fp++fps)):(∀{v d fp},FpV F H v d fp->m1 v d fp)/\∀{vs ds fp},Y9 F H vs ds fp->m2 vs ds fp:=
 ⟨λt=>FpV.rec (motive_1:=λv d fp J=>m1 v d fp) (motive_2:=λv d fp J=>m2 v d fp) c1 c2 c3 c4 c5 c6 c7 c8 t,λt=>Y9.rec (motive_1:=λv d fp J=>m1 v d fp) (motive_2:=λv d fp J=>m2 v d fp) c1 c2 c3 c4 c5 c6 c7 c8 t⟩
theorem D42 {F:Addr->Prop}{H:Hp}:(∀{v d fp},FpV F H v d fp->ThV F H v d)/\∀{vs ds fp},Y9 F H vs ds fp->C3 F H vs ds:=
 D41 (m1:=λv d J=>ThV F H v d) (m2:=λv d J=>C3 F H v d) .non .bl .int .str (λn e J t=>.lst n e t) (λn e J t=>.tup n e t) .nil λJ J x t=>.cons x t
theorem Y9.th {F:Addr->Prop}{H:Hp}{vs:!V}{ds:!PyData}{fp:!Addr}(t:Y9 F H vs ds fp):C3 F H vs ds:=D42.2 t
section
variable {col col2:Addr->Nat}{ρ:!Sl}{σ:Lake.St}{P:!Pe}{H2:Hp}{i:Nat}{d:PyData}{R:C2w}
open Classical in
open Classical in
end
section
variable {es:!Expr}{tt:DT}{u:DA}{i:Nat}
open Classical in
end
section
variable {tg:Expr}{i:Nat}
end
section
variable {i j ia ib:Nat}
end
end Tactic
namespace Lake
open PySem PySem.Spec PyProof.Rows
section
variable {X:Cx}
end
end Lake
namespace Tactic
open PySem Lake
open PySem.Spec PyProof.Rows
section
variable {X:Cx}{C:DC}{e:Expr}{st:Stmt}{u:DA}{i:Nat}
end
section
variable {X:Cx}{C:DC}{st:Stmt}{i j:Nat}
end
end Tactic
namespace Lake
open PySem PySem.Spec PyProof.Rows
section
variable {prog:Program}{w:World}{A:Around}{E:Value->Shared->Prop}{s:Shared}
end
section
variable {X:Cx}{pos:Pos}
end
end Lake
namespace Tactic
open PySem Lake
section
variable {X:Cx}{C:DC}
end
theorem M3 {us:!Value}{n:Nat}(h:us.length=n+1):∃a r,us=a::r/\r.length=n:=by
 cases us with
 | nil=>cases h
 | cons a r=>exact⟨a,r,rfl,Nat.succ.inj h⟩
theorem C4u {us:!Value}(h:us.length=0):us=[]:=by
 cases A3l h;exact rfl
theorem B6x {us:!Value}(h:us.length=1):∃a0,us=[a0]:=by
 let⟨a0,u0,rfl,h0⟩:=M3 h;cases A3l h0;exact⟨a0,rfl⟩
theorem C4v {us:!Value}(h:us.length=2):∃a0 a1,us=[a0,a1]:=by
 let⟨a0,u0,rfl,h0⟩:=M3 h;let⟨a1,u1,rfl,h1⟩:=M3 h0;cases A3l h1;exact⟨a0,a1,rfl⟩
theorem C4w {us:!Value}(h:us.length=3):∃a0 a1 a2,us=[a0,a1,a2]:=by
 let⟨a0,u0,rfl,h0⟩:=M3 h;let⟨a1,u1,rfl,h1⟩:=M3 h0;let⟨a2,u2,rfl,h2⟩:=M3 h1;cases A3l h2;exact⟨a0,a1,a2,rfl⟩
theorem C4x {us:!Value}(h:us.length=4):∃a0 a1 a2 a3,us=[a0,a1,a2,a3]:=by
 let⟨a0,u0,rfl,h0⟩:=M3 h;let⟨a1,u1,rfl,h1⟩:=M3 h0;let⟨a2,u2,rfl,h2⟩:=M3 h1;let⟨a3,u3,rfl,h3⟩:=M3 h2;cases A3l h3;exact⟨a0,a1,a2,a3,rfl⟩
theorem C4y {us:!Value}(h:us.length=5):∃a0 a1 a2 a3 a4,us=[a0,a1,a2,a3,a4]:=by
 let⟨a0,u0,rfl,h0⟩:=M3 h;let⟨a1,u1,rfl,h1⟩:=M3 h0;let⟨a2,u2,rfl,h2⟩:=M3 h1;let⟨a3,u3,rfl,h3⟩:=M3 h2;let⟨a4,u4,rfl,h4⟩:=M3 h3;cases A3l h4;exact⟨a0,a1,a2,a3,a4,rfl⟩
theorem C4z {us:!Value}(h:us.length=6):∃a0 a1 a2 a3 a4 a5,us=[a0,a1,a2,a3,a4,a5]:=by
 let⟨a0,u0,rfl,h0⟩:=M3 h;let⟨a1,u1,rfl,h1⟩:=M3 h0;let⟨a2,u2,rfl,h2⟩:=M3 h1;let⟨a3,u3,rfl,h3⟩:=M3 h2;let⟨a4,u4,rfl,h4⟩:=M3 h3;let⟨a5,u5,rfl,h5⟩:=M3 h4;cases A3l h5;exact⟨a0,a1,a2,a3,a4,a5,rfl⟩
def top (i:Nat):Stmt:=PySem.Challenge.pw_trudge_k99_whole_roads_to_a_land.main.body.getD i (.Pass ⟨0,0,0,0⟩)
abbrev B6y:Stmt:=top 2
abbrev B6z:Stmt:=top 3
abbrev B60:Stmt:=top 4
abbrev B61:Stmt:=top 5
abbrev B62:Stmt:=top 6
abbrev B63:Stmt:=top 11
abbrev B64:Stmt:=top 12
abbrev B65:Stmt:=top 13
abbrev B66:Stmt:=top 14
abbrev B67:Stmt:=top 15
abbrev B68:Stmt:=top 37
abbrev B69:Stmt:=top 38
abbrev B7a:Stmt:=top 39
abbrev B2y:Stmt:=top 40
abbrev B2z:Stmt:=top 41
abbrev B20:Stmt:=top 42
abbrev B21:Stmt:=top 44
abbrev B7b:Stmt:=top 45
abbrev B7c:Stmt:=top 46
abbrev B7d:Stmt:=top 52
abbrev B7e:Stmt:=top 53
abbrev B7f:Stmt:=top 54
abbrev B7g:Stmt:=top 58
abbrev B7h:Stmt:=top 59
abbrev B7i:Stmt:=top 60
abbrev B7j:Stmt:=top 62
abbrev B7k:Stmt:=top 63
abbrev B22:Stmt:=top 64
abbrev B23:Stmt:=top 65
abbrev B7l:Stmt:=top 66
abbrev B7m:Stmt:=top 67
abbrev B24:Stmt:=top 68
abbrev B7n:Stmt:=top 69
abbrev B25:Stmt:=top 73
abbrev B26:Stmt:=top 74
abbrev B7o:Stmt:=top 76
abbrev B27:Stmt:=top 78
abbrev B7p:Stmt:=top 79
abbrev B7q:Stmt:=top 84
abbrev B7r:Stmt:=top 85
abbrev B7s:Stmt:=top 87
abbrev B7t:Stmt:=top 88
abbrev B7u:Stmt:=top 89
abbrev B7v:Stmt:=top 92
abbrev B28:Stmt:=top 93
abbrev B29:Stmt:=Z7 (top 94) 0
abbrev B7w:Stmt:=Z7 (top 94) 1
abbrev B7x:Stmt:=Z7 (top 94) 2
abbrev B7y:Stmt:=Z7 (top 94) 3
abbrev B7z:Stmt:=Z7 (top 94) 4
abbrev B70:Stmt:=Z7 (top 94) 5
abbrev B71:Stmt:=Z7 (top 94) 6
abbrev B72:Stmt:=Z7 (top 94) 7
abbrev B73:Stmt:=Z7 (top 94) 8
abbrev B74:Stmt:=Z7 (top 94) 9
abbrev C40:Stmt:=Z7 (top 94) 10
abbrev B3a:Stmt:=Z7 (top 94) 11
abbrev B75:Stmt:=Z7 (top 94) 12
abbrev B76:Stmt:=Z7 (top 94) 14
abbrev B77:Stmt:=Z7 (top 94) 15
abbrev B3b:Stmt:=top 96
abbrev B3c:Stmt:=top 101
abbrev B78:Stmt:=top 102
abbrev B79:Stmt:=top 103
abbrev B8a:Stmt:=top 104
abbrev B8b:Stmt:=top 105
abbrev B8c:Stmt:=top 106
abbrev B3d:Stmt:=top 107
abbrev B0d:Stmt:=top 108
abbrev B8d:Stmt:=top 109
abbrev B8e:Stmt:=top 114
abbrev B0e:Stmt:=top 115
abbrev B8f:Stmt:=top 116
abbrev B8g:Stmt:=top 117
abbrev B8h:Stmt:=top 118
abbrev B8i:Stmt:=top 119
abbrev B8j:Stmt:=top 120
abbrev B8k:Stmt:=top 121
abbrev B8l:Stmt:=top 122
abbrev B8m:Stmt:=top 123
abbrev B8n:Stmt:=top 124
abbrev B8o:Stmt:=top 125
abbrev B3e:Stmt:=top 126
abbrev B8p:Stmt:=top 127
abbrev B8q:Stmt:=top 128
abbrev B8r:Stmt:=top 129
abbrev B3f:Stmt:=Z7 (top 131) 0
abbrev B8s:Stmt:=Z7 (top 131) 1
abbrev B8t:Stmt:=top 133
abbrev B8u:Stmt:=top 134
abbrev B8v:Stmt:=top 135
abbrev B8w:Stmt:=top 136
abbrev B8x:Stmt:=top 137
abbrev B8y:Stmt:=top 138
abbrev B8z:Stmt:=top 139
abbrev B80:Stmt:=top 140
abbrev B3g:Stmt:=top 141
abbrev B81:Stmt:=top 142
abbrev B3h:Stmt:=top 143
abbrev B82:Stmt:=top 144
abbrev B83:Stmt:=top 145
abbrev B84:Stmt:=top 146
abbrev B85:Stmt:=top 147
abbrev B86:Stmt:=top 148
abbrev B87:Stmt:=top 149
abbrev B88:Stmt:=top 150
abbrev B89:Stmt:=top 151
abbrev A0o:Stmt:=top 152
def HB (nm qn:Str)(st:Stmt)(ps:!Str):Prop:=∀(kV doc pm:Value)(an:Option Addr)(cdv ct:Value)(us:!Value),us.length=ps.length->bindArgs (A43 nm qn (A5k st) (A2r st) (B5 st) .none kV doc pm an cdv ct) ⟨us,[]⟩=pure (ps.zip us)
structure FT (K:A8)(mg:Str->Option Value)(nm:Str)(st:Stmt)(ps:!Str) where
 a:Addr
 d:FuncData
 F:Fun K nm nm st a d
 m:mg nm=some (.ref a)
 b:A0h K d ps []
def FH (K:A8)(nm:Str)(st:Stmt):Prop:=∃f,A1u K mainGlobals nm=some (some (.ref f))/\∃fd,Fun K nm nm st f fd
theorem FT.of {K:A8}{mg:Str->Option Value}{nm:Str}{st:Stmt}{ps:!Str}{h:Heap}(X:K.In h)(G:h.Ns mainGlobals mg)(H:FH K nm st)(hb:HB nm nm st ps):Nonempty (FT K mg nm st ps):=by
 let⟨f,a,fd,F⟩:=H;exact⟨⟨f,fd,F,A2j X G a,F.binds hb⟩⟩
noncomputable def FT.c {K:A8}{mg:Str->Option Value}{nm:Str}{st:Stmt}{ps:!Str}{h:Heap}(X:K.In h)(G:h.Ns mainGlobals mg)(H:FH K nm st)(hb:HB nm nm st ps:=by intro _ _ _ _ _ _ us hl;first | (let⟨_,rfl⟩:=B6x hl;rfl) | (let⟨_,_,rfl⟩:=C4v hl;rfl) | (let⟨_,_,_,rfl⟩:=C4w hl;rfl) | (let⟨_,_,_,_,rfl⟩:=C4x hl;rfl) | (let⟨_,_,_,_,_,rfl⟩:=C4y hl;rfl) | (let⟨_,_,_,_,_,_,rfl⟩:=C4z hl;rfl) | (cases C4u hl;rfl)):FT K mg nm st ps:=Classical.choice (FT.of X G H hb)
structure CT (mg:Str->Option Value)(nm:Str)(v:Tok->Value) where
 t:Tok
 m:mg nm=some (v t)
def CH (K:A8)(nm:Str)(v:Tok->Value):Prop:=∃t,A1u K mainGlobals nm=some (some (v t))
theorem CT.of {K:A8}{mg:Str->Option Value}{nm:Str}{v:Tok->Value}{h:Heap}(X:K.In h)(G:h.Ns mainGlobals mg)(H:CH K nm v):Nonempty (CT mg nm v):=by
 let⟨t,e⟩:=H;exact⟨⟨t,A2j X G e⟩⟩
noncomputable def CT.c {K:A8}{mg:Str->Option Value}{nm:Str}{v:Tok->Value}{h:Heap}(X:K.In h)(G:h.Ns mainGlobals mg)(H:CH K nm v):CT mg nm v:=Classical.choice (CT.of X G H)
def BN (K:A8):!Str->Prop
 | []=>True
 | x::r=>A1u K mainGlobals x=some none/\BN K r
def AH (K:A8)(nm al:Str):Prop:=∃f,A1u K mainGlobals nm=some (some (.ref f))/\A1u K mainGlobals al=some (some (.ref f))
theorem AH.of {K:A8}{mg:Str->Option Value}{nm al:Str}{h:Heap}(X:K.In h)(G:h.Ns mainGlobals mg)(H:AH K nm al):mg al=mg nm:=by
 let⟨f,e1,e2⟩:=H;rw[A2j X G e1,A2j X G e2]
structure MT (K:A8)(C:Addr)(nm qn:Str)(st:Stmt)(ps:!Str) where
 a:Addr
 d:FuncData
 F:Fun K nm qn st a d
 m:B11 K C nm a
 b:A0h K d ps []
def MH (K:A8)(C:Addr)(nm qn:Str)(st:Stmt):Prop:=∃f,A1q K (.ref C) nm=some (some (.ref f))/\PySem.W.isFn K (.ref f)=true/\∃fd,Fun K nm qn st f fd
theorem MT.of {K:A8}{C:Addr}{nm qn:Str}{st:Stmt}{ps:!Str}(H:MH K C nm qn st)(hb:HB nm qn st ps):Nonempty (MT K C nm qn st ps):=by
 let⟨f,a,b,fd,F⟩:=H;exact⟨⟨f,fd,F,⟨a,b,F.kp⟩,F.binds hb⟩⟩
noncomputable def MT.c {K:A8}{C:Addr}{nm qn:Str}{st:Stmt}{ps:!Str}(H:MH K C nm qn st)(hb:autoParam (HB nm qn st ps) FT.c._auto_1):MT K C nm qn st ps:=Classical.choice (MT.of H hb)
theorem pcF {X:Cx}{nm:Str}{st:Stmt}{qs:!Str}(T:FT X.K X.mg nm st qs)(F:C5 X.prog X.w X.K X.mg X.base CX0 k T.a T.d qs sp)(hr:Q5 j X.A)(ha:PA X (e::es) t) (hdb:autoParam ((nm == ("__debug__" : Str))=false) DD._auto_1) (he:autoParam (starEach (e::es) X.env=(false,eval e X.env)::starEach es X.env) RF._auto_1) (hpl:autoParam ((backTo pos (starEach es X.env)).any (·.1)=false) RF._auto_1)(hj:autoParam (k<=j) DD._auto_1)(hg:autoParam (Gl X nm) RF._auto_1):PE X (.Call (.Name nm p) (e::es) [] pos) (C1s sp [] E0 t):=B3 F (hr.mono hj) hg T.m T.F.kp T.b .nil A7 ha hdb he hpl
theorem pmF {X:Cx}{pl:Sem Bool}{nm qn:Str}{st:Stmt}{qs:!Str}(he:PE X o ta)(c:Cls X.K C)(T:MT X.K C nm qn st qs)(F:C5 X.prog X.w X.K X.mg X.base CX0 k T.a T.d qs sp)(hr:Q5 j X.A)(ha:PA X (e::es) t)(hj:autoParam (k<=j) DD._auto_1)
  (hst:autoParam (starEach (e::es) X.env=(false,eval e X.env)::starEach es X.env) RF._auto_1) (hpl:autoParam ((backTo pos (starEach es X.env)).any (·.1)=false) RF._auto_1)
  (ht:eval (.Call (.Attribute o nm apos) (e::es) [] pos) X.env=(do
   let ov <-eval o X.env
   standAt apos.atName
   let (f,first) <-holding [ov] (getMethod ov nm pl)
   callWith pos f first (backTo pos (starEach (e::es) X.env)) (backToKw pos (keywordEach [] X.env))):=by rfl):
  PE X (.Call (.Attribute o nm apos) (e::es) [] pos) (C1t C nm sp [] E0 ta t):=m8 he c T.m F (hr.mono hj) T.b .nil A7 ha hst hpl ht
theorem pmG {X:Cx}{pl:Sem Bool}{nm qn:Str}{st:Stmt}{qs:!Str}(he:PE X o ta)(c:Cls X.K C)(T:MT X.K C nm qn st qs)(F:C5 X.prog X.w X.K X.mg X.base CX0 k T.a T.d qs sp)(hr:Q5 j X.A)(hj:autoParam (k<=j) DD._auto_1)
  (ht:eval (.Call (.Attribute o nm apos) [] [] pos) X.env=(do
   let ov <-eval o X.env
   standAt apos.atName
   let (f,first) <-holding [ov] (getMethod ov nm pl)
   callWith pos f first (backTo pos (starEach [] X.env)) (backToKw pos (keywordEach [] X.env))):=by rfl):
  PE X (.Call (.Attribute o nm apos) [] [] pos) (C1t C nm sp [] E0 ta W8):=Z6 he c T.m F (hr.mono hj) T.b .nil A7 ht
abbrev FK (P:Program)(w:World){K:_}{mg:_}(base:Heap)(k:Nat){nm:Str}{st:Stmt}{qs:!Str}(T:FT K mg nm st qs)(sp:Sp):=C5 P w K mg base CX0 k T.a T.d qs sp
abbrev FM (P:Program)(w:World){K:_}(mg:_)(base:Heap)(k:Nat){C:Addr}{nm qn:Str}{st:Stmt}{qs:!Str}(T:MT K C nm qn st qs)(sp:Sp):=C5 P w K mg base CX0 k T.a T.d qs sp
theorem cII {X:Cx}{nm:Str}{n:Int}(T:CT X.mg nm λt=>Value.int n t)(hg:autoParam (Gl X nm) RF._auto_1)(hd:autoParam ((nm == ("__debug__" : Str))=false) DD._auto_1):PE X (.Name nm pos) (tC (V.int n)):=D0 (v:=V.int n) hg T.m ⟨_,rfl⟩ hd
def KH (K:A8)(C:Addr):Prop:=Cls K C/\PySem.W.makesIn K C=true/\A7f K (.ref C)=true
def NN (K:A8)(C:Addr):!Str->Prop
 | []=>True
 | x::r=>A1q K (.ref C) x=some none/\NN K C r
set_option genInjectivity false in
set_option genSizeOf false in
structure Txt (K:A8)(mg:Str->Option Value) where
 iV:mg "abs" = none
 ip:mg "all" = none
 je:mg "bool" = none
 eS:mg "enumerate" = none
 fS:mg "int" = none
 bM:mg "isinstance" = none
 aP:mg "len" = none
 cz:mg "list" = none
 fm:mg "max" = none
 eM:mg "min" = none
 cj:mg "range" = none
 fo:mg "reversed" = none
 gh:mg "sorted" = none
 aQ:mg "str" = none
 iR:mg "tuple" = none
 jK:mg "zip" = none
 ac:Addr
 gQ:mg "Keeper" = some (.ref ac)
 ae:Cls K ac
 dR:A0z K ac "many"
 dh:A0z K ac "full"
 dL:A0z K ac "wanted"
 bK:A0z K ac "laid"
 cD:A0z K ac "lowest"
 dj:MT K ac "__init__" "Keeper.__init__" B29 ["self","many","store","goal"]
 dS:MT K ac "lay" "Keeper.lay" B7w ["self","label","start","end","change"]
 dl:MT K ac "lift" "Keeper.lift" B7x ["self","label"]
 dr:MT K ac "turn" "Keeper.turn" B7y ["self","label","change"]
 cK:MT K ac "refill" "Keeper.refill" B7z ["self","store"]
 dU:MT K ac "aim" "Keeper.aim" B70 ["self","goal"]
 cm:MT K ac "found" "Keeper.found" B71 ["self","label"]
 aG:MT K ac "moved" "Keeper.moved" B72 ["self"]
 dt:MT K ac "ways" "Keeper.ways" B73 ["self"]
 bQ:MT K ac "store" "Keeper.store" B74 ["self"]
 jr:MT K ac "goal" "Keeper.goal" C40 ["self"]
 aA:MT K ac "land" "Keeper.land" B3a ["self"]
 cX:MT K ac "least" "Keeper.least" B75 ["self"]
 cA:MT K ac "highest" "Keeper.highest" B76 ["self","base"]
 br:MT K ac "least_store" "Keeper.least_store" B77 ["self","begin","goal"]
 gR:Mk K ac dj.a
 ah:Addr
 fU:mg "Desk" = some (.ref ah)
 ck:Cls K ah
 dM:A0z K ah "keeper"
 du:MT K ah "__init__" "Desk.__init__" B3f ["self"]
 bP:MT K ah "say" "Desk.say" B8s ["self","row"]
 fV:Mk K ah du.a
 g_LEAST:CT mg "LEAST" (.int 0)
 g_GAIN:CT mg "GAIN" (.int 1)
 g_TOP:CT mg "TOP" (.int 2)
 g_MANY:CT mg "MANY" (.int 0)
 g_WAYS:CT mg "WAYS" (.int 1)
 g_START:CT mg "START" (.int 0)
 g_END:CT mg "END" (.int 1)
 g_CHANGE:CT mg "CHANGE" (.int 2)
 g_MOST_PLACES:CT mg "MOST_PLACES" (.int 12)
 g_MOST_WAYS:CT mg "MOST_WAYS" (.int 40)
 g_TABLE:CT mg "TABLE" (.int 0)
 g_RISEN:CT mg "RISEN" (.int 1)
 g_FROM:CT mg "FROM" (.int 0)
 g_BY:CT mg "BY" (.int 1)
 g_NUMBERS:CT mg "NUMBERS" (.int 0)
 g_TIMES:CT mg "TIMES" (.int 1)
 g_PLACE:CT mg "PLACE" (.int 0)
 g_LEVEL:CT mg "LEVEL" (.int 1)
 g_MOST_FIGURES:CT mg "MOST_FIGURES" (.int 60)
 g_MOST_SOON:CT mg "MOST_SOON" (.int 200)
 g_ANY:CT mg "ANY" (.str "any")
 g_FIGURES:CT mg "FIGURES" (.str "0123456789")
 g_NONE:CT mg "NONE" (.str "-")
 aj:FT K mg "is_whole" B6y ["thing"]
 bf:FT K mg "is_store" B6z ["thing"]
 bg:FT K mg "is_level" B60 ["store","thing"]
 bG:FT K mg "stepped" B61 ["store","level","change"]
 aD:FT K mg "levels_along" B62 ["store","level","changes"]
 aO:FT K mg "effect_of_none" B63 ["store"]
 aY:FT K mg "effect_of_one" B64 ["store","change"]
 bW:FT K mg "effect_of" B65 ["store","changes"]
 cR:FT K mg "passed" B66 ["effect","level"]
 cS:FT K mg "joined" B67 ["one","other"]
 av:FT K mg "is_place" B68 ["many","thing"]
 aR:FT K mg "is_change" B69 ["thing"]
 cT:FT K mg "is_way" B7a ["many","thing"]
 bu:FT K mg "turned_land" B2y ["land"]
 aC:FT K mg "changes_of" B2z ["land","numbers"]
 aw:FT K mg "most_taken" B20 ["land"]
 au:FT K mg "is_table" B21 ["many","store","thing"]
 cE:FT K mg "is_more" B7b ["one","other"]
 bN:FT K mg "behind_way" B7c ["store","table","way"]
 aT:FT K mg "first_row" B7d ["table"]
 aJ:FT K mg "row_behind" B7e ["land","store","table","stayed"]
 bH:FT K mg "walk_to" B7f ["land","rows","place"]
 bv:FT K mg "behind_ways" B7g ["land","place","numbers"]
 bw:FT K mg "behind_part" B7h ["land","place","part"]
 cU:FT K mg "end_of" B7i ["land","place","trip"]
 bh:FT K mg "rows_from" B7j ["land","store","table"]
 bx:FT K mg "still_rises" B7k ["land","rows"]
 bz:FT K mg "rising_walk" B22 ["land","rows"]
 aF:FT K mg "parted_at_round" B23 ["land","walk"]
 bC:FT K mg "parts_by" B7l ["numbers"]
 aZ:FT K mg "filling_parts" B7m ["land","store","level","walk"]
 cF:FT K mg "settled" B24 ["land","store","base"]
 aq:FT K mg "highest" B7n ["land","store","base"]
 bA:FT K mg "greatest_of" B25 ["base"]
 bX:FT K mg "boundless" B26 ["land","base"]
 bY:FT K mg "is_within" B7o ["level","bound"]
 bR:FT K mg "lacking" B27 ["store","table"]
 cB:FT K mg "least" B7p ["land","store","goal"]
 bI:FT K mg "base_at" B7q ["many","spot"]
 ax:FT K mg "has_enough" B7r ["table","goal"]
 aB:FT K mg "comes_through" B7s ["land","store","begin","goal"]
 ba:FT K mg "store_enough" B7t ["land","begin","goal"]
 bB:FT K mg "least_store" B7u ["land","begin","goal"]
 bi:FT K mg "is_label" B7v ["thing"]
 aE:FT K mg "places_below" B28 ["table","other"]
 cG:FT K mg "soonest" B3b ["land","store","begin","goal","most"]
 aN:FT K mg "are_figures" B3c ["word"]
 bZ:FT K mg "is_number" B78 ["word"]
 aU:FT K mg "number_by" B79 ["word"]
 cr:FT K mg "level_by" B8a ["word"]
 cH:FT K mg "written" B8b ["level"]
 bb:FT K mg "row_of" B8c ["words"]
 ay:FT K mg "table_row" B3d ["table"]
 ai:FT K mg "moved_row" B0d ["moved"]
 cu:FT K mg "way_word" B8d ["way"]
 cw:FT K mg "words_of" B8e ["row"]
 cb:FT K mg "values_of" B0e ["words"]
 cf:FT K mg "keeper_by" B8f ["many","store"]
 bJ:FT K mg "base_of" B8g ["keeper","values"]
 aH:FT K mg "spot_of" B8h ["keeper","place","level","most"]
 dI:FT K mg "lay" B8i ["keeper","values"]
 cN:FT K mg "lift" B8j ["keeper","values"]
 cO:FT K mg "turn" B8k ["keeper","values"]
 cg:FT K mg "refill" B8l ["keeper","values"]
 dJ:FT K mg "aim" B8m ["keeper","values"]
 aK:FT K mg "tell_least" B8n ["keeper","values"]
 az:FT K mg "tell_highest" B8o ["keeper","values"]
 aW:FT K mg "tell_ways" B3e ["keeper","values"]
 aM:FT K mg "tell_store" B8p ["keeper","values"]
 aX:FT K mg "tell_soon" B8q ["keeper","values"]
 bj:FT K mg "tell_any" B8r ["keeper","values"]
 dW:FT K mg "_law_hand" B8t ["_law_script"]
 bS:FT K mg "_law_next" B8u ["_law_hand_here"]
 dX:FT K mg "_law_take" B8v ["_law_hand_here"]
 af:FT K mg "_law_draw" B8w ["_law_hand_here","_law_many"]
 dv:FT K mg "_law_scale" B8x ["_law_hand_here"]
 ci:FT K mg "_law_change" B8y ["_law_hand_here","_law_scale_here"]
 dw:FT K mg "_law_store" B8z ["_law_hand_here","_law_scale_here"]
 dY:FT K mg "_law_land" B80 ["_law_hand_here","_law_places","_law_ways_here","_law_scale_here"]
 cC:FT K mg "_law_table" B3g ["_law_hand_here","_law_many","_law_store_here"]
 dZ:FT K mg "_law_word" B81 ["_law_level"]
 bL:FT K mg "_law_words" B3h ["_law_table_here"]
 cV:FT K mg "_law_labels" B82 ["_law_hand_here","_law_many"]
 dy:FT K mg "_law_mixed" B83 ["_law_hand_here","_law_row"]
 aI:FT K mg "_law_lay" B84 ["_law_label","_law_way"]
 bD:FT K mg "_law_straight" B85 ["_law_land_here","_law_store_here","_law_goal","_law_labels_here"]
 dz:FT K mg "_law_roads" B86 ["_law_hand_here","_law_land_here","_law_store_here","_law_goal","_law_labels_here"]
 ee:FT K mg "_law_ways" B87 ["_law_land_here","_law_labels_here"]
 ef:FT K mg "_law_asks" B88 ["_law_hand_here","_law_land_here","_law_store_here"]
 eh:FT K mg "_law_bare" B89 ["_law_desk","_law_row"]
 iq:FT K mg "law" A0o ["_law_script"]
 bp:mg "highest_highest" = mg "highest"
 dA:mg "least_least" = mg "least"
 cY:mg "least_store_stores" = mg "least_store"
 bT:Addr
 fY:mg "NUMBERED" = some (.ref bT)
 cq:Addr
 gr:mg "ANSWERS" = some (.ref cq)
 bO:Addr
 fD:mg "TABLED" = some (.ref bO)
 kt_TABLED:KTH K bO [V.str "aim",V.str "highest",V.str "any"]
structure B3i (w:World){K:A8}{mg:Str->Option Value}(T:Txt K mg):Prop where
 kd_NUMBERED:KDH w K T.bT [("land",V.int 2),("lay",V.int 4),("lift",V.int 1),("turn",V.int 2),("refill",V.int 1),("least",V.int 0),("ways",V.int 0),("store",V.int 4),("soon",V.int 5)]
 kd_ANSWERS:KDH w K T.cq [("lay",V.ref T.dI.a),("lift",V.ref T.cN.a),("turn",V.ref T.cO.a),("refill",V.ref T.cg.a),("aim",V.ref T.dJ.a),("least",V.ref T.aK.a),("highest",V.ref T.az.a),("ways",V.ref T.aW.a),("store",V.ref T.aM.a),("soon",V.ref T.aX.a),("any",V.ref T.bj.a)]
theorem SS{N ps:!Str}{s:_}(h:C8 N ps s:=by exact ⟨rfl,rfl,rfl,(by decide +kernel),rfl,(by decide +kernel),(by decide +kernel)⟩):C8 N ps s:=h
theorem D43:C8 ["thing"] ["thing"] (B5 B6y):=SS
theorem D44:C8 ["thing"] ["thing"] (B5 B6z):=SS
theorem D45:C8 ["store","thing"] ["store","thing"] (B5 B60):=SS
theorem C41:C8 ["store","level","change","behind"] ["store","level","change"] (B5 B61):=SS
theorem B3j:C8 ["store","level","changes","levels","change","behind"] ["store","level","changes"] (B5 B62):=SS
theorem D46:C8 ["store"] ["store"] (B5 B63):=SS
theorem D47:C8 ["store","change"] ["store","change"] (B5 B64):=SS
theorem B3k:C8 ["store","changes","whole","change"] ["store","changes"] (B5 B65):=SS
theorem D48:C8 ["effect","level"] ["effect","level"] (B5 B66):=SS
theorem C42:C8 ["one","other","least"] ["one","other"] (B5 B67):=SS
theorem D49:C8 ["many","thing"] ["many","thing"] (B5 B68):=SS
theorem D5a:C8 ["thing"] ["thing"] (B5 B69):=SS
theorem D5b:C8 ["many","thing"] ["many","thing"] (B5 B7a):=SS
theorem D5c:C8 ["land"] ["land"] (B5 B2y):=SS
theorem D5d:C8 ["land","numbers"] ["land","numbers"] (B5 B2z):=SS
theorem D5e:C8 ["land"] ["land"] (B5 B20):=SS
theorem D5f:C8 ["many","store","thing"] ["many","store","thing"] (B5 B21):=SS
theorem D5g:C8 ["one","other"] ["one","other"] (B5 B7b):=SS
theorem C43:C8 ["store","table","way","level"] ["store","table","way"] (B5 B7c):=SS
theorem D5h:C8 ["table"] ["table"] (B5 B7d):=SS
theorem A8x:C8 ["land","store","table","stayed","higher","risen","number","way","level"] ["land","store","table","stayed"] (B5 B7e):=SS
theorem A8y:C8 ["land","rows","place","here","numbers","row","number"] ["land","rows","place"] (B5 B7f):=SS
theorem B3l:C8 ["land","place","numbers","here","number"] ["land","place","numbers"] (B5 B7g):=SS
theorem C44:C8 ["land","place","part","behind"] ["land","place","part"] (B5 B7h):=SS
theorem B0f:C8 ["land","place","trip","here","at","part"] ["land","place","trip"] (B5 B7i):=SS
theorem B3m:C8 ["land","store","table","rows","row"] ["land","store","table"] (B5 B7j):=SS
theorem D5i:C8 ["land","rows"] ["land","rows"] (B5 B7k):=SS
theorem C45:C8 ["land","rows","last"] ["land","rows"] (B5 B22):=SS
theorem B0g:C8 ["land","walk","places","end","begin"] ["land","walk"] (B5 B23):=SS
theorem D5j:C8 ["numbers"] ["numbers"] (B5 B7l):=SS
theorem A4h:C8 ["land","store","level","walk","parted","ahead","turn","effect","missing","times","levels"] ["land","store","level","walk"] (B5 B7m):=SS
theorem A24:C8 ["land","store","base","table","roads","rows","walk","parts","full","road"] ["land","store","base"] (B5 B24):=SS
theorem D5k:C8 ["land","store","base"] ["land","store","base"] (B5 B7n):=SS
theorem D5l:C8 ["base"] ["base"] (B5 B25):=SS
theorem B9a:C8 ["land","base","bound","told"] ["land","base"] (B5 B26):=SS
theorem D5m:C8 ["level","bound"] ["level","bound"] (B5 B7o):=SS
theorem D5n:C8 ["store","table"] ["store","table"] (B5 B27):=SS
theorem D5o:C8 ["land","store","goal"] ["land","store","goal"] (B5 B7p):=SS
theorem C46:C8 ["many","spot","base"] ["many","spot"] (B5 B7q):=SS
theorem C47:C8 ["table","goal","level"] ["table","goal"] (B5 B7r):=SS
theorem D5p:C8 ["land","store","begin","goal"] ["land","store","begin","goal"] (B5 B7s):=SS
theorem D5q:C8 ["land","begin","goal"] ["land","begin","goal"] (B5 B7t):=SS
theorem A8z:C8 ["land","begin","goal","high","low","middle"] ["land","begin","goal"] (B5 B7u):=SS
theorem D5r:C8 ["thing"] ["thing"] (B5 B7v):=SS
theorem D5s:C8 ["table","other"] ["table","other"] (B5 B28):=SS
theorem D5t:C8 ["self","many","store","goal"] ["self","many","store","goal"] (B5 B29):=SS
theorem D5u:C8 ["self","label","start","end","change"] ["self","label","start","end","change"] (B5 B7w):=SS
theorem D5v:C8 ["self","label"] ["self","label"] (B5 B7x):=SS
theorem C48:C8 ["self","label","change","way"] ["self","label","change"] (B5 B7y):=SS
theorem D5w:C8 ["self","store"] ["self","store"] (B5 B7z):=SS
theorem D5x:C8 ["self","goal"] ["self","goal"] (B5 B70):=SS
theorem D5y:C8 ["self","label"] ["self","label"] (B5 B71):=SS
theorem C49:C8 ["self","ahead"] ["self"] (B5 B72):=SS
theorem B3n:C8 ["self","told","label","way"] ["self"] (B5 B73):=SS
theorem D5z:C8 ["self"] ["self"] (B5 B74):=SS
theorem D50:C8 ["self"] ["self"] (B5 B3a):=SS
theorem D51:C8 ["self"] ["self"] (B5 B75):=SS
theorem D52:C8 ["self","base"] ["self","base"] (B5 B76):=SS
theorem D53:C8 ["self","begin","goal"] ["self","begin","goal"] (B5 B77):=SS
theorem B3o:C8 ["land","store","begin","goal","most","nowhere","rows","tables"] ["land","store","begin","goal","most"] (B5 B3b):=SS
theorem D54:C8 ["word"] ["word"] (B5 B3c):=SS
theorem D55:C8 ["word"] ["word"] (B5 B78):=SS
theorem D56:C8 ["word"] ["word"] (B5 B79):=SS
theorem D57:C8 ["word"] ["word"] (B5 B8a):=SS
theorem D58:C8 ["level"] ["level"] (B5 B8b):=SS
theorem D59:C8 ["words"] ["words"] (B5 B8c):=SS
theorem D6a:C8 ["table"] ["table"] (B5 B3d):=SS
theorem B9b:C8 ["moved","fell","rose"] ["moved"] (B5 B0d):=SS
theorem B0h:C8 ["way","label","start","end","change"] ["way"] (B5 B8d):=SS
theorem B9c:C8 ["row","words","behind"] ["row"] (B5 B8e):=SS
theorem D6b:C8 ["words"] ["words"] (B5 B0e):=SS
theorem D6c:C8 ["many","store"] ["many","store"] (B5 B8f):=SS
theorem D6d:C8 ["keeper","values"] ["keeper","values"] (B5 B8g):=SS
theorem D6e:C8 ["keeper","place","level","most"] ["keeper","place","level","most"] (B5 B8h):=SS
theorem D6f:C8 ["keeper","values"] ["keeper","values"] (B5 B8i):=SS
theorem D6g:C8 ["keeper","values"] ["keeper","values"] (B5 B8j):=SS
theorem D6h:C8 ["keeper","values"] ["keeper","values"] (B5 B8k):=SS
theorem D6i:C8 ["keeper","values"] ["keeper","values"] (B5 B8l):=SS
theorem D6j:C8 ["keeper","values"] ["keeper","values"] (B5 B8m):=SS
theorem D6k:C8 ["keeper","values"] ["keeper","values"] (B5 B8n):=SS
theorem D6l:C8 ["keeper","values"] ["keeper","values"] (B5 B8o):=SS
theorem D6m:C8 ["keeper","values"] ["keeper","values"] (B5 B3e):=SS
theorem B3p:C8 ["keeper","values","begin","goal","told"] ["keeper","values"] (B5 B8p):=SS
theorem B0i:C8 ["keeper","values","most","begin","goal","told"] ["keeper","values"] (B5 B8q):=SS
theorem C5a:C8 ["keeper","values","base"] ["keeper","values"] (B5 B8r):=SS
theorem D6n:C8 ["self"] ["self"] (B5 B3f):=SS
theorem B9d:C8 ["self","row","words","values"] ["self","row"] (B5 B8s):=SS
theorem D6o:C8 ["_law_script"] ["_law_script"] (B5 B8t):=SS
theorem D6p:C8 ["_law_hand_here"] ["_law_hand_here"] (B5 B8u):=SS
theorem B9e:C8 ["_law_hand_here","_law_cell"] ["_law_hand_here"] (B5 B8v):=SS
theorem A80:C8 ["_law_hand_here","_law_many","_law_got","_law_value","_law_size"] ["_law_hand_here","_law_many"] (B5 B8w):=SS
theorem D6q:C8 ["_law_hand_here"] ["_law_hand_here"] (B5 B8x):=SS
theorem D6r:C8 ["_law_hand_here","_law_scale_here"] ["_law_hand_here","_law_scale_here"] (B5 B8y):=SS
theorem C5b:C8 ["_law_hand_here","_law_scale_here","_law_way"] ["_law_hand_here","_law_scale_here"] (B5 B8z):=SS
theorem A61:C8 ["_law_hand_here","_law_places","_law_ways_here","_law_scale_here","_law_many","_law_rows","_law_k","_law_start","_law_end"] ["_law_hand_here","_law_places","_law_ways_here","_law_scale_here"] (B5 B80):=SS
theorem C5c:C8 ["_law_hand_here","_law_many","_law_store_here","_law_rare"] ["_law_hand_here","_law_many","_law_store_here"] (B5 B3g):=SS
theorem D6s:C8 ["_law_level"] ["_law_level"] (B5 B81):=SS
theorem D6t:C8 ["_law_table_here"] ["_law_table_here"] (B5 B3h):=SS
theorem A81:C8 ["_law_hand_here","_law_many","_law_step","_law_at","_law_labels_here","_law_k"] ["_law_hand_here","_law_many"] (B5 B82):=SS
theorem B9f:C8 ["_law_hand_here","_law_row","_law_left","_law_mixed_here"] ["_law_hand_here","_law_row"] (B5 B83):=SS
theorem D6u:C8 ["_law_label","_law_way"] ["_law_label","_law_way"] (B5 B84):=SS
theorem B9g:C8 ["_law_land_here","_law_store_here","_law_goal","_law_labels_here","_law_rows","_law_k"] ["_law_land_here","_law_store_here","_law_goal","_law_labels_here"] (B5 B85):=SS
theorem A4i:C8 ["_law_hand_here","_law_land_here","_law_store_here","_law_goal","_law_labels_here","_law_rows","_law_k","_law_start","_law_end","_law_change_here","_law_way","_law_other"] ["_law_hand_here","_law_land_here","_law_store_here","_law_goal","_law_labels_here"] (B5 B86):=SS
theorem A82:C8 ["_law_land_here","_law_labels_here","_law_words_here","_law_k","_law_start","_law_end","_law_change_here"] ["_law_land_here","_law_labels_here"] (B5 B87):=SS
theorem A1k:C8 ["_law_hand_here","_law_land_here","_law_store_here","_law_top","_law_rows","_law_word_here","_law_spots","_law_high","_law_k","_law_row"] ["_law_hand_here","_law_land_here","_law_store_here"] (B5 B88):=SS
theorem C5d:C8 ["_law_desk","_law_row","_law_many"] ["_law_desk","_law_row"] (B5 B89):=SS
theorem Y3:C8 ["_law_script","_law_hand_here","_law_scale_here","_law_store_here","_law_places","_law_ways_here","_law_land_here","_law_goal","_law_labels_here","_law_others","_law_desks","_law_roads_here","_law_desk","_law_rows","_law_row","_law_asks_here","_law_told"] ["_law_script"] (B5 A0o):=SS
variable {P:Program}{w:World}{K:A8}{mg:Str->Option Value}{base:Heap}
variable (T:Txt K mg)
theorem D6v:FK P w base 1 T.dW (D1s K):=by
 refine T.dW.F.ok D6o (λJ H J J h=>?_) (λJ J J J H J Q J hr h=>?_)
 ·let⟨a,ns,rfl,_⟩:=h;rfl
 ·let⟨a,ns,rfl,hS,k⟩:=h;exists _,(C9 (G0 (T0 (A3 (M6 A3v rfl T.cz A1h (A3 (A3t A7t (pv 0) A5h (A5i B4)) A4 B0)) (A3 B4 (A3 B4 (A3 B4 (A3 B4 (A3 B4 A4 F2) F2) F2) F2) F2) C6))));refine⟨_,rfl,_,rfl,a,_,rfl,hS,λp1 h1=>⟨p1,_,rfl,.inl (SqL.of B9),λl hl=>⟨(SZ (n:=6)),λp hp=>?_⟩⟩⟩;have n1:p≠p1:=(e7 (H:=upd (upd H p1 _) l _) (by rw[C4 (e7 B9 hl)];exact B9) hp).symm;have n2:p≠l:=(e7 (H:=upd (upd H p1 _) l _) B9 hp).symm;have hp0:H p=none:=by rw[C4 n2,C4 n1] at hp;exact hp
  have hl0:H l=none:=by
   have nl:l≠p1:=(e7 B9 hl).symm;rw[C4 nl] at hl;exact hl
  refine k p l _ hp0 hl0 ⟨(ns.drop (HT.sIx (ns.map V.int).length 0 none)).take (HT.sIx (ns.map V.int).length (ns.map V.int).length (some 63)-HT.sIx (ns.map V.int).length 0 none),0,0,0,20011,40009,?_,A0v _,B9⟩ (((Same.refl H).lay h1).lay hl |>.lay hp);rw[C4 n2.symm,B9];unfold A1g;rw[A2i,List.map_drop]
theorem C5e:FK P w base 1 T.bS D1t:=by
 refine T.bS.F.ok D6p (λJ H J J h=>?_) (λJ J J J H J Q J hr h=>?_)
 ·let⟨a,l,rfl,_⟩:=h;rfl
 ·let⟨a,l,rfl,⟨ns,p,b,c,u,v,hl,hp,ha⟩,k⟩:=h;have ne:=B2a hl ha;refine⟨_,(C0 (m6 (F5 A2n (F5 A1z (E6 G8 (pv 0) B4) B4) B4) (A0y (pv 0) B4 w6))
   (C0 (m6 (F5 A2n (F5 A1z (E6 G8 (pv 0) B4) B4) B4) (A0y (pv 0) B4 w6))
   (C9 (G0 (F5 Q4 (E6 G8 (pv 0) B4) (E6 G8 (pv 0) B4)))))),?_⟩
  exists _,rfl,a,_,_,_,rfl,rfl,SqL.of ha,rfl,_,_,rfl,rfl,.inr ⟨DD,DD⟩,_,_,rfl,rfl,(by first | decide | (dsimp only;decide)),_,rfl,a,_,_,_,rfl,rfl,ha,rfl;exists _,rfl,a,_,_,_,rfl,rfl,SqL.of B9,rfl,_,_,rfl,rfl,.inr ⟨DD,DD⟩,_,_,rfl,rfl,(by first | decide | (dsimp only;decide)),_,rfl,a,_,_,_,rfl,rfl,B9,rfl;exists _,rfl,a,_,_,_,rfl,rfl,SqL.of B9,rfl,_,rfl,a,_,_,_,rfl,rfl,SqL.of B9,rfl,_,_,rfl,rfl;exact k _ _ ⟨ns,p,b,c,_,_,by rw[C4 ne,C4 ne];exact hl,hp,B9⟩ λb o e nb=>by rw[C4 nb,C4 nb];exact e
theorem D6w:FK P w base 2 T.dX D1u:=by
 refine T.dX.F.ok B9e (λJ H J J h=>?_) (λJ J J J H J Q J hr h=>?_)
 ·let⟨a,l,rfl,_⟩:=h;rfl
 ·let⟨a,l,rfl,⟨ns,p,b,c,u,v,hl,hp,ha⟩,k⟩:=h;have ne:=B2a hl ha;refine⟨_,(C0 (pS (i:=1) B9e.nd B4)
   (C0 (N9 (M5 (P9 A2o (E6 G8 (pv 0) B4) (K5 V8 rfl T.aP T9 (A3 (E6 G8 (pv 0) B4) A4 B0)) (F6 _))
   (C9 (pS (i:=1) B9e.nd (K5 C1m rfl T.iV C2l (A3 (E6 G8 (E6 G8 (pv 0) B4) (E6 G8 (pv 0) B4)) A4 B0))))
   M9))
   (C0 (C1b (pv 0) B4 C2k B4 C1c w6)
   (C0 (N9 (M5 (P9 B40 (pv 1) (F5 V7 B4 B4) (F6 _))
   (C9 (m6 (pv 1) (A0y (pv 0) B4 w6)))
   (C9 (m6 B4 (A0y (pv 0) B4 w6)))))
   (C0 (m6 (F5 Q4 (F5 A2n (F5 Q4 (E6 G8 (pv 0) B4) (F5 A2n (pv 1) B4)) B4) B4) (A0y (pv 0) B4 w6))
   (C0 (m6 (F5 Q4 (F5 A2n (F5 Q4 (F5 A1z (E6 G8 (pv 0) B4) B4) (F5 A2n (pv 1) B4)) B4) B4) (A0y (pv 0) B4 w6))
   (C0 (N7 (pcF T.bS (C5e T) hr (A3 (pv 0) A4 A0)))
   (C9 (N7 (pcF T.bS (C5e T) hr (A3 (pv 0) A4 A0))))))))))),?_⟩
  refine⟨fun σ H1=>H=H1/\∃z:Int,σ=[some (.ref a),some (.int z)],?_,?_⟩
  ·exists _,rfl,a,_,_,_,rfl,rfl,SqL.of ha,rfl,_,rfl,a,_,_,_,rfl,rfl,SqL.of ha,rfl,l,_,rfl,.inl (SqL.of hl),_,_,rfl,rfl,_,rfl;refine A7u (λhlt=>?_) (λJ=>⟨rfl,_,rfl⟩);have hlt':p<(ns.length:Int):=by simpa using hlt
   let⟨z,hz⟩:=D1r hp hlt';exact⟨_,rfl,a,_,_,_,rfl,rfl,SqL.of ha,rfl,_,rfl,a,_,_,_,rfl,rfl,SqL.of ha,rfl,l,_,_,_,rfl,rfl,SqL.of hl,hz,_,rfl,rfl,_,rfl⟩
  ·rintro σ H1 ⟨rfl,z,rfl⟩;exists _,rfl,a,_,_,_,rfl,rfl,(by first | decide | (dsimp only;decide)),SqL.of ha,rfl,_,_,rfl,rfl,a,_,_,_,rfl,rfl,ha,rfl;refine⟨fun σ H1=>σ=[some (.ref a),some (.int z)]/\Hd H1 a l/\Kp a H H1,?_,?_⟩
   ·exists _,rfl,_,_,rfl,rfl,⟨DD,DD,DD⟩,_,_,rfl,rfl,_,rfl;refine A7u (λJ=>?_) (λJ=>?_)
    ·refine⟨_,rfl,_,rfl,a,_,_,_,rfl,rfl,B9,rfl,rfl,⟨ns,p+1,_,_,_,_,by rw[C4 ne,C4 ne];exact hl,OO,B9⟩,λb o e nb=>by rw[C4 nb,C4 nb];exact e⟩
    ·refine⟨_,rfl,a,_,_,_,rfl,rfl,B9,rfl,rfl,⟨ns,p+1,_,_,_,_,by rw[C4 ne,C4 ne];exact hl,OO,B9⟩,λb o e nb=>by rw[C4 nb,C4 nb];exact e⟩
   ·rintro σ H1 ⟨rfl,⟨ns,p,b,c,u,v,hl,hp,ha⟩,k1⟩;have ne:=B2a hl ha;exists _,rfl,a,_,_,_,rfl,rfl,SqL.of ha,rfl,_,rfl,_,_,rfl,rfl,(by first | decide | (dsimp only;decide)),_,_,rfl,rfl,_,_,rfl,rfl,(by first | decide | (dsimp only;decide)),_,_,rfl,rfl,_,rfl,a,_,_,_,rfl,rfl,ha,rfl;exists _,rfl,a,_,_,_,rfl,rfl,SqL.of B9,rfl,_,_,rfl,rfl,.inr ⟨DD,DD⟩,_,rfl,_,_,rfl,rfl,(by first | decide | (dsimp only;decide)),_,_,rfl,rfl,_,_,rfl,rfl,(by first | decide | (dsimp only;decide)),_,_,rfl,rfl,_,rfl,a,_,_,_,rfl,rfl,B9,rfl;refine⟨_,rfl,a,l,rfl,⟨ns,p,_,_,_,_,by rw[C4 ne,C4 ne];exact hl,hp,B9⟩,λr H2 h2 k2=>?_⟩;refine⟨_,rfl,a,l,rfl,h2,λr H3 h3 k3=>?_⟩;exact k H3 h3 (((k1.trans λb o e nb=>by rw[C4 nb,C4 nb];exact e).trans k2).trans k3)
theorem D6x:FK P w base 3 T.af D1v:=by
 refine T.af.F.ok A80 (λJ H Q J h=>?_) (λJ J J J H J Q J hr h=>?_)
 ·let⟨a,l,m,rfl,_⟩:=h;rfl
 ·let⟨a,l,m,rfl,hd,hm0,hm1,k⟩:=h;refine⟨_,(C0 (N9 (M5 (PW.pt (B1r (P9 m7 (E6 G8 (pv 0) B4) B4 (F6 _)) (B1q (P9 m7 (E6 G8 (pv 0) B4) B4 (F6 _)))))
   (C9 (N7 (pcF T.dX (D6w T) hr (A3 (pv 0) A4 A0))))
   M9))
   (C0 (N9 (M5 (P9 A3r (E6 G8 (pv 0) B4) B4 (F6 _))
   (C0 (pS (i:=2) A80.nd (F5 A2n (E6 G8 (pv 0) B4) (pv 1)))
   (C0 (m6 (F5 B5c (E6 G8 (pv 0) B4) (pv 1)) (A0y (pv 0) B4 w6))
   (C9 (G0 (pv 2)))))
   M9))
   (C0 (C1b (pv 0) B4 C2k B4 C9j w6)
   (C0 (pS (i:=3) A80.nd (pcF T.bS (C5e T) hr (A3 (pv 0) A4 A0)))
   (C0 (pS (i:=4) A80.nd B4)
   (C0 (A49 T3 (P9 A2o (pv 4) (pv 1) (F6 _))
   (C0 (pS (i:=3) A80.nd (F5 Q4 (F5 A1z (pv 3) B4) (pcF T.bS (C5e T) hr (A3 (pv 0) A4 A0))))
   (C9 (pS (i:=4) A80.nd (F5 A1z (pv 4) B4)))))
   (C9 (G0 (F5 A2n (pv 3) (pv 1)))))))))),?_⟩
  refine⟨fun σ H1=>σ=[some (.ref a),some (.int m),none,none,none]/\Hd H1 a l/\Kp a H H1,?_,?_⟩
  ·let⟨ns,p,b,c,u,v,hl,hp,ha⟩:=id hd;exists _,rfl,a,_,_,_,rfl,rfl,SqL.of ha,rfl,rfl,_,rfl;refine A7u (λJ=>?_) (λJ=>G5 ⟨rfl,hd,.refl a H⟩);exists _,rfl,a,_,_,_,rfl,rfl,SqL.of ha,rfl,rfl,_,rfl;refine A7u (λJ=>?_) (λJ=>⟨rfl,hd,.refl a H⟩);exact⟨_,rfl,a,l,rfl,hd,λH1 h1 k1=>⟨rfl,h1,k1⟩⟩
  ·rintro σ H1 ⟨rfl,⟨ns,p,b,c,u,v,hl,hp,ha⟩,k1⟩;have ne:=B2a hl ha;refine⟨fun σ H2=>H1=H2/\σ=[some (.ref a),some (.int m),none,none,none],?_,?_⟩
   ·exists _,rfl,a,_,_,_,rfl,rfl,SqL.of ha,rfl,_,_,rfl,rfl,_,rfl;refine A7u (λJ=>?_) (λJ=>⟨rfl,rfl⟩);exists _,rfl,a,_,_,_,rfl,rfl,SqL.of ha,rfl,_,rfl,_,_,rfl,rfl,hm0;exists _,rfl,a,_,_,_,rfl,rfl,SqL.of ha,rfl,_,rfl,_,_,rfl,rfl,⟨hm0,hm1⟩,_,rfl,a,_,_,_,rfl,rfl,ha,rfl;exists _,rfl;exact k _ _ (B4p _ OO) (C0z _ hm0) ⟨ns,p,_,_,_,_,by rw[C4 ne];exact hl,hp,B9⟩ (k1.trans λb o e nb=>by rw[C4 nb];exact e)
   ·rintro σ H2 ⟨rfl,rfl⟩;exists _,rfl,a,_,_,_,rfl,rfl,(by first | decide | (dsimp only;decide)),SqL.of ha,rfl,_,_,rfl,rfl,a,_,_,_,rfl,rfl,ha,rfl;refine⟨_,rfl,a,l,rfl,⟨ns,p,_,_,_,_,by rw[C4 ne];exact hl,hp,B9⟩,λr H3 h3 k3=>?_⟩;have k3':Kp a H H3:=(k1.trans λb o e nb=>by rw[C4 nb];exact e).trans k3;refine C9p (fun σ H4=>∃(val sz:Int),σ=[some (.ref a),some (.int m),none,some (.int val),some (.int sz)]/\Hd H4 a l/\Kp a H H4/\0<sz)
     (fun σ J=>match σ with | [_,_,_,_,some (.int sz)]=>(m-sz).toNat | _=>0) ⟨r,4294967296,rfl,h3,k3',DD⟩ ?_ (fun σ H Q Q' f ⟨v,e1,u,e2,i,j,e3,e4,c,e5,q⟩=>⟨v,e1,u,e2,i,j,e3,e4,c,e5,f _ _ q⟩)
    rintro σ H4 ⟨val,sz,rfl,h4,k4,hsz⟩;exists _,rfl,_,rfl,_,_,rfl,rfl,_,rfl;refine A7u (λhlt=>?_) (λJ=>?_)
    ·have hlt':sz<m:=by simpa using hlt
     refine⟨_,rfl,_,_,rfl,rfl,.inr ⟨DD,DD⟩,_,rfl,a,l,rfl,h4,λr H5 h5 k5=>⟨_,_,rfl,rfl,?_⟩⟩;exists _,rfl,_,_,rfl,rfl,.inr ⟨DD,DD⟩;exists ⟨_,sz*4294967296,rfl,h5,k4.trans k5,OO⟩;show (m-sz*4294967296).toNat<(m-sz).toNat
     omega
    ·exists _,rfl,_,rfl,_,_,rfl,rfl,hm0;exact k _ _ (B4p _ OO) (C0z _ hm0) h4 k4
local macro_rules|`(tactic|left)=>mqT ""
local macro_rules|`(tactic|array_get_dec)=>mqT "B5z dIl dIv B5v B5w B51 "
local macro_rules|`(tactic|sizeOf_list_dec)=>mqT "Blk "
theorem b6 {k:Nat}{A:Around}(hr:Q5 k A):A.units+64<cLine:=hr.units
def C5f:DSp:=λds Q=>∃m:Int,ds=[.none,.int m]/\0<m/\m<100000000000000000000000000000000000000000000000000000000000000/\∀r:Int,0<=r->r<m->Q (.int r)
theorem D6y {F:Addr->Prop}{hand:Option (Addr×Addr)}{H:Hp}{vs:!V}{ds:!PyData}{ms:!Md}(a:y7 F hand H (.hd::ms) vs ds):∃q vs' d ds',hand=some q/\vs=.ref q.1::vs'/\ds=d::ds'/\y7 F hand H ms vs' ds':=by
 cases a with
 | cons x t=>let⟨q,e,rfl⟩:=x;exact⟨q,_,_,_,e,rfl,rfl,t⟩
theorem A2a:FK P w base 3 T.af (spD [.hd,.sh] C5f):=(D6x T).imp λvs H Q E h=>by
 let⟨F,hand,ds,Qd,h1,h2,h3,a,⟨m,rfl,m0,m1,hr⟩,h5⟩:=h;let⟨q,vs',d,ds',e,rfl,e2,a⟩:=D6y a;cases e2;subst e;cases a with
 | cons x t=>cases t;cases (show ThV F H _ (.int m) from x);exact⟨q.1,q.2,m,rfl,h3 q rfl,m0,m1,λr H' r0 r1 hd kp=>h5 _ _ _ (hr r r0 r1) (.int r) (λb o eb n=>kp b o eb (n q rfl)) λq' e'=>by cases e';exact hd⟩
def oD:Option Int->PyData
 | none=>.none
 | some i=>.int i
def onD:Option Nat->PyData
 | none=>.none
 | some n=>.int (n:Nat)
def Z0 (ns:!Int):!PyData:=ns.map PyData.int
def E2 (t:Tb):!PyData:=t.map oD
def rnL (t:Rn):!PyData:=t.map onD
def S2 (r:Rw):PyData:=.tuple [.list (E2 r.1),.list (rnL r.2)]
def N5 (w:Wy):PyData:=.tuple [.int (w.1:Nat),.int (w.2.1:Nat),.int w.2.2]
def K2 (m:Nat)(ws:!Wy):PyData:=.tuple [.int (m:Nat),.list (ws.map N5)]
def A0p:Ef->PyData
 | none=>.none
 | some (l,g,t)=>.tuple [.int l,.int g,.int t]
def J0 (ns:!Nat):!PyData:=ns.map λn=>.int (n:Nat)
def b7 (p:!Nat×Int):PyData:=.tuple [.list (J0 p.1),.int p.2]
local macro_rules|`(tactic|right)=>mqT "oD onD A0p S2 K2 N5 b7 Q0 "
local macro_rules|`(tactic|array_mem_dec)=>mqT "B5z dIl dIv B5v B5w B51 oD onD A0p S2 K2 N5 b7 Q0 "
local macro_rules|`(tactic|decreasing_trivial_pre_omega)=>mqT "Blk oD onD A0p S2 K2 N5 b7 Q0 "
theorem A83 {t:Tb}{p:Nat}(h:p<t.length):atI (E2 t) ((p:Nat):Int)=some (oD (gt t p)):=f7 (by unfold E2;rw[M2,B2s h];rfl)
theorem C5g {t:Rn}{p:Nat}(h:p<t.length):atI (rnL t) ((p:Nat):Int)=some (onD (gt t p)):=f7 (by unfold rnL;rw[M2,B2s h];rfl)
theorem B3q {ws:!Wy}{n:Nat}{w:Wy}(h:ws[n]?=some w):atI (ws.map N5) ((n:Nat):Int)=some (N5 w):=f7 (by rw[M2,h];rfl)
theorem B0j {n j:Nat}(h:j<n):ixN n ((j:Nat):Int)=some j:=by
 unfold ixN;rw[if_pos OO,if_pos (OO)];simp
theorem B3r {α:Type}{xs:!α}{x:α}(h:xs.getLast?=some x):atI xs (-1)=some x:=by
 let⟨ys,rfl⟩:=List.getLast?_eq_some_iff.mp h;exact B14 ys x
def D6z:DSp:=λds Q=>∃st lv ch:Int,ds=[.int st,.int lv,.int ch]/\Q (oD (K8 st lv ch))
def D60:DSp:=λds Q=>∃(st lv:Int)(cs:!Int),ds=[.int st,.int lv,.list (Z0 cs)]/\cs.length<=900/\Q (.list (Z0 (Q6 st lv cs)))
def D61:DSp:=λds Q=>∃st:Int,ds=[.int st]/\Q (A0p (some (0,0,st)))
def D62:DSp:=λds Q=>∃st c:Int,ds=[.int st,.int c]/\Q (A0p (A05 st c))
def D63:DSp:=λds Q=>∃(e:Ef)(x:Int),ds=[A0p e,.int x]/\Q (oD (N2 e x))
def D64:DSp:=λds Q=>∃a b:Ef,ds=[A0p a,A0p b]/\Q (A0p (o7 a b))
def D65:DSp:=λds Q=>∃(st:Int)(cs:!Int),ds=[.int st,.list (Z0 cs)]/\Q (A0p (fxF st cs))
def A25 (d:PyData):Bool:=A0m "int" d&&not (A0m "bool" d)
def C5h:DSp:=λds Q=>∃d,ds=[d]/\Q (.bool (A25 d))
def D66:DSp:=λds Q=>∃(m:Int)(n:Int),ds=[.int m,.int n]/\Q (.bool (decide (0<=n/\n<m)))
def D67:DSp:=λds Q=>∃a b:Option Int,ds=[oD a,oD b]/\Q (.bool (i7 a b))
def D68:DSp:=λds Q=>∃(st:Int)(t:Tb)(w:Wy),ds=[.int st,.list (E2 t),N5 w]/\w.1<t.length/\Q (oD (P8 st t w))
theorem C5i:FK P w base 1 T.bG (spD [.sh,.sh,.sh] D6z):=by
 refine K4 T.bG.F C41 rfl (λC cdv A outer s H E hr=>⟨_,(@J8 _ _ _ _ _ _ (K0 (pS (i:=3) C41.nd (L5 Q4 Y0 (A6 (pv 1)) (A6 (pv 2))))) (J8 (V9 (P6 A2o A75 (A6 (pv 3)) F0 (F6 _))
   (E9 (G7 P4))
   X2)
   (E9 (G7 (n8 B2f (K5 (A5e rfl) rfl T.eM A5l (E4 (A6 (pv 3)) (E4 (A6 (pv 0)) J5 A0) A0))))))),λds Q hl h=>?_⟩)
 let⟨st,lv,ch,rfl,q⟩:=h;left;unfold K8 at q;by_cases c:lv+ch<0
 ·rw[decide_eq_true c,if_pos rfl];rw[if_pos c] at q;exact q
 ·rw[decide_eq_false c,if_neg Q2];rw[if_neg c] at q;exact q
theorem B0k:FK P w base 1 T.aj (spD [.sh] C5h):=by
 refine K4 T.aj.F D43 rfl (λC cdv A outer s H E hr=>⟨_,(@E9 _ _ _ _ (@G7 _ _ _ _ _ (@A1j _ _ _ _ _ _ _ _ (B2k D2b (K5 B18 rfl T.bM A7z (A3 (pv 0) (A3 (A7p (v:=V.ty "int") rfl T.fS A9y rfl) A4 A0) A0))) (A0k (D1y (B2k D2c (K5 B18 rfl T.bM A7z (A3 (pv 0) (A3 (A7p (v:=V.ty "bool") rfl T.je D01 rfl) A4 A0) A0)))))))),λds Q hl h=>?_⟩);let⟨d,rfl,q⟩:=h;left;unfold A25 at q;cases d <;> exact q
theorem B9h:FK P w base 2 T.av (spD [.sh,.sh] D66):=by
 refine K4 T.av.F D49 rfl (λC cdv A outer s H E hr=>⟨_,(E9 (G7 (A1j (F8 (pcF T.aj (B0k T) hr (B8 (A6 (pv 1)) F7 A0))) (A0k (A90 X8 A2o F0 (A6 (pv 1)) (A6 (pv 0))))))),λds Q hl h=>?_⟩);let⟨m,n,rfl,q⟩:=h;left;exists _,rfl;left;by_cases c:0<=n
 ·by_cases c2:n<m
  ·simpa [c,c2,A25,A0m,tyD,C5h] using q
  ·simpa [c,c2,A25,A0m,tyD] using q
 ·simpa [c,A25,A0m,tyD] using q
theorem D69:FK P w base 1 T.cE (spD [.sh,.sh] D67):=by
 refine K4 T.cE.F D5g rfl (λC cdv A outer s H E hr=>⟨_,(E9 (G7 (A1j (A1i A5c A50 (A6 (pv 0)) P4 (F6 _)) (A0k (B5n (A1i t9 A2w (A6 (pv 1)) P4 (F6 _)) (A0k (A1i A3r A76 (A6 (pv 0)) (A6 (pv 1)) (F6 _)))))))),λds Q hl h=>?_⟩);let⟨a,b,rfl,q⟩:=h;cases a with
 | none=>left;exact q
 | some x=>
  cases b with
  | none=>left;exact q
  | some y=>left;exact q
theorem D7a:FK P w base 2 T.bN (spD [.sh,.sh,.sh] D68):=by
 refine K4 T.bN.F C43 rfl (λC cdv A outer s H E hr=>⟨_,(@J8 _ _ _ _ _ _ (K0 (pS (i:=3) C43.nd (E7 (pv 1) (E7 (pv 2) (E8 (cII T.g_START)))))) (@J8 _ _ _ _ _ _ (V9 (P6 t9 A2w (A6 (pv 3)) P4 (F6 _))
   (E9 (G7 P4))
   X2) (E9 (G7 (F8 (pcF T.bG (C5i T) hr (B8 (A6 (pv 0)) (B8 (A6 (pv 3)) (B8 (E7 (pv 2) (E8 (cII T.g_CHANGE))) F7 B0) A0) A0))))))),λds Q hl h=>?_⟩)
 let⟨st,t,w,rfl,hw,q⟩:=h;right;rw[A83 hw];unfold P8 at q;cases e:gt t w.1 with
 | none=>rw[e] at q;right;exact q
 | some l=>rw[e] at q;right;exact⟨_,_,_,rfl,q⟩
theorem D7b:FK P w base 1 T.cR (spD [.sh,.sh] D63):=by
 refine K4 T.cR.F D48 rfl (λC cdv A outer s H E hr=>⟨_,(@J8 _ _ _ _ _ _ (V9 (PW.pt (A5p (P6 t9 A2w (A6 (pv 0)) P4 (F6 _)) (A73 (P6 A2o A75 (A6 (pv 1)) (E7 (pv 0) (E8 (cII T.g_LEAST))) (F6 _)))))
   (E9 (G7 P4))
   X2) (E9 (G7 (n8 B2f (K5 (A5e rfl) rfl T.eM A5l (E4 (L5 Q4 Y0 (A6 (pv 1)) (E7 (pv 0) (E8 (cII T.g_GAIN)))) (E4 (E7 (pv 0) (E8 (cII T.g_TOP))) J5 B0) G6)))))),λds Q hl h=>?_⟩)
 let⟨e,x,rfl,q⟩:=h;rcases e with _ | ⟨l,g,t⟩
 ·right;exact q
 ·unfold N2 at q;dsimp only at q;right;by_cases c:x<l
  ·rw[if_pos c] at q;simp only[c,decide_true,if_true];exact q
  ·rw[if_neg c] at q;simp only[c,decide_false,B4h,if_false];exact q
theorem D7c:FK P w base 2 T.cS (spD [.sh,.sh] D64):=by
 refine K4 T.cS.F C42 rfl (λC cdv A outer s H E hr=>⟨_,(@J8 _ _ _ _ _ _ (@V9 _ _ _ _ _ _ _ _ _ (PW.pt (A5p (P6 t9 A2w (A6 (pv 0)) P4 (F6 _)) (A5p (P6 t9 A2w (A6 (pv 1)) P4 (F6 _)) (A73 (P6 A2o A75 (E7 (pv 0) (E8 (cII T.g_TOP))) (E7 (pv 1) (E8 (cII T.g_LEAST))) (F6 _)))))) (E9 (G7 P4)) X2) (@J8 _ _ _ _ _ _ (@K0 _ _ _ _ _ (@C7 _ _ 2 _ _ _ _ C42.nd rfl (B6 rfl) (@n8 _ _ _ _ _ _ B2g (@K5 _ _ _ _ _ _ _ _ _ (B1z rfl) rfl T.fm A7y (E4 (E7 (pv 0) (E8 (cII T.g_LEAST))) (E4 (L5 A5b B2c (E7 (pv 1) (E8 (cII T.g_LEAST))) (E7 (pv 0) (E8 (cII T.g_GAIN)))) J5 G6) B0) DD DD B0 ((A9 G6 A5)))) (by rfl) (by first | exact .inl rfl | exact .inr rfl | assumption))) (@E9 _ _ _ _ (@G7 _ _ _ _ _ (@Y6 _ _ _ _ _ _ (@E4 _ _ _ _ _ _ (A6 (pv 2)) (@E4 _ _ _ _ _ _ (L5 Q4 Y0 (E7 (pv 0) (E8 (cII T.g_GAIN))) (E7 (pv 1) (E8 (cII T.g_GAIN)))) (E4 (F8 (pcF T.cR (D7b T) hr (B8 (A6 (pv 1)) (B8 (E7 (pv 0) (E8 (cII T.g_TOP))) F7 B0) A0))) J5 C6) G6) A0)))))),λds Q hl h=>?_⟩);let⟨a,b,rfl,q⟩:=h;rcases a with _ | ⟨l1,g1,t1⟩
 ·right;exact q
 ·rcases b with _ | ⟨l2,g2,t2⟩
  ·right;exact q
  ·right;by_cases c:t1<l2
   ·rw[A96 (a:=(l1,g1,t1)) (b:=(l2,g2,t2)) c] at q;simp only[c,decide_true,if_true];exact q
   ·rw[A8r (a:=(l1,g1,t1)) (b:=(l2,g2,t2)) c] at q;simp only[c,decide_false,B4h,if_false];exists some (l2,g2,t2),t1,rfl;have e:oD (N2 (some (l2,g2,t2)) t1)=.int (if t2<t1+g2 then t2 else t1+g2):=by
     unfold N2;dsimp only;rw[if_neg c];rfl
    rw[e];left;simp only[A0p] at q;exact⟨DD,q⟩
theorem D7d:FK P w base 1 T.aO (spD [.sh] D61):=by
 refine K4 T.aO.F D46 rfl (λC cdv A outer s H E hr=>⟨_,(E9 (G7 (Y6 (E4 F0 (E4 F0 (E4 (A6 (pv 0)) J5 A0) F2) F2)))),λds Q hl h=>?_⟩);let⟨st,rfl,q⟩:=h;right;exact⟨DD,q⟩
theorem D7e:FK P w base 1 T.aY (spD [.sh,.sh] D62):=by
 refine K4 T.aY.F D47 rfl (λC cdv A outer s H E hr=>⟨_,(@J8 _ _ _ _ _ _ (V9 (P6 A2o A75 (L5 Q4 Y0 (A6 (pv 0)) (A6 (pv 1))) F0 (F6 _))
   (E9 (G7 P4))
   X2) (@E9 _ _ _ _ (@G7 _ _ _ _ _ (@Y6 _ _ _ _ _ _ (@E4 _ _ _ _ _ _ (n8 B2g (K5 (B1z rfl) rfl T.fm A7y (E4 F0 (E4 (A0l (A6 (pv 1))) J5 C2n) F2))) (E4 (A6 (pv 1)) (E4 (n8 B2f (K5 (A5e rfl) rfl T.eM A5l (E4 (A6 (pv 0)) (E4 (L5 Q4 Y0 (A6 (pv 0)) (A6 (pv 1))) J5 G6) A0))) J5 C6) A0) C6))))),λds Q hl h=>?_⟩)
 let⟨st,c,rfl,q⟩:=h;unfold A05 at q;right;by_cases d:st+c<0
 ·rw[if_pos d] at q;simp only[d,decide_true,if_true];exact q
 ·rw[if_neg d] at q;simp only[d,decide_false,B4h,if_false];exact⟨DD,q⟩
theorem D7f:FK P w base 3 T.bW (spD [.sh,.sh] D65):=by
 have ju:=@D7c P w K mg base T;have jv:=T.cS.b;refine K4 T.bW.F B3k rfl (λC cdv A outer s H E hr=>⟨_,(@J8 _ _ _ _ _ _ (K0 (pS (i:=2) B3k.nd (F8 (pcF T.aO (D7d T) hr (B8 (A6 (pv 0)) F7 A0))))) (@J8 _ _ _ _ _ _ (@A6q _ _ _ _ _ _ (@X6 _ _ _ _ _ _ _ _ T3 rfl (A34 (pv 1)) (A94 (N8 (i:=3) B3k.nd)) (@E9 _ _ _ _ (@K0 _ _ _ _ _ (@C7 _ _ 2 _ _ _ _ B3k.nd rfl (B6 rfl) (@F8 _ _ _ _ _ _ _ (@B3 _ _ _ _ _ _ _ _ _ _ _ _ _ _ _ _ ju (hr.mono DD) rfl T.cS.m T.cS.F.kp jv .nil A7 (B8 (A6 (pv 2)) (B8 (F8 (pcF T.aY (D7e T) hr (B8 (A6 (pv 0)) (B8 (A6 (pv 3)) F7 A0) A0))) F7 C6) A0) DD A0 ((A9 C6 A5)))) (by rfl) (by first | exact .inl rfl | exact .inr rfl | assumption)))) (by intro _;rfl))) (E9 (G7 (A6 (pv 2)))))),λds Q hl h=>?_⟩);let⟨st,cs,rfl,q⟩:=h;left;exists st,rfl
 array_get_dec
 refine⟨λr ρ=>∃(cs':!Int)(e:Ef)(z0 z:Sl),r=Z0 cs'/\ρ=[Sl.sh (.int st),z0,Sl.sh (A0p e),z]/\Q (A0p (foF st e cs')),⟨cs,_,_,_,rfl,rfl,q⟩,?_,?_⟩
 ·rintro x r ρ ⟨cs',e,z0,z,h1,rfl,q⟩;cases cs' with
  | nil=>cases h1
  | cons c cs'=>
   cases (show x::r=PyData.int c::Z0 cs' from h1)
   sizeOf_list_dec
   exists _,_,rfl;left;exists _,_,rfl;exact⟨cs',_,_,_,rfl,rfl,q⟩
 ·rintro ρ ⟨cs',e,z0,z,h1,rfl,q⟩;cases cs' with
  | nil=>left;exact q
  | cons c cs'=>cases h1
theorem D7g:FK P w base 2 T.aD (spD [.sh,.sh,.sh] D60):=by
 refine K4 T.aD.F B3j rfl (λC cdv A outer s H E hr=>⟨_,(@J8 _ _ _ _ _ _ (A2z (pS (i:=3) B3j.nd (Y7 (E4 (A6 (pv 1)) J5 A0)))) (@J8 _ _ _ _ _ _ (@A6q _ _ _ _ _ _ (@X6 _ _ _ _ _ _ _ _ T3 rfl (A34 (pv 2)) (A94 (N8 (i:=4) B3j.nd)) (@J8 _ _ _ _ _ _ (K0 (pS (i:=5) B3j.nd (F8 (pcF T.bG (C5i T) hr (B8 (A6 (pv 0)) (B8 (E7 (pv 3) (A0l F0)) (B8 (A6 (pv 4)) F7 A0) B0) A0))))) (J8 (V9 (P6 t9 A2w (A6 (pv 5)) P4 (F6 _))
   (E9 (G7 (A6 (pv 3))))
   X2)
   (E9 (A79 (N7 (L8 S9 U5 U6 T6 (pv 3) (A3 (A6 (pv 5)) A4 A0))))))) (by intro _;rfl))) (E9 (G7 (A6 (pv 3)))))),λds Q hl h=>?_⟩)
 let⟨st,lv,cs,rfl,hn,q⟩:=h
 array_get_dec
 refine⟨DD,λr ρ=>∃(cs' ys:!Int)(l:Int)(z0 z1 z2:Sl),r=Z0 cs'/\ρ=[Sl.sh (.int st),Sl.sh (.int lv),z0,Sl.ow (Z0 (ys++[l])),z1,z2]/\ys.length+cs'.length=cs.length/\ys++Q6 st l cs'=Q6 st lv cs,⟨cs,[],lv,_,_,_,rfl,rfl,by simp,rfl⟩,?_,?_⟩
 ·rintro x r ρ ⟨cs',ys,l,z0,z1,z2,h1,rfl,h2,h3⟩;cases cs' with
  | nil=>cases h1
  | cons c cs'=>
   cases (show x::r=PyData.int c::Z0 cs' from h1);have hlast:atI (Z0 (ys++[l])) (-1)=some (.int l):=B3r (by unfold Z0;simp)
   sizeOf_list_dec
   rw[hlast];left;exists _,_,_,rfl;cases e:K8 st l c with
   | none=>rw[D3j e] at h3;right;rw[h3];exact q
   | some v=>rw[D3k e] at h3;right;refine⟨by unfold Z0;rw[B7,L3];simp at h2 ⊢;omega,cs',ys++[l],v,z0,_,_,rfl,by rw[show Z0 (ys++[l]++[v])=Z0 (ys++[l])++[.int v] by unfold Z0;simp],by simp at h2 ⊢;omega,by rw[<-h3];simp⟩
 ·rintro ρ ⟨cs',ys,l,z0,z1,z2,h1,rfl,h2,h3⟩;cases cs' with
  | nil=>left;have e:ys++[l]=Q6 st lv cs:=h3;rw[e];exact q
  | cons c cs'=>cases h1
theorem C5j {H H':Hp}(k:Kq none H H'):Same H H':=λb o e=>k b o e λq hq=>nomatch hq
abbrev TT0:Addr->Prop:=λJ=>True
theorem A26 {a R:TS}{D:A0x}{σ:Lake.St}{H:Hp}(h:∀W:TS,W=R->A9n a W D σ H):A9n a R D σ H:=h R rfl
theorem N6 (W:TS){a R:TS}{D:A0x}{σ:Lake.St}{H:Hp}(e:W=A9n a R)(h:∀W':TS,W'=R->A9n a W' D σ H):W D σ H:=by rw[e];exact h R rfl
abbrev S3 (H:Hp):Addr->Prop:=λb=>H b=none\/∃xs,H b=some (.tup xs)
theorem Z1 {ms:!Md}{sp:DSp}{vs:!V}{ds:!PyData}{H:Hp}{Q:VK}{E:XK}(Qd:PyData->Prop)(ar:y7 TT0 none H ms vs ds)(h:sp ds Qd)(k:∀d v H',Qd d->ThV TT0 H' v d->Same H H'->Q v H'):spD ms sp vs H Q E:=
 ⟨TT0,none,ds,Qd,⟨λJ J=>trivial,λJ J J=>trivial⟩,λq hq=>(nomatch hq),λq hq=>(nomatch hq),ar,h,λd v H' a b c J=>k d v H' a b (C5j c)⟩
theorem D7h {sp:DSp}{H:Hp}{Q:VK}{E:XK}{hd hl:Addr}(Qd:PyData->Prop)(d:Hd H hd hl)(h:sp [.none] Qd)(k:∀d v H',Qd d->ThV (λb=>b≠hd) H' v d->Kq (some (hd,hl)) H H'->Hd H' hd hl->Q v H'):spD [.hd] sp [.ref hd] H Q E:=by
 have d0:=d;let⟨_,_,_,_,_,_,_,_,e⟩:=d;exact⟨λb=>b≠hd,some (hd,hl),[.none],Qd,⟨(λb z y=>by rw[y,e] at z;cases z),(λb xs z y=>by rw[y,e] at z;cases z)⟩,λq hq=>by cases hq;exact λz=>z rfl,λq hq=>by cases hq;exact d0,.cons ⟨_,rfl,rfl⟩ .nil,h,λd v H' a b c z=>k d v H' a b c (z _ rfl)⟩
theorem M4 {F G:Addr->Prop}{H H':Hp}:∀{t:Tb}{us:!V},C3 F H us (E2 t)->C3 G H' us (E2 t)
 | [],_,h=>by cases h;exact .nil
 | o::t,_,h=>by
  cases h with
  | cons x r=>
   cases o with
   | none=>cases x;exact .cons .non (M4 r)
   | some i=>cases x;exact .cons (.int _) (M4 r)
theorem C5k {F G:Addr->Prop}{H H':Hp}:∀{ns:!Nat}{us:!V},C3 F H us (J0 ns)->Y9 G H' us (J0 ns) []
 | [],_,h=>by cases h;exact .nil
 | n::ns,_,h=>by
  cases h with
  | cons x r=>cases x;exact Y9.cons (fp:=[]) (fps:=[]) (.int _) (C5k r)
theorem D7i {F G:Addr->Prop}{H H':Hp}{ns:!Nat}{us:!V}(t:C3 F H us (J0 ns)):C3 G H' us (J0 ns):=(C5k (G:=G) (H':=H') t).th
theorem _root_.Lake.Same.early {H H':Hp}(s:Same H H'){b:Addr}(h:H' b=none):H b=none:=by
 cases z:H b with
 | none=>rfl
 | some o=>rw[s _ _ z] at h;cases h
theorem C5l {H H':Hp}(s:Same H H'){b:Addr}(h:S3 H' b):S3 H b:=by
 rcases h with h | ⟨xs,h⟩
 ·exact .inl (s.early h)
 ·cases z:H b with
  | none=>exact .inl z
  | some o=>have:=s _ _ z;rw[h] at this;cases this;exact .inr ⟨xs,z⟩
theorem B0l {H H':Hp}(s:Same H H'){b:Addr}{xs:!V}(h:S3 H b)(e:H' b=some (.lst xs)):H b=none:=by
 rcases h with h | ⟨ys,h⟩
 ·exact h
 ·rw[s _ _ h] at e;cases e
theorem A84 {ms:!Md}{sp:DSp}{vs:!V}{ds:!PyData}{H:Hp}{Q:VK}{E:XK}{hd hl:Addr}(Qd:PyData->Prop)(d:Hd H hd hl)(ar:y7 (λb=>b≠hd) (some (hd,hl)) H ms vs ds)(h:sp (.none::ds) Qd)(k:∀d v H',Qd d->ThV (λb=>b≠hd) H' v d->Kq (some (hd,hl)) H H'->Hd H' hd hl->Q v H'):spD (.hd::ms) sp (.ref hd::vs) H Q E:=by
 have d0:=d;let⟨_,_,_,_,_,_,_,_,e⟩:=d;exact⟨λb=>b≠hd,some (hd,hl),.none::ds,Qd,⟨(λb z y=>by rw[y,e] at z;cases z),(λb xs z y=>by rw[y,e] at z;cases z)⟩,λq hq=>by cases hq;exact λz=>z rfl,λq hq=>by cases hq;exact d0,.cons ⟨_,rfl,rfl⟩ ar,h,λd v H' a b c z=>k d v H' a b c (z _ rfl)⟩
def spN (sp:DSp):Sp:=λvs H Q J=>∃ds Qd,C3 TT0 H vs ds/\sp ds Qd/\∀d v H',Qd d->ThV (S3 H) H' v d->Same H H'->Q v H'
theorem _root_.Lake.Same.upd {H:Hp}{p:Addr}{o:HO}(h:H p=none):Same H (upd H p o):=λb o' e=>by rw[C4 (e7 e h)];exact e
theorem _root_.Lake.Same.tr {H H1 H2:Hp}(a:Same H H1)(b:Same H1 H2):Same H H2:=λc o e=>b _ _ (a _ _ e)
theorem ThV.keep {F:Addr->Prop}{H H':Hp}{v:V}{d:PyData}(t:ThV F H v d)(s:Same H H'):ThV F H' v d:=t.mv λb o z e=>⟨z,s _ _ e⟩
theorem C3.keep {F:Addr->Prop}{H H':Hp}{v:!V}{d:!PyData}(t:C3 F H v d)(s:Same H H'):C3 F H' v d:=t.mv λb o z e=>⟨z,s _ _ e⟩
theorem ThV.any {F:Addr->Prop}{H:Hp}{v:V}{d:PyData}(t:ThV F H v d):ThV TT0 H v d:=t.mv λb o z e=>⟨trivial,e⟩
theorem B3s {F:Addr->Prop}{H:Hp}:∀{vs:!V}{ds:!PyData}{i:Nat}{x:V},C3 F H vs ds->vs[i]?=some x->∃d,ds[i]?=some d/\ThV F H x d
 | _,_,_,_,.nil,e=>nomatch e
 | _,_,0,_,.cons x _,e=>by cases e;exact⟨_,rfl,x⟩
 | _,_,i+1,_,.cons _ t,e=>B3s (i:=i) t e
theorem D7j {x:Str}{nn j:Nat}{σ:Lake.St}{tt:CA->TT}{te:CA->TE}{H1:Hp}{Q:!V->Hp->Prop}(Pv:Nat->!V->Hp->Prop)(hz:x.length<sizeLine)(h0:Pv 0 [] H1)
  (hl:∀i ys H,Pv i ys H->ys.length<=i)
  (hs:∀i c ys H,(cp x)[i]?=some c->Pv i ys H->∀a:CA,tt a ((T7 nn j σ).set j (some (.str ⟨#[c]⟩))) H λb H2=>if b=true then te a ((T7 nn j σ).set j (some (.str ⟨#[c]⟩))) H2 λy H3=>Pv (i+1) (ys++[y]) H3 else Pv (i+1) ys H2)
  (hd:∀ys H,Pv x.length ys H->Q ys H):A2s σ nn j tt te (Its x) H1 Q:=by
 refine⟨λi m ys H=>m=x.length-i/\i<=x.length/\Pv i ys H,⟨x.length,by simp,Q7 _,h0⟩,?_⟩;rintro i m ys H ⟨rfl,hi,p⟩;have hy:=hl i ys H p;exists OO;by_cases hlt:i<x.length
 ·refine .inr ⟨hlt,Pv (i+1),λys' H' p'=>⟨x.length-(i+1),OO,rfl,hlt,p'⟩,λy H' z=>?_⟩;let⟨rfl,c,hc,rfl⟩:=z;exact hs i c ys _ (by rw[cp,B08];exact hc) p
 ·have e:i=x.length:=by omega
  subst e;exact .inl ⟨G3 _,hd ys H p⟩
def spB (f:Str->Bool)(P0:Str->Prop):Sp:=λvs H Q J=>∃x,vs=[.str x]/\P0 x/\∀H',Same H H'->Q (.bl (f x)) H'
theorem sz1 {x:Str}(h:x.length<=1000000):x.length<sizeLine:=A2f h (by rw[sizeLine_eq];decide)
theorem fgL(k:Nat):decide (k∈[48,49,50,51,52,53,54,55,56,57])=(decide (48<=k)&&decide (k<=57)):=by
 rw[<-Bool.decide_and];exact decide_eq_decide.mpr ((List.mem_range'_1 (s:=48) (n:=10)).trans (and_congr_right λJ=>Nat.lt_succ_iff))
theorem D7k:FK P w base 1 T.aN (spB (λx=>a9 (cp x)) λx=>x.length<=1000000):=by
 refine T.aN.F.ok D54 (λJ H Q J h=>?_) (λJ J J s H J Q J hr h=>?_)
 ·let⟨x,rfl,_⟩:=h;rfl
 ·let⟨x,rfl,hl,told⟩:=h;have hz:=sz1 hl;refine⟨_,(C0 (N9 (M5 (PW.pt (A3p (U8 (B1x X8 X8 B4 (K5 D0l rfl T.aP T9 (A3 (pv 0) A4 A0)) (cII T.g_MOST_FIGURES))) (A3o (U8 (W6 (K5 (B5d rfl) rfl T.ip B5f (A3 (W9 (N1.new (N:=["word"]) (osc:=B5 B3c) KK) rfl (D4m (pv 0)) (λJ=>m9) (λJ=>(A3s C9s (pv 1) (D0 (v:=V.str "0123456789") rfl T.g_FIGURES.m ⟨_,rfl⟩) (by with_unfolding_all rfl)))) A4 A0j)))))))
   (C9 (G0 A48))
   M9))
   (C9 (G0 (C05 (A3s m7 (pv 0) F9 (F6 _)) (B1s (A3s A9s (E6 C16 (pv 0) B4) F9 (F6 _))))))),?_⟩
  ac_nf
  refine⟨fun σ' H'=>σ'=[some (.str x)]/\Same H H'/\1<=x.length/\x.length<=60/\(cp x).all o9=true,?_,?_⟩
  ·exists _,rfl,x,rfl,A3h hz,_,_,rfl,rfl,_,rfl;have fin:a9 (cp x)=false->Q (.bl false) H:=λe=>by
    have:=told H λJ J z=>z;dsimp only at this;rw[e] at this;exact this
   by_cases c1:(1:Int)<=(x.length:Int)
   ·rw[decide_eq_true c1];refine L4 ⟨_,_,rfl,rfl,_,rfl,?_⟩;by_cases c2:(x.length:Int)<=60
    ·rw[decide_eq_true c2];refine G5 ⟨_,rfl,x,rfl,?_⟩;refine D7j (λi ys Hn=>Hn=H/\ys=((cp x).take i).map λc=>V.bl (o9 c)) hz ⟨rfl,rfl⟩ ?_ ?_ ?_
     ·rintro i ys Hn ⟨_,rfl⟩;rw[B7,X5];exact B1j _ _
     ·rintro i k ys Hn hk ⟨rfl,rfl⟩ ca;unfold A00;refine L4 ⟨_,rfl,_,_,rfl,rfl,rfl,?_⟩;rw[A1t,hk,L7];congr 1;show [V.bl (not ((Builtin.Str.occurrences (Str.ofString "0123456789") ⟨#[k]⟩ 0 10 1).isEmpty))]=_;rw[show (10:Nat)=(Str.ofString "0123456789").length by decide,StrLaws.found_one];show [V.bl (decide (k∈[48,49,50,51,52,53,54,55,56,57]))]=[V.bl (o9 k)];exact congrArg (λb=>[V.bl b]) (fgL k)
     rintro ys Hn ⟨rfl,rfl⟩ p hp;have sp:=Same.upd (o:=.lst (((cp x).take x.length).map λc=>V.bl (o9 c))) hp;refine⟨p,(cp x).map o9,rfl,SqL.of (B9.trans ?_),_,rfl,?_⟩
     ·rw[Q8,W2,A1v];rfl
     rw[List.all_map];cases e:(cp x).all o9 with
     | true=>rw[show ((cp x).all (id ∘ o9))=true from e];exact G5 ⟨rfl,sp,OO,OO,rfl⟩
     | false=>
      rw[show ((cp x).all (id ∘ o9))=false from e];refine L4 ?_;have:=told _ sp;dsimp only at this;rw[show a9 (cp x)=false from Bool.eq_false_iff.mpr λz=>by
       have:=(A4g z).2.2.1;rw[C4o this] at e;cases e] at this
      exact this
    ·rw[decide_eq_false c2];exact L4 (fin (Bool.eq_false_iff.mpr λe=>by have:=(A4g e).2.1;rw[W2] at c2;omega))
   ·rw[decide_eq_false c1];exact G5 ⟨_,rfl,L4 (fin (Bool.eq_false_iff.mpr λe=>by have:=(A4g e).1;rw[W2] at c1;omega))⟩
  ·rintro σ' H' ⟨rfl,s,l1,l2,al⟩;have told':=told H' s;exists _,rfl,rfl,_,rfl;by_cases c:V.str x=V.str (Str.ofString "0")
   ·rw[decide_eq_true c];refine L4 ?_;cases c;exact told'
   ·rw[decide_eq_false c];refine G5 ?_;have hc:∃k,(cp x)[0]?=some k:=⟨_,M8 (by rw[<-W2];omega)⟩;let⟨k,hk⟩:=hc;refine⟨_,rfl,x,0,k,rfl,rfl,A3h hz,?_,rfl,?_⟩
    ·exact f7 (j:=0) hk
    ·show Q (V.bl (not (decide (V.str ⟨#[k]⟩=V.str (Str.ofString "0"))))) H';have e:(not (decide (V.str ⟨#[k]⟩=V.str (Str.ofString "0"))))=a9 (cp x):=by
      rw[A3i,C0q,decide_eq_false_iff_not];have hh:(cp x).head?=some k:=by rw[List.head?_eq_getElem?];exact hk
      constructor
      ·intro n;unfold a9;simp only[Z2,A9k,decide_eq_true_eq];refine⟨⟨⟨l1,l2⟩,al⟩,.inr λz=>n ?_⟩;rw[hh] at z;cases z;rfl
      ·intro f z;cases z;rcases (A4g f).2.2.2 with z | z
       ·exact c (congrArg V.str (Y2 z))
       ·exact z hh
     rw[e];exact told'
theorem D7l:FK P w base 2 T.bZ (spB A06 λx=>x.length<=1000000):=by
 refine T.bZ.F.ok D55 (λJ H J J h=>?_) (λJ J J s H J Q J hr h=>?_)
 ·let⟨x,rfl,_⟩:=h;rfl
 ·let⟨x,rfl,hl,told⟩:=h;have hz:=sz1 hl;refine⟨_,(C0 (N9 (M5 (W6 (L8 A3m PySem.F.slot_str_startswith PySem.F.type_str_startswith D4j (pv 0) (A3 F9 A4 F2)))
   (C9 (G0 (B4u (pcF T.aN (D7k T) hr (A3 (A3t C4h (pv 0) (A5i B4) A5h) A4 B0)) (B1s (A3s A9s (pv 0) F9 (F6 _))))))
   M9))
   (C9 (G0 (pcF T.aN (D7k T) hr (A3 (pv 0) A4 A0))))),?_⟩
  ac_nf
  have G:∀(y:Str)(Hx:Hp)(Qv:VK),y.length<=1000000->(∀H',Same Hx H'->Qv (.bl (a9 (cp y))) H')->spB (λx=>a9 (cp x)) (λx=>x.length<=1000000) ([.str y]++[]) Hx Qv E0:=λy Hx Qv hy q=>⟨y,rfl,hy,q⟩;have hst:Txt.startswith x (Str.ofString "-")=decide ((cp x).head?=some 45):=by
   rw[A3i,decide_eq_true_eq];unfold Txt.startswith;rw[Z2,decide_eq_true_eq];have:=StrLaws.subAt_one x 45 0;rw[List.head?_eq_getElem?];exact this
  refine⟨fun σ' H'=>σ'=[some (.str x)]/\H'=H/\(cp x).head?≠some 45,?_,?_⟩
  ·exists _,rfl,rfl,_,_,rfl,rfl,_,rfl;rw[hst];by_cases c:(cp x).head?=some 45
   ·rw[decide_eq_true c];have h1:1<=x.length:=by
     rw[W2];cases e:cp x with
     | nil=>rw[e] at c;cases c
     | cons _ _=>simp
    have hs:=D4z x h1;have hls:(Txt.slice x (some 1) none).length<=1000000:=by
     rw[W2,hs,List.length_tail,<-W2];omega
    have eB:A06 x=(a9 (cp x).tail&&decide ((cp x).tail≠[48])):=by unfold A06 nmL;rw[if_pos c]
    refine L4 ⟨_,rfl,_,rfl,x,rfl,A3h hz,?_⟩;refine⟨_,rfl,hls,λH' s=>?_⟩;have told':=told H' s;rw[eB] at told';exists _,rfl;rw[show (λx=>a9 (cp x)) (Txt.slice x (some 1) none)=a9 (cp x).tail by dsimp only;rw[hs]];cases e:a9 (cp x).tail with
    | false=>rw[e] at told';exact G5 told'
    | true=>
     rw[e] at told';refine L4 ⟨_,rfl,rfl,?_⟩;rw[show (not (decide (V.str x=V.str (Str.ofString "-0"))))=(true&&decide ((cp x).tail≠[48])) by
      rw[Bool.true_and,A3i,C0q,decide_eq_false_iff_not,decide_eq_true_eq];constructor
      ·intro n z;refine n (congrArg V.str (Y2 ?_));cases q:cp x with
       | nil=>rw[q] at c;cases c
       | cons a r=>rw[q] at c z;cases c;rw[show r=[48] from z];rfl
      ·intro n z;rw[V.str.inj z] at n;exact n (DD)]
     exact told'
   ·rw[decide_eq_false c];exact G5 ⟨rfl,rfl,c⟩
  ·rintro σ' _ ⟨rfl,rfl,c⟩;refine⟨_,rfl,G x _ _ hl λH' s=>?_⟩;have:=told H' s;unfold A06 nmL at this;rw[if_neg c] at this;exact this
def D7m:Sp:=λvs H Q J=>∃x,vs=[.str x]/\x.length<=1000000/\A06 x=true/\∀H',Same H H'->Q (.int (A8w x)) H'
theorem C5m:FK P w base 3 T.aU D7m:=by
 refine T.aU.F.ok D56 (λJ H J J h=>?_) (λJ J J s H J Q J hr h=>?_)
 ·let⟨x,rfl,_⟩:=h;rfl
 ·let⟨x,rfl,hl,hn,told⟩:=h;have hz:=sz1 hl;refine⟨_,(C0 (N9 (M5 (U8 (W6 (pcF T.bZ (D7l T) hr (A3 (pv 0) A4 A0))))
   (C9 Y5)
   M9))
   (C9 (G0 (M6 C4f rfl T.fS A9y (A3 (pv 0) A4 A0))))),?_⟩
  ac_nf
  refine⟨fun σ' H'=>σ'=[some (.str x)]/\Same H H',?_,?_⟩
  ·refine⟨_,rfl,x,rfl,hl,λH' s=>⟨_,rfl,?_⟩⟩;rw[hn];exact G5 ⟨rfl,s⟩
  ·rintro σ' H' ⟨rfl,s⟩;let⟨e,l⟩:=B6s hn;exact⟨_,rfl,x,_,rfl,e,OO,told H' s⟩
def lvW:Option Int->Str
 | none=> "-"
 | some n=>itx n
def D7n:Sp:=λvs H Q J=>∃x o,vs=[.str x]/\x=lvW o/\(∀n,o=some n->n.natAbs<10^60)/\∀H',Same H H'->Q (match o with | none=>.non | some n=>.int n) H'
theorem D7o:FK P w base 4 T.cr D7n:=by
 refine T.cr.F.ok D57 (λJ H J J h=>?_) (λJ J J s H J Q J hr h=>?_)
 ·let⟨x,o,rfl,_⟩:=h;rfl
 ·let⟨x,o,rfl,rfl,hn,told⟩:=h;exists _,(C9 (G0 (A7q (P9 m7 (pv 0) (D0 (v:=V.str "-") rfl T.g_NONE.m ⟨_,rfl⟩) (F6 _)) A1x (pcF T.aU (C5m T) hr (A3 (pv 0) A4 A0)))))
  ac_nf
  exists _,rfl,rfl,_,rfl;cases o with
  | none=>rw[show decide (V.str (lvW none)=V.str (Str.ofString "-"))=true from decide_eq_true rfl];exact L4 (told H λJ J z=>z)
  | some n=>
   have h60:=hn n rfl;rw[show decide (V.str (lvW (some n))=V.str (Str.ofString "-"))=false from decide_eq_false λz=>by
    have e:itx n=Str.ofString "-" :=V.str.inj z;have:=A6z h60;rw[e] at this;exact absurd this (DD)]
   refine G5 ⟨_,rfl,itx n,rfl,by have:=R6 h60;omega,A6z h60,λH' s=>?_⟩;rw[B6v h60];exact told H' s
def wrT:V->Str
 | .non=> "-"
 | .int n=>itx n
 | .str y=>y
 | _=>Str.empty
def A85:V->Prop
 | .non=>True
 | .int n=>n.natAbs<10^60
 | .str y=>y.length<=60
 | _=>False
theorem C5n:∀{v:V},A85 v->(wrT v).length<=400
 | .non,_=>by show Str.length "-" <=400;decide
 | .int n,h=>by have:=R6 h;show (itx n).length<=400;omega
 | .str y,h=>M0 h (DD)
def C5o:Sp:=λvs H Q J=>∃v,vs=[v]/\A85 v/\∀H',Same H H'->Q (.str (wrT v)) H'
theorem D7p:FK P w base 1 T.cH C5o:=by
 refine T.cH.F.ok D58 (λJ H J J h=>?_) (λJ J J J H J Q J hr h=>?_)
 ·let⟨v,rfl,_⟩:=h;rfl
 ·let⟨v,rfl,hw,told⟩:=h;exists _,(C9 (G0 (A7q (P9 t9 (pv 0) A1x (F6 _)) (D0 (v:=V.str "-") rfl T.g_NONE.m ⟨_,rfl⟩) (M6 C4i rfl T.aQ U0 (A3 (pv 0) A4 A0)))))
  ac_nf
  have told0:=told H λJ J z=>z;exists _,rfl,rfl;cases v with
  | non=>exact⟨_,rfl,L4 told0⟩
  | int n=>exact⟨_,rfl,G5 ⟨_,rfl,.inl ⟨n,rfl,V4 hw,told0⟩⟩⟩
  | str y=>exact⟨_,rfl,G5 ⟨_,rfl,.inr ⟨_,rfl,told0⟩⟩⟩
  | bl b=>exact hw.elim
  | byt b=>exact hw.elim
  | flt b=>exact hw.elim
  | ref a=>exact hw.elim
  | ty n=>exact hw.elim
abbrev L1 (ws:!Str):Str:=Str.join " " ws
theorem tj (ws:!Str):Txt.join " " ws=L1 ws:=StrLaws.glued_eq_join _ _
theorem B3t {K:A8}{a0:Addr}{xs:!V}{nn j:Nat}{σ:Lake.St}{te:CA->TE}{H1:Hp}{Q:!V->Hp->Prop}(f:V->Str)(hz:xs.length<sizeLine)(hk:∀H,Same H1 H->SqL K H a0 xs)
  (hs:∀x∈xs,∀H,Same H1 H->∀(a:CA)(R:V->Hp->Prop),(∀H',Same H H'->R (.str (f x)) H')->te a ((T7 nn j σ).set j (some x)) H R)
  (hd:∀H,Same H1 H->Q (xs.map λx=>.str (f x)) H):A2s σ nn j (λJ=>A00) te (Itl K a0) H1 Q:=by
 refine A7x (λi ys Hn=>Same H1 Hn/\ys=(xs.take i).map λx=>.str (f x)) hz ⟨λJ J z=>z,rfl⟩ ?_ ?_ ?_
 ·rintro i ys Hn _ ⟨s,rfl⟩;exact⟨by rw[B7,X5];exact B1j _ _,hk _ s⟩
 ·rintro i x ys Hn hx ⟨s,rfl⟩ ca;unfold A00;refine L4 (hs x (U4 hx) Hn s ca _ λH' s'=>⟨s.tr s',?_⟩);rw[A1t,hx,L7];rfl
 ·rintro ys Hn ⟨s,rfl⟩;rw[A1v];exact hd Hn s
def D7q:Sp:=λvs H Q J=>∃l ws,vs=[.ref l]/\H l=some (.lst (ws.map V.str))/\(∀w∈ws,w.length<=400)/\ws.length<=1000/\∀H',Same H H'->Q (.str (L1 ws)) H'
def C5p:Sp:=λvs H Q J=>∃l us,vs=[.ref l]/\H l=some (.lst us)/\(∀u∈us,A85 u)/\us.length<=900/\∀H',Same H H'->Q (.str (L1 (us.map wrT))) H'
def mvW (a b:!Nat):Str:=L1 ((("fell" : Str)::a.map (λn:Nat=>itx (n:Int)))++(("rose" : Str)::b.map λn:Nat=>itx (n:Int)))
def C5q:Sp:=λvs H Q J=>∃v a b,vs=[v]/\ThV TT0 H v (.tuple [.list (J0 a),.list (J0 b)])/\(∀n∈a,n<12)/\(∀n∈b,n<12)/\a.length<=12/\b.length<=12/\∀H',Same H H'->Q (.str (mvW a b)) H'
def A27 (x a b c:Int):Str:=Str.empty++itx x++ ":" ++itx a++ ">" ++itx b++ ":" ++itx c
def D7r:Sp:=λvs H Q J=>∃t x a b c,vs=[.ref t]/\H t=some (.tup [.int x,.int a,.int b,.int c])/\x.natAbs<10^60/\a.natAbs<10^60/\b.natAbs<10^60/\c.natAbs<10^60/\∀H',Same H H'->Q (.str (A27 x a b c)) H'
theorem C5r {n:Nat}:∀{ws:!Str},(∀w∈ws,w.length<=n)->(ws.map (λy=>y.length)).sum<=ws.length*n
 | [],_=>by simp
 | w::r,h=>by
  have h1:=h w E5;have h2:=C5r (ws:=r) λv hv=>h v (E3 _ hv);rw[K9,C0w,J6,Nat.succ_mul];omega
theorem A86 {ws:!Str}(h:∀w∈ws,w.length<=400)(h1:ws.length<=1000):(ws.map (λy=>y.length)).sum+ws.length*Str.length " " <=16777216:=by
 have h2:=C5r h;have h3:ws.length*400<=1000*400:=Nat.mul_le_mul_right _ h1;have h4:Str.length " " = 1:=by decide
 rw[h4];omega
theorem b8 (a b:Str):(a++b).length=a.length+b.length:=by rw[W2,W2,W2,A0a,L3]
variable {H:Hp}
section
variable {σ:Lake.St}{acc s:Str}{tr:TJ}{Q:Str->Hp->Prop}{k n':Nat}{n:Int}
theorem A4j {ta:TE}(hn:n.natAbs<10^60)(ha:acc.length<=k)(hk:k<=10000)(q:(acc++itx n).length<=k+61->tr σ H (acc++itx n) Q)(ht:∀R:V->Hp->Prop,R (.int n) H->ta σ H R):tJc (C4c ta) tr σ H acc Q:=by
 have l:=R6 hn;have l2:(acc++itx n).length<=k+61:=by rw[b8];omega
 exact ht _ ⟨_,.num n (V4 hn),_,rfl,M0 l2 (by rw[sizeLine_eq];omega),q l2⟩
theorem A87 (hs:s.length<=n')(ha:acc.length<=k)(hk:k+n'<=20000)(q:(acc++s).length<=k+n'->tr σ H (acc++s) Q):tJc (tC (.str s)) tr σ H acc Q:=by
 have l2:(acc++s).length<=k+n':=by rw[b8];omega
 exact⟨_,rfl,M0 l2 (by rw[sizeLine_eq];omega),q l2⟩
end
theorem B9i:FK P w base 1 T.bb D7q:=by
 refine T.bb.F.ok D59 (λJ H J J h=>?_) (λJ J J J H J Q J hr h=>?_)
 ·let⟨l,ws,rfl,_⟩:=h;rfl
 ·let⟨l,ws,rfl,el,hw,hl,told⟩:=h;exists _,(C9 (G0 (L8 A3m B1k B1l A8v F9 (A3 (pv 0) A4 A0))))
  ac_nf
  exists rfl,_,rfl,_,l,ws,rfl,rfl,SqL.of el,A86 hw hl;rw[tj];exact told H λJ J z=>z
theorem B9j:FK P w base 2 T.ay C5p:=by
 refine T.ay.F.ok D6a (λJ H J J h=>?_) (λJ J J s H J Q J hr h=>?_)
 ·let⟨l,us,rfl,_⟩:=h;rfl
 ·let⟨l,us,rfl,el,hw,hl,told⟩:=h;refine⟨_,(C9 (G0 (pcF T.bb (B9i T) hr (A3 (W9 (N1.new (N:=["table"]) (osc:=B5 B3d) KK) rfl (U9 (pv 0)) (λJ=>m9) (λJ=>(pcF T.cH (D7p T) hr (A3 (pv 1) A4 A0)))) A4 A0j)))),?_⟩
  ac_nf
  exists _,rfl,l,rfl,⟨us,SqL.of el⟩;refine B3t wrT (A2f hl (by rw[sizeLine_eq];decide)) (λHx s=>SqL.of (s _ _ el)) (λx hx Hx s ca R hR=>⟨_,rfl,x,rfl,hw x hx,hR⟩) λHx s p hp=>?_;have sp:=Same.upd (o:=.lst (us.map λx=>V.str (wrT x))) hp;refine⟨p,us.map wrT,rfl,B9.trans (by rw[Q8];rfl),λv hv=>?_,by rw[B7];omega,λH' s'=>told H' ((s.tr sp).tr s')⟩;let⟨u,hu,rfl⟩:=L0.mp hv;exact C5n (hw u hu)
theorem B9k {F:Addr->Prop}{H:Hp}:∀{ns:!Nat}{us:!V},C3 F H us (J0 ns)->us=ns.map λn:Nat=>V.int (n:Int)
 | [],_,h=>by cases h;rfl
 | n::ns,_,h=>by
  cases h with
  | cons x r=>cases x;rw[B9k r];rfl
theorem B0m:FK P w base 2 T.ai C5q:=by
 refine T.ai.F.ok B9b (λJ H J J h=>?_) (λJ J J s H J Q J hr h=>?_)
 ·let⟨v,a,b,rfl,_⟩:=h;rfl
 ·let⟨v,a,b,rfl,tv,ha,hb,la,lb,told⟩:=h;refine⟨_,(C0 (A7w (i:=1) B9b.nd rfl (B6 rfl) (N1.new (N:=["moved","fell","rose"]) (osc:=B5 B0d) KK) rfl (U9 (E6 T5 (pv 0) B4)) (λJ=>m9) (λJ=>(M6 W7 rfl T.aQ U0 (A3 (pv 3) A4 A0))))
   (C0 (A7w (i:=2) B9b.nd rfl (B6 rfl) (N1.new (N:=["moved","fell","rose"]) (osc:=B5 B0d) KK) rfl (U9 (E6 T5 (pv 0) B4)) (λJ=>m9) (λJ=>(M6 W7 rfl T.aQ U0 (A3 (pv 3) A4 A0))))
   (C9 (G0 (pcF T.bb (B9i T) hr (A3 (F5 A5j (F5 A5j (F5 A5j (T0 (A3 F9 A4 F2)) (pv 1)) (T0 (A3 F9 A4 F2))) (pv 2)) A4 G6)))))),?_⟩
  ac_nf
  let⟨p,us,rfl,_,ep,tu⟩:=y8 tv;let⟨v1,v2,rfl,t1,t2⟩:=g6 tu;let⟨la1,ua,rfl,_,ea,tua⟩:=P7 t1;let⟨lb1,ub,rfl,_,eb,tub⟩:=P7 t2;have hua:ua=a.map λn:Nat=>V.int (n:Int):=B9k tua;have hub:ub=b.map λn:Nat=>V.int (n:Int):=B9k tub;subst hua hub;have fI:∀(xs:!Nat),(∀n∈xs,n<12)->∀x∈xs.map (λn:Nat=>V.int (n:Int)),∃n:Nat,n<12/\x=V.int (n:Int):=λxs h x hx=>by
   let⟨n,hn,rfl⟩:=L0.mp hx;exact⟨n,h n hn,rfl⟩
  exists _,rfl,p,_,_,_,rfl,rfl,SqT.of ep,rfl,la1,rfl,⟨_,SqL.of ea⟩;refine B3t wrT (by rw[B7,sizeLine_eq];omega) (λHx s=>SqL.of (s _ _ ea)) (λx hx Hx s ca R hR=>?_) λH1 s1 l1 h1=>?_
  ·let⟨n,hn,rfl⟩:=fI a ha x hx;exact⟨_,rfl,_,rfl,V4 (show ((n:Nat):Int).natAbs<10^60 from U1 hn DD),hR _ λJ J z=>z⟩
  have s2:=s1.tr (Same.upd (o:=.lst ((a.map λn:Nat=>V.int (n:Int)).map λx=>V.str (wrT x))) h1);have el1:upd H1 l1 (.lst ((a.map λn:Nat=>V.int (n:Int)).map λx=>V.str (wrT x))) l1=some (.lst (a.map λn:Nat=>V.str (itx (n:Int)))):=B9.trans (by rw[Q8];rfl);generalize upd H1 l1 (.lst ((a.map λn:Nat=>V.int (n:Int)).map λx=>V.str (wrT x)))=H2 at s2 el1 ⊢;dsimp only[K6];exists _,rfl,p,_,_,_,rfl,rfl,SqT.of (s2 _ _ ep),rfl,lb1,rfl,⟨_,SqL.of (s2 _ _ eb)⟩;refine B3t wrT (by rw[B7,sizeLine_eq];omega) (λHx s=>SqL.of (s _ _ (s2 _ _ eb))) (λx hx Hx s ca R hR=>?_) λH3 s3 l3 h3=>?_
  ·let⟨n,hn,rfl⟩:=fI b hb x hx;exact⟨_,rfl,_,rfl,V4 (show ((n:Nat):Int).natAbs<10^60 from U1 hn DD),hR _ λJ J z=>z⟩
  have s4:=s3.tr (Same.upd (o:=.lst ((b.map λn:Nat=>V.int (n:Int)).map λx=>V.str (wrT x))) h3);have el3:upd H3 l3 (.lst ((b.map λn:Nat=>V.int (n:Int)).map λx=>V.str (wrT x))) l3=some (.lst (b.map λn:Nat=>V.str (itx (n:Int)))):=B9.trans (by rw[Q8];rfl);generalize upd H3 l3 (.lst ((b.map λn:Nat=>V.int (n:Int)).map λx=>V.str (wrT x)))=H4 at s4 el3 ⊢;dsimp only[K6];have el1':=s4 _ _ el1;have sz:∀{n:Nat},n<=1000->n<=sizeLine:=λh=>M0 h (by rw[sizeLine_eq];decide);refine⟨sz DD,λp1 n1=>?_⟩;have k1:=Same.upd (o:=.lst [V.str (Str.ofString "fell")]) n1;refine⟨_,rfl,p1,l1,_,_,rfl,rfl,B9,k1 _ _ el1',sz (by simp;omega),λp2 n2=>?_⟩;obtain⟨H5,hH5⟩:∃H5,H5=upd (upd H4 p1 (.lst [V.str (Str.ofString "fell")])) p2 (.lst ([V.str (Str.ofString "fell")]++a.map λn:Nat=>V.str (itx (n:Int)))):=⟨_,rfl⟩;have e5:H5 p2=some (.lst ([V.str (Str.ofString "fell")]++a.map λn:Nat=>V.str (itx (n:Int)))):=by rw[hH5];exact B9
  have s5:Same H4 H5:=by rw[hH5];exact k1.tr (Same.upd n2)
  rw[<-hH5];clear hH5 k1 n1 n2;refine⟨sz DD,λp3 n3=>?_⟩;have k3:=Same.upd (o:=.lst [V.str (Str.ofString "rose")]) n3;refine⟨p2,p3,_,_,rfl,rfl,k3 _ _ e5,B9,sz (by simp;omega),λp4 n4=>?_⟩;have k4:=k3.tr (Same.upd (o:=.lst (([V.str (Str.ofString "fell")]++a.map λn:Nat=>V.str (itx (n:Int)))++[V.str (Str.ofString "rose")])) n4);refine⟨_,rfl,p4,l3,_,_,rfl,rfl,B9,k4 _ _ (s5 _ _ el3),sz (by simp;omega),λp5 n5=>?_⟩;refine⟨p5,(("fell" : Str)::a.map (λn:Nat=>itx (n:Int)))++(("rose" : Str)::b.map λn:Nat=>itx (n:Int)),rfl,B9.trans (by rw[L7,K9,K9,Q8,Q8,j9];rfl),λw hw=>?_,by simp;omega,λH' s'=>told H' ((((s2.tr s4).tr s5).tr (k4.tr (Same.upd n5))).tr s')⟩;rcases p7.mp hw with hw | hw
  ·rcases K7.mp hw with rfl | hw
   ·decide
   ·let⟨n,hn,rfl⟩:=L0.mp hw;have:=R6 (show ((n:Nat):Int).natAbs<10^60 from U1 (ha n hn) DD);omega
  ·rcases K7.mp hw with rfl | hw
   ·decide
   ·let⟨n,hn,rfl⟩:=L0.mp hw;have:=R6 (show ((n:Nat):Int).natAbs<10^60 from U1 (hb n hn) DD);omega
theorem D7s:FK P w base 1 T.cu D7r:=by
 refine T.cu.F.ok B0h (λJ H J J h=>?_) (λJ J J J H J Q J hr h=>?_)
 ·let⟨t,x,a,b,c,rfl,_⟩:=h;rfl
 ·let⟨t,x,a,b,c,rfl,et,hx,ha,hb,hc,told⟩:=h;refine⟨_,(C0 (pS (i:=1) B0h.nd (E6 T5 (pv 0) B4))
   (C0 (pS (i:=2) B0h.nd (E6 T5 (pv 0) B4))
   (C0 (pS (i:=3) B0h.nd (E6 T5 (pv 0) B4))
   (C0 (pS (i:=4) B0h.nd (E6 T5 (pv 0) B4))
   (C9 (G0 (C4e (z5 (A4e (pv 1)) (z5 F9 (z5 (A4e (pv 2)) (z5 F9 (z5 (A4e (pv 3)) (z5 F9 (z5 (A4e (pv 4)) C4d)))))))))))))),?_⟩
  ac_nf
  exists _,rfl,t,_,_,_,rfl,rfl,SqT.of et,rfl;dsimp only[K1,K6];exists _,rfl,t,_,_,_,rfl,rfl,SqT.of et,rfl;dsimp only[K1,K6];exists _,rfl,t,_,_,_,rfl,rfl,SqT.of et,rfl;dsimp only[K1,K6];exists _,rfl,t,_,_,_,rfl,rfl,SqT.of et,rfl;dsimp only[K1,K6];have l0:Str.length Str.empty<=0:=G3 _;refine A4j (k:=0) hx l0 DD (λl1=>?_) λR r=>⟨_,rfl,r⟩;refine A87 (n':=1) DD l1 DD λl2=>?_;refine A4j ha l2 DD (λl3=>?_) λR r=>⟨_,rfl,r⟩;refine A87 (n':=1) DD l3 DD λl4=>?_;refine A4j hb l4 DD (λl5=>?_) λR r=>⟨_,rfl,r⟩;refine A87 (n':=1) DD l5 DD λl6=>?_;refine A4j hc l6 DD (λl7=>?_) λR r=>⟨_,rfl,r⟩;exact⟨M0 l7 (by rw[sizeLine_eq];decide),told H λJ J z=>z⟩
def A1l (w:Wy):Wy:=(w.2.1,w.1,w.2.2)
theorem A0q {t:Tb}:(E2 t).length=t.length:=by unfold E2;rw[B7]
theorem D7t {t:Rn}:(rnL t).length=t.length:=by unfold rnL;rw[B7]
theorem A4k {t:!Nat}:(J0 t).length=t.length:=by unfold J0;rw[B7]
theorem B9l {t:Tb}{i:Nat}{x:Option Int}:(E2 t).set i (oD x)=E2 (t.set i x):=by unfold E2;rw[List.map_set]
theorem D7u {t:Rn}{i n:Nat}:(rnL t).set i (.int (n:Nat))=rnL (t.set i (some n)):=by unfold rnL;rw[List.map_set];rfl
theorem C5s {n:Nat}:A6f [PyData.none] n=rnL (G1 n none):=by
 unfold A6f rnL
 induction n with
 | zero=>rfl
 | succ n ih=>rw[A0u,A0u,A3k,K9,ih];rfl
theorem C5t {n:Nat}:A6f [PyData.none] n=E2 (G1 n none):=by
 unfold A6f E2
 induction n with
 | zero=>rfl
 | succ n ih=>rw[A0u,A0u,A3k,K9,ih];rfl
theorem D7v {ws:!Wy}:A14 (ws.map N5)=ws.zipIdx.map λp=>.tuple [.int (p.2:Nat),N5 p.1]:=by
 unfold A14;rw[List.zipIdx_map,Q8];rfl
def D7w:DSp:=λds Q=>∃(m:Nat)(ws:!Wy),ds=[K2 m ws]/\ws.length<=900/\Q (K2 m (ws.map A1l))
def D7x:DSp:=λds Q=>∃(m:Nat)(ws:!Wy)(ns:!Nat),ds=[K2 m ws,.list (J0 ns)]/\(∀n∈ns,n<ws.length)/\ns.length<=900/\Q (.list (Z0 (chs ws ns)))
def D7y:DSp:=λds Q=>∃t:Tb,ds=[.list (E2 t)]/\t.length<=900/\Q (S2 (t,G1 t.length none))
def D7z:DSp:=λds Q=>∃(m:Nat)(ws:!Wy)(st:Int)(t s:Tb),ds=[K2 m ws,.int st,.list (E2 t),.list (E2 s)]/\J2 m ws/\t.length=m/\s.length=m/\Q (S2 (L6 m ws st t s))
def A62 (m:Nat)(ws:!Wy)(rs:!Rw):Prop:=∀r∈rs,r.2.length=m/\∀q n,gt r.2 q=some n->n<ws.length
def D70:DSp:=λds Q=>∃(m:Nat)(ws:!Wy)(rs:!Rw)(p:Nat),ds=[K2 m ws,.list (rs.map S2),.int (p:Nat)]/\p<m/\J2 m ws/\A62 m ws rs/\rs.length<=900/\Q (.tuple [.int ((wlk ws rs.reverse p).1:Nat),.list (J0 (wlk ws rs.reverse p).2)])
theorem D71:FK P w base 1 T.bu (spD [.sh] D7w):=by
 refine K4 T.bu.F D5c rfl (λC cdv A outer s H E hr=>⟨_,(@E9 _ _ _ _ (@G7 _ _ _ _ _ (@Y6 _ _ _ _ _ _ (@E4 _ _ _ _ _ _ (E7 (pv 0) (E8 (cII T.g_MANY))) (@E4 _ _ _ _ _ _ (@M7 _ _ _ _ (@A20 _ _ _ _ _ _ _ _ rfl (@W9 _ _ _ _ _ _ _ _ _ _ _ _ _ _ _ (N1.new (N:=["land"]) (osc:=B5 B2y) KK) rfl (B5u (E7 (pv 0) (E8 (cII T.g_WAYS)))) (λJ=>A2y) (λJ=>(Y6 (E4 (E7 (pv 1) (E8 (cII T.g_END))) (E4 (E7 (pv 1) (E8 (cII T.g_START))) (E4 (E7 (pv 1) (E8 (cII T.g_CHANGE))) J5 B0) B0) B0))) (by rfl) (by rfl) (by intro _;rfl)))) J5 A0j) B0)))),λds Q hl h=>?_⟩);let⟨m,ws,rfl,hn,q⟩:=h
 array_mem_dec
 refine⟨⟨rfl,by rw[B7];omega⟩,A21 (f:=λw=>N5 (A1l w)) (λw hw Q' q'=>?_) ?_⟩
 ·right;exact⟨DD,q'⟩
 ·exists DD;unfold K2 at q;rw[Q8] at q;exact q
theorem D72:FK P w base 1 T.aC (spD [.sh,.sh] D7x):=by
 refine K4 T.aC.F D5d rfl (λC cdv A outer s H E hr=>⟨_,(E9 (G7 (M7 (A20 rfl (W9 (N1.new (N:=["land","numbers"]) (osc:=B5 B2z) KK) rfl (A34 (pv 1)) (λJ=>A2y) (λJ=>(T1 (T1 (E7 (pv 0) (E8 (cII T.g_WAYS))) (A6 (pv 2))) (E8 (cII T.g_CHANGE))))))))),λds Q hl h=>?_⟩);let⟨m,ws,ns,rfl,hb,hn,q⟩:=h
 array_mem_dec
 refine⟨⟨rfl,by rw[A4k];omega⟩,?_⟩;unfold J0;refine A21 (f:=λn=>.int (o8 ws n)) (λn hm Q' q'=>?_) ?_
 ·obtain⟨w,hw⟩:∃w,ws[n]?=some w:=⟨_,M8 (hb n hm)⟩;right;rw[B3q hw];right;have e:o8 ws n=w.2.2:=by unfold o8;rw[hw]
  rw[e] at q';exact q'
 ·unfold Z0 chs at q;rw[Q8] at q;exact q
theorem C5u:FK P w base 1 T.aT (spD [.bo] D7y):=by
 refine K4 T.aT.F D5h rfl (λC cdv A outer s H E hr=>⟨_,(E9 (G7 (Y6 (E4 (M7 (B5p (M6 A3v rfl T.cz A1h (A3 (pv 0) A4 A0)))) (E4 (M7 (B2j (M7 (Y7 (E4 P4 J5 F2))) (A57 (K5 V8 rfl T.aP T9 (A3 (pv 0) A4 A0))))) J5 G6) C6)))),λds Q hl h=>?_⟩);let⟨t,rfl,hn,q⟩:=h;right;exists DD,⟨OO,by rw[A0q];omega,DD⟩,DD;unfold S2 at q;rw[A0q,show ((t.length:Nat):Int).toNat=t.length by simp,C5s];exact q
theorem C5v:FK P w base 3 T.aJ (spD [.sh,.sh,.sh,.sh] D7z):=by
 refine K4 T.aJ.F A8x rfl (λC cdv A outer s H E hr=>⟨_,(@J8 _ _ _ _ _ _ (A2z (pS (i:=4) A8x.nd (B5p (M6 A3v rfl T.cz A1h (A3 (pv 3) A4 A0))))) (@J8 _ _ _ _ _ _ (A2z (pS (i:=5) A8x.nd (B2j (M7 (Y7 (E4 P4 J5 F2))) (E7 (pv 0) (E8 (cII T.g_MANY)))))) (@J8 _ _ _ _ _ _ (@A6q _ _ _ _ _ _ (@X6 _ _ _ _ _ _ _ _ T3 rfl (C3c (C2p rfl T.eS (A3 (E7 (pv 0) (E8 (cII T.g_WAYS))) A4 B0))) (C3d (A7s (n:=2) rfl (t8 (N8 (i:=6) A8x.nd) (t8 (N8 (i:=7) A8x.nd) A7r)))) (@J8 _ _ _ _ _ _ (K0 (pS (i:=8) A8x.nd (F8 (pcF T.bN (D7a T) hr (B8 (A6 (pv 1)) (B8 (A6 (pv 2)) (B8 (A6 (pv 7)) F7 A0) A0) A0))))) (@E9 _ _ _ _ (@V9 _ _ _ _ _ _ _ _ _ (A2t (F8 (pcF T.cE (D69 T) hr (B8 (A6 (pv 8)) (B8 (E7 (pv 4) (E7 (pv 7) (E8 (cII T.g_END)))) F7 B0) A0)))) (J8 (A93 (m6 (A6 (pv 8)) (A0y (pv 4) (E7 (pv 7) (E8 (cII T.g_END))) w6)))
   (E9 (A93 (m6 (A6 (pv 6)) (A0y (pv 5) (E7 (pv 7) (E8 (cII T.g_END))) w6))))) X2))) (by intro _;rfl))) (E9 (G7 (Y6 (E4 (A6 (pv 4)) (E4 (A6 (pv 5)) J5 A0) A0))))))),λds Q hl h=>?_⟩)
 let⟨m,ws,st,t,s0,rfl,ok,ht,hs,q⟩:=h;have m2:=ok.m2
 array_mem_dec
 exists DD,⟨OO,OO,DD⟩;rw[show ((m:Nat):Int).toNat=m by simp,C5s,D7v];refine⟨λr ρ=>∃(R:!(Wy×Nat))(acc:Tb×Rn)(z1 z2 z3:Sl),r=R.map (λp=>.tuple [.int (p.2:Nat),N5 p.1])/\ρ=[Sl.sh (K2 m ws),Sl.sh (.int st),Sl.sh (.list (E2 t)),Sl.sh (.list (E2 s0)),Sl.ow (E2 acc.1),Sl.ow (rnL acc.2),z1,z2,z3]/\acc.1.length=m/\acc.2.length=m/\(∀p∈R,p.1∈ws)/\R.foldl (A4b st t) acc=L6 m ws st t s0,
  ⟨ws.zipIdx,(s0,G1 m none),_,_,_,rfl,rfl,hs,by simp,λp hp=>?_,rfl⟩,?_,?_⟩
 ·let⟨w,n⟩:=p;rw[C8j] at hp;exact U4 hp
 ·rintro x r ρ ⟨R,acc,z1,z2,z3,h1,rfl,l1,l2,hR,hF⟩;cases R with
  | nil=>cases h1
  | cons p R=>
   cases (show x::r=PyData.tuple [.int (p.2:Nat),N5 p.1]::R.map (λp=>.tuple [.int (p.2:Nat),N5 p.1]) from h1);have hw:=hR p E5;have e1:=ok.en _ hw;have hF':R.foldl (A4b st t) (A4b st t acc p)=L6 m ws st t s0:=hF
   sizeOf_list_dec
   refine⟨_,_,_,rfl,by rw[ht];exact ok.st _ hw,?_⟩;unfold N5;left;rw[A83 (by rw[l1];exact e1)];left;exists _,_,rfl;unfold A4b at hF';cases c:i7 (P8 st t p.1) (gt acc.1 p.1.2.1) with
   | true=>rw[if_pos c] at hF';left;rw[B0j (by rw[A0q,l1];exact e1)];left;rw[B0j (by rw[D7t,l2];exact e1),B9l];left;rw[D7u];exact⟨R,_,_,_,_,rfl,rfl,by rw[j8];exact l1,by rw[j8];exact l2,λp hp=>hR p (E3 _ hp),hF'⟩
   | false=>rw[if_neg (by rw[c];exact Q2)] at hF';left;exact⟨R,acc,_,_,_,rfl,rfl,l1,l2,λp hp=>hR p (E3 _ hp),hF'⟩
 ·rintro ρ ⟨R,acc,z1,z2,z3,h1,rfl,l1,l2,hR,hF⟩;cases R with
  | cons p R=>cases h1
  | nil=>left;exists DD;have hF':acc=L6 m ws st t s0:=hF;rw[<-hF'] at q;exact q
theorem C5w:FK P w base 1 T.bH (spD [.sh,.sh,.sh] D70):=by
 refine K4 T.bH.F A8y rfl (λC cdv A outer s H E hr=>⟨_,(@J8 _ _ _ _ _ _ (K0 (pS (i:=3) A8y.nd (A6 (pv 2)))) (@J8 _ _ _ _ _ _ (A2z (pS (i:=4) A8y.nd (Y7 J5))) (@J8 _ _ _ _ _ _ (@A6q _ _ _ _ _ _ (@X6 _ _ _ _ _ _ _ _ T3 rfl (D20 (D1h rfl T.fo (A3 (A6 (pv 1)) A4 A0))) (A94 (N8 (i:=5) A8y.nd)) (@J8 _ _ _ _ _ _ (K0 (pS (i:=6) A8y.nd (T1 (E7 (pv 5) (E8 (cII T.g_RISEN))) (A6 (pv 3))))) (@E9 _ _ _ _ (@V9 _ _ _ _ _ _ _ _ _ (P6 A5c A50 (A6 (pv 6)) P4 (F6 _)) (@J8 _ _ _ _ _ _ (A79 (N7 (L8 S9 U5 U6 T6 (pv 4) (A3 (A6 (pv 6)) A4 A0)))) (E9 (K0 (pS (i:=3) A8y.nd (T1 (T1 (E7 (pv 0) (E8 (cII T.g_WAYS))) (A6 (pv 6))) (E8 (cII T.g_START))))))) X2))) (by intro _;rfl))) (E9 (G7 (Y6 (E4 (A6 (pv 3)) (E4 (M7 (D2y (D1f rfl T.cz rfl T.fo rfl (A3 (A6 (pv 4)) A4 A0)))) J5 C6) A0))))))),λds Q hl h=>?_⟩);let⟨m,ws,rs,p,rfl,hp,ok,hr2,hn,q⟩:=h
 array_mem_dec
 exists DD;refine⟨λr ρ=>∃(R:!Rw)(here:Nat)(acc:!Nat)(z1 z2:Sl),r=R.map S2/\ρ=[Sl.sh (K2 m ws),Sl.sh (.list (rs.map S2)),Sl.sh (.int (p:Nat)),Sl.sh (.int (here:Nat)),Sl.ow (J0 acc),z1,z2]/\here<m/\A62 m ws R/\acc.length+R.length<=rs.length/\wlk ws rs.reverse p=((wlk ws R here).1,(wlk ws R here).2++acc.reverse),
  ⟨rs.reverse,p,[],_,_,by rw[List.map_reverse],rfl,hp,λr hr=>hr2 r (List.mem_reverse.mp hr),by simp,by simp⟩,?_,?_⟩
 ·rintro x r ρ ⟨R,here,acc,z1,z2,h1,rfl,hh,hR,hl2,hW⟩;cases R with
  | nil=>cases h1
  | cons r0 R=>
   cases (show x::r=S2 r0::R.map S2 from h1);let⟨l0,b0⟩:=hR r0 E5
   decreasing_trivial_pre_omega
   rw[C5g (by rw[l0];exact hh)];cases c:gt r0.2 here with
   | none=>
    right;refine⟨R,here,acc,_,_,rfl,rfl,hh,λr hr=>hR r (E3 _ hr),by simp at hl2;omega,?_⟩;rw[hW];have:wlk ws (r0::R) here=wlk ws R here:=by
     show (match gt r0.2 here with
      | none=>wlk ws R here
      | some n=>((wlk ws R (N4 ws n)).1,(wlk ws R (N4 ws n)).2++[n]))=_
     rw[c]
    rw[this]
   | some n=>
    have hn':=b0 here n c;obtain⟨w,hw⟩:∃w,ws[n]?=some w:=⟨_,M8 hn'⟩;right;refine⟨by rw[A4k];simp at hl2;omega,?_⟩;rw[B3q hw];right;refine⟨R,w.1,acc++[n],_,_,rfl,by rw[show J0 (acc++[n])=J0 acc++[.int (n:Nat)] by unfold J0;simp],ok.st w (U4 hw),λr hr=>hR r (E3 _ hr),by simp at hl2 ⊢;omega,?_⟩
    ·rw[hW];have:wlk ws (r0::R) here=((wlk ws R w.1).1,(wlk ws R w.1).2++[n]):=by
      show (match gt r0.2 here with
       | none=>wlk ws R here
       | some n=>((wlk ws R (N4 ws n)).1,(wlk ws R (N4 ws n)).2++[n]))=_
      rw[c];have e:N4 ws n=w.1:=by unfold N4;rw[hw]
      show ((wlk ws R (N4 ws n)).1,(wlk ws R (N4 ws n)).2++[n])=_;rw[e]
     rw[this];simp
 ·rintro ρ ⟨R,here,acc,z1,z2,h1,rfl,hh,hR,hl2,hW⟩;cases R with
  | cons p R=>cases h1
  | nil=>
   left;exists DD;rw[hW] at q;have e:(J0 acc).reverse=J0 acc.reverse:=by unfold J0;rw[List.map_reverse]
   rw[e];exact q
inductive Pth (ws:!Wy):Nat->!Nat->Nat->Prop
 | nil {p}:Pth ws p [] p
 | cons {n w ns q}:ws[n]?=some w->Pth ws w.2.1 ns q->Pth ws w.1 (n::ns) q
abbrev Pt:=!Nat×Int
inductive Trp (ws:!Wy):Nat->!Pt->Nat->Prop
 | nil {p}:Trp ws p [] p
 | cons {p q r pt ps}:Pth ws p pt.1 q->pt.1≠[]->1<=pt.2->pt.2<=1000000000000000000000000->(pt.2=1\/q=p)->Trp ws q ps r->Trp ws p (pt::ps) r
theorem Pth.app {ws:!Wy}{a b c:Nat}{xs ys:!Nat}(h1:Pth ws a xs b)(h2:Pth ws b ys c):Pth ws a (xs++ys) c:=by
 induction h1 with
 | nil=>exact h2
 | cons e _ ih=>exact .cons e (ih h2)
theorem Trp.app {ws:!Wy}{a b c:Nat}{xs ys:!Pt}(h1:Trp ws a xs b)(h2:Trp ws b ys c):Trp ws a (xs++ys) c:=by
 induction h1 with
 | nil=>exact h2
 | cons e1 e2 e3 e4 e5 _ ih=>exact .cons e1 e2 e3 e4 e5 (ih h2)
def prt (ns:!Nat):!Pt:=if ns.isEmpty then [] else [(ns,1)]
theorem C5x {ws:!Wy}{a b:Nat}{ns:!Nat}(h:Pth ws a ns b):Trp ws a (prt ns) b:=by
 cases h with
 | nil=>exact .nil
 | cons e t=>exact .cons (pt:=(_,1)) (.cons e t) (by simp) (show (1:Int)<=1 by decide) (show (1:Int)<=1000000000000000000000000 by decide) (.inl rfl) .nil
theorem Wk.pth {ws:!Wy}{st:Int}{b:Tb}{N:!Nat}{P:Nat->Nat}{L:Nat->Int}(W:Wk ws st b N P L){i:Nat}:∀{j:Nat},i<=j->j<=N.length->Pth ws (P i) (Tactic.seg N i j) (P j)
 | 0,h1,_=>by
  have:i=0:=by omega
  subst this;rw[A8s];exact .nil
 | j+1,h1,h2=>by
  by_cases e:i=j+1
  ·subst e;rw[A8s];exact .nil
  ·rw[B59 OO (OO)];let⟨w,hw,e1,e2,_⟩:=W.way j N[j] (M8 OO);refine (W.pth (i:=i) (j:=j) OO OO).app ?_;rw[<-e1,<-e2];exact .cons hw .nil
theorem A4l (i j:Int):min (PyData.depth (.int i)) (PyData.depth (.int j))<=64:=by show min 0 0<=64;decide
theorem A4m (i j:Int):PyData.eqv (.int i) (.int j)=(i == j):=by rw[PyData.eqv]
def D73:DSp:=λds Q=>∃(m:Nat)(ws:!Wy)(p q:Nat)(ns:!Nat),ds=[K2 m ws,.int (p:Nat),.list (J0 ns)]/\Pth ws p ns q/\Q (.int (q:Nat))
def D74:DSp:=λds Q=>∃(m:Nat)(ws:!Wy)(p q:Nat)(pt:Pt),ds=[K2 m ws,.int (p:Nat),b7 pt]/\Pth ws p pt.1 q/\pt.1≠[]/\1<=pt.2/\pt.2<=1000000000000000000000000/\(pt.2=1\/q=p)/\Q (.int (q:Nat))
def D75:DSp:=λds Q=>∃(m:Nat)(ws:!Wy)(p q:Nat)(ps:!Pt),ds=[K2 m ws,.int (p:Nat),.list (ps.map b7)]/\Trp ws p ps q/\Q (.int (q:Nat))
def D76:DSp:=λds Q=>∃ns:!Nat,ds=[.list (J0 ns)]/\Q (.list ((prt ns).map b7))
theorem D77:FK P w base 1 T.bC (spD [.sh] D76):=by
 refine K4 T.bC.F D5j rfl (λC cdv A outer s H E hr=>⟨_,(E9 (G7 (C2z (P6 A3r A76 (A57 (K5 V8 rfl T.aP T9 (A3 (pv 0) A4 A0))) F0 (F6 _)) (M7 (Y7 (E4 (Y6 (E4 (A6 (pv 0)) (E4 F0 J5 F2) A0)) J5 g4))) (M7 (Y7 J5))))),λds Q hl h=>?_⟩);let⟨ns,rfl,q⟩:=h;right;cases ns with
 | nil=>exact⟨DD,q⟩
 | cons n ns=>
  have e:decide ((0:Int)<((J0 (n::ns)).length:Nat))=true:=by
   rw[A4k];exact decide_eq_true (by rw[J6];omega)
  rw[e];right;exact⟨DD,DD,q⟩
theorem D78:FK P w base 3 T.bv (spD [.sh,.sh,.sh] D73):=by
 have cL:=@B9h P w K mg base T;have cM:=T.av.b;refine K4 T.bv.F B3l rfl (λC cdv A outer s H E hr=>⟨_,(@J8 _ _ _ _ _ _ (K0 (pS (i:=3) B3l.nd (A6 (pv 1)))) (@J8 _ _ _ _ _ _ (@A6q _ _ _ _ _ _ (@X6 _ _ _ _ _ _ _ _ T3 rfl (A34 (pv 2)) (A94 (N8 (i:=4) B3l.nd)) (@J8 _ _ _ _ _ _ (@V9 _ _ _ _ _ _ _ _ _ (PW.pt (@A5p _ _ _ _ _ _ _ _ (@A5n _ _ _ _ _ (@A2t _ _ _ _ (@F8 _ _ _ _ _ _ _ (@B3 _ _ _ _ _ _ _ _ _ _ _ _ _ _ _ _ cL (hr.mono DD) rfl T.av.m T.av.F.kp cM .nil A7 (B8 (n8 C27 (K5 V8 rfl T.aP T9 (E4 (E7 (pv 0) (E8 (cII T.g_WAYS))) J5 B0))) (B8 (A6 (pv 4)) F7 A0) C6) DD C6 ((A9 A0 A5)))) (by intro _;rfl))) (A73 (P6 (A9x (b6 hr)) A2v (T1 (T1 (E7 (pv 0) (E8 (cII T.g_WAYS))) (A6 (pv 4))) (E8 (cII T.g_START))) (A6 (pv 3)) (F6 _))))) (E9 (G7 P4)) X2) (E9 (K0 (pS (i:=3) B3l.nd (T1 (T1 (E7 (pv 0) (E8 (cII T.g_WAYS))) (A6 (pv 4))) (E8 (cII T.g_END))))))) (by intro _;rfl))) (E9 (G7 (A6 (pv 3)))))),λds Q hl h=>?_⟩);let⟨m,ws,p,q0,ns,rfl,hp,q⟩:=h
 array_mem_dec
 refine⟨λr ρ=>∃(ns':!Nat)(p':Nat)(z:Sl),r=J0 ns'/\ρ=[Sl.sh (K2 m ws),Sl.sh (.int (p:Nat)),Sl.sh (.list (J0 ns)),Sl.sh (.int (p':Nat)),z]/\Pth ws p' ns' q0,⟨ns,p,_,rfl,rfl,hp⟩,?_,?_⟩
 ·rintro x r ρ ⟨ns',p',z,h1,rfl,hp'⟩;cases hp' with
  | nil=>cases h1
  | @cons n w ns' _ hw hp'=>
   cases (show x::r=PyData.int (n:Nat)::J0 ns' from h1);have hn:=(X4.mp hw).1
   decreasing_trivial_pre_omega
   exists _,_,rfl;rw[B7,decide_eq_true (show (0:Int)<=((n:Nat):Int)/\((n:Nat):Int)<((ws.length:Nat):Int) from ⟨OO,OO⟩)]
   decreasing_trivial_pre_omega
   rw[B3q hw];right;exists rfl,rfl,A4l _ _;rw[A4m,beq_self_eq_true];right;exact⟨ns',w.2.1,_,rfl,rfl,hp'⟩
 ·rintro ρ ⟨ns',p',z,h1,rfl,hp'⟩;cases hp' with
  | nil=>left;exact q
  | cons hw hp'=>cases h1
theorem D79:FK P w base 4 T.bw (spD [.sh,.sh,.sh] D74):=by
 refine K4 T.bw.F C44 rfl (λC cdv A outer s H E hr=>⟨_,(@J8 _ _ _ _ _ _ (@V9 _ _ _ _ _ _ _ _ _ (PW.pt (@A5p _ _ _ _ _ _ _ _ (P6 (A9w (b6 hr)) A2v (n8 C27 (K5 V8 rfl T.aP T9 (E4 (E7 (pv 2) (E8 (cII T.g_NUMBERS))) J5 B0))) F0 (F6 _)) (A73 (A5n (D11 X8 X8 F0 (E7 (pv 2) (E8 (cII T.g_TIMES))) (L5 V7 A11 F0 F0)))))) (E9 (G7 P4)) X2) (@J8 _ _ _ _ _ _ (@K0 _ _ _ _ _ (@C7 _ _ 3 _ _ _ _ C44.nd rfl (B6 rfl) (F8 (pcF T.bv (D78 T) hr (B8 (A6 (pv 0)) (B8 (A6 (pv 1)) (B8 (E7 (pv 2) (E8 (cII T.g_NUMBERS))) F7 B0) A0) A0))) (by rfl) (by first | exact .inl rfl | exact .inr rfl | assumption))) (J8 (V9 (PW.pt (B5l (P6 A3r A76 (E7 (pv 2) (E8 (cII T.g_TIMES))) F0 (F6 _)) (B5k (P6 (A9x (b6 hr)) A2v (A6 (pv 3)) (A6 (pv 1)) (F6 _)))))
   (E9 (G7 P4))
   X2)
   (E9 (G7 (A6 (pv 3))))))),λds Q hl h=>?_⟩)
 let⟨m,ws,p,q0,⟨ns,t⟩,rfl,hp,hne,t1,t2,ht,q⟩:=h;simp only at hp hne t1 t2 ht;right;exists rfl,rfl,A4l _ _;have hl0:PyData.eqv (.int ((J0 ns).length:Nat)) (.int 0)=false:=by
  rw[A4m,A4k];cases ns with
  | nil=>exact absurd rfl hne
  | cons n r=>exact beq_eq_false_iff_ne.mpr (by simp;omega)
 rw[hl0];right;rw[decide_eq_true (show (1:Int)<=t from t1)];right;exists ⟨DD,DD,DD⟩;rw[decide_eq_true (show t<=(10:Int)^(24:Int).toNat from t2)];right;exists _,_,_,_,_,rfl,hp;right;rcases ht with ht | ht
 ·rw[decide_eq_false (show ¬ (1:Int)<t by omega)];right;exact q
 ·subst ht;by_cases c:(1:Int)<t
  ·rw[decide_eq_true c];right;exists rfl,rfl,A4l _ _;rw[A4m,beq_self_eq_true];right;exact q
  ·rw[decide_eq_false c];right;exact q
theorem D8a:FK P w base 5 T.cU (spD [.sh,.sh,.sh] D75):=by
 refine K4 T.cU.F B0f rfl (λC cdv A outer s H E hr=>⟨_,(@J8 _ _ _ _ _ _ (K0 (pS (i:=3) B0f.nd (A6 (pv 1)))) (@J8 _ _ _ _ _ _ (@A6q _ _ _ _ _ _ (@X6 _ _ _ _ _ _ _ _ T3 rfl (C3c (C2p rfl T.eS (A3 (A6 (pv 2)) A4 A0))) (C3d (A7s (n:=2) rfl (t8 (N8 (i:=4) B0f.nd) (t8 (N8 (i:=5) B0f.nd) A7r)))) (@J8 _ _ _ _ _ _ (K0 (pS (i:=3) B0f.nd (F8 (pcF T.bw (D79 T) hr (B8 (A6 (pv 0)) (B8 (A6 (pv 3)) (B8 (A6 (pv 5)) F7 A0) A0) A0))))) (E9 (V9 (P6 t9 A2w (A6 (pv 3)) P4 (F6 _))
   (E9 D2r)
   X2))) (by intro _;rfl))) (E9 (G7 (A6 (pv 3)))))),λds Q hl h=>?_⟩)
 let⟨m,ws,p,q0,ps,rfl,hp,q⟩:=h
 array_mem_dec
 have e0:A14 (ps.map b7)=ps.zipIdx.map λp=>.tuple [.int (p.2:Nat),b7 p.1]:=by
  unfold A14;rw[List.zipIdx_map,Q8];rfl
 rw[e0];refine⟨λr ρ=>∃(ps':!(Pt×Nat))(p':Nat)(z1 z2:Sl),r=ps'.map (λp=>.tuple [.int (p.2:Nat),b7 p.1])/\ρ=[Sl.sh (K2 m ws),Sl.sh (.int (p:Nat)),Sl.sh (.list (ps.map b7)),Sl.sh (.int (p':Nat)),z1,z2]/\Trp ws p' (ps'.map (·.1)) q0,⟨ps.zipIdx,p,_,_,rfl,rfl,by rw[show ps.zipIdx.map (·.1)=ps by simp];exact hp⟩,?_,?_⟩
 ·rintro x r ρ ⟨ps',p',z1,z2,h1,rfl,hp'⟩;cases ps' with
  | nil=>cases h1
  | cons a ps'=>
   cases (show x::r=PyData.tuple [.int (a.2:Nat),b7 a.1]::ps'.map (λp=>.tuple [.int (p.2:Nat),b7 p.1]) from h1);have hp2:Trp ws p' (a.1::ps'.map (·.1)) q0:=hp';cases hp2 with
   | cons e1 e2 e3 e4 e5 e6=>
    sizeOf_list_dec
    exists _,_,_,_,_,rfl,e1,e2,e3,e4,e5;left;exact⟨ps',_,_,_,rfl,rfl,e6⟩
 ·rintro ρ ⟨ps',p',z1,z2,h1,rfl,hp'⟩;cases ps' with
  | cons a ps'=>cases h1
  | nil=>cases hp';left;exact q
theorem D8b (a b:Option Int):PyData.eqv (oD a) (oD b)=decide (a=b):=by
 cases a with
 | none=>cases b with
  | none=>rfl
  | some y=>rfl
 | some x=>cases b with
  | none=>rfl
  | some y=>
   show PyData.eqv (.int x) (.int y)=_;rw[A4m];by_cases h:x=y
   ·subst h;simp
   ·simp [h]
theorem C5y:∀a b:Tb,PyData.eqvAll (E2 a) (E2 b)=decide (a=b)
 | [],[]=>rfl
 | [],_::_=>rfl
 | _::_,[]=>rfl
 | x::a,y::b=>by
  show PyData.eqvAll (oD x::E2 a) (oD y::E2 b)=_;rw[PyData.eqvAll,D8b,C5y a b];by_cases h:x=y
  ·subst h;simp
  ·simp [h]
theorem D8c (a b:Tb):PyData.eqv (.list (E2 a)) (.list (E2 b))=decide (a=b):=by rw[PyData.eqv];exact C5y a b
theorem C5z:∀t:Tb,PyData.canLayAll0 (E2 t)=true
 | []=>rfl
 | x::t=>by
  show (PyData.canLay0 (oD x)&&PyData.canLayAll0 (E2 t))=true;rw[C5z t];cases x <;> rfl
theorem C50 (t:Tb):PyData.canLay0 (.list (E2 t))=true:=by rw[PyData.canLay0];exact C5z t
theorem C51:∀t:Tb,PyData.depthAll (E2 t)=0
 | []=>rfl
 | x::t=>by
  show max (PyData.depth (oD x)) (PyData.depthAll (E2 t))=0;rw[C51 t];cases x <;> rfl
theorem C52 (t:Tb):PyData.depth (.list (E2 t))=1:=by
 show PyData.depthAll (E2 t)+1=1;rw[C51]
def D8d:DSp:=λds Q=>∃(m:Nat)(ws:!Wy)(st:Int)(t:Tb),ds=[K2 m ws,.int st,.list (E2 t)]/\J2 m ws/\t.length=m/\Q (.list ((W1 m ws st m (t,G1 m none)).map S2))
def D8e:DSp:=λds Q=>∃(m:Nat)(ws:!Wy)(rs:!Rw),ds=[K2 m ws,.list (rs.map S2)]/\Q (.bool (decide (m<rs.length)))
def D8f:DSp:=λds Q=>∃(m:Nat)(ws:!Wy)(rs:!Rw)(r:Rw),ds=[K2 m ws,.list (rs.map S2)]/\J2 m ws/\A62 m ws rs/\rs.length<=900/\rs.getLast?=some r/\(∃p n,gt r.2 p=some n)/\
 ∀p n,p<m->gt r.2 p=some n->Q (.tuple [.int ((wlk ws rs.reverse p).1:Nat),.list (J0 (wlk ws rs.reverse p).2)])
def B0n (p:Nat)(N:!Nat):PyData:=.tuple [.int (p:Nat),.list (J0 N)]
def D8g:DSp:=λds Q=>∃(m:Nat)(ws:!Wy)(st:Int)(b:Tb)(N:!Nat)(P:Nat->Nat)(L:Nat->Int),ds=[K2 m ws,B0n (P 0) N]/\J2 m ws/\F3 m st b/\Wk ws st b N P L/\N.length=m/\
 ∀i j,i<j->j<=m->P i=P j->Q (.tuple [.list (J0 (seg N 0 i)),.list (J0 (seg N i j))])
theorem B9m {α β:Type}{f:α->β}{xs:!α}{x:α}(h:xs.getLast?=some x):(xs.map f).getLast?=some (f x):=by
 let⟨ys,rfl⟩:=List.getLast?_eq_some_iff.mp h;simp
theorem Wk.places {ws:!Wy}{st:Int}{b:Tb}{N:!Nat}{P:Nat->Nat}{L:Nat->Int}(W:Wk ws st b N P L):[P 0]++N.map (A22 ws)=(U2 (N.length+1)).map P:=by
 apply C0s;intro k;cases k with
 | zero=>simp
 | succ k=>
  rw[A7g (by simp),M2,M2];by_cases h:k<N.length
  ·rw[C0t (OO)];show (N[k]?).map (A22 ws)=some (P (k+1));let⟨w,hw,_,e,_⟩:=W.way k N[k] (M8 h);rw[M8 h];show some (A22 ws N[k])=_;unfold A22;rw[hw,<-e]
  ·rw[A2g (l:=U2 _) (by rw[m5];omega)];show (N[k]?).map (A22 ws)=none;rw[A2g (OO)];rfl
theorem D8h:FK P w base 4 T.bh (spD [.sh,.sh,.bo] D8d):=by
 have eG:=@C5v P w K mg base T;have eI:=T.aJ.b;refine K4 T.bh.F B3m rfl (λC cdv A outer s H E hr=>⟨_,(@J8 _ _ _ _ _ _ (A2z (pS (i:=3) B3m.nd (Y7 J5))) (@J8 _ _ _ _ _ _ (K0 (pS (i:=4) B3m.nd (F8 (pcF T.aT (C5u T) hr (V1 (pv 2) F7 A0))))) (@J8 _ _ _ _ _ _ (@A95 _ _ _ _ _ (@A49 _ _ _ _ _ _ T3 (P6 A2o A75 (A57 (K5 V8 rfl T.aP T9 (A3 (pv 3) A4 A0))) (E7 (pv 0) (E8 (cII T.g_MANY))) (F6 _)) (@J8 _ _ _ _ _ _ (A79 (N7 (L8 S9 U5 U6 T6 (pv 3) (A3 (A6 (pv 4)) A4 A0)))) (@J8 _ _ _ _ _ _ (@K0 _ _ _ _ _ (@C7 _ _ 4 _ _ _ _ B3m.nd rfl (B6 rfl) (@F8 _ _ _ _ _ _ _ (@B3 _ _ _ _ _ _ _ _ _ _ _ _ _ _ _ _ eG (hr.mono DD) rfl T.aJ.m T.aJ.F.kp eI .nil A7 (B8 (A6 (pv 0)) (B8 (A6 (pv 1)) (B8 (E7 (pv 4) (E8 (cII T.g_TABLE))) (B8 (E7 (pv 4) (E8 (cII T.g_TABLE))) F7 B0) B0) A0) A0) DD A0 ((A9 A0 (A9 B0 (A9 B0 A5)))))) (by rfl) (by first | exact .inl rfl | exact .inr rfl | assumption))) (E9 (V9 (P6 (A9w (b6 hr)) A2v (E7 (pv 4) (E8 (cII T.g_TABLE))) (T1 (E7 (pv 3) (A0l F0)) (E8 (cII T.g_TABLE))) (F6 _))
   (E9 (G7 (A6 (pv 3))))
   X2)))))) (J8 (A79 (N7 (L8 S9 U5 U6 T6 (pv 3) (A3 (A6 (pv 4)) A4 A0))))
   (E9 (G7 (A6 (pv 3)))))))),λds Q hl h=>?_⟩)
 let⟨m,ws,st,t,rfl,ok,ht,q⟩:=h;have m2:=ok.m2;left;exists DD,rfl,t,rfl,OO;unfold A8a;refine⟨fun μ ρ=>∃(rs:!Rw)(r:Rw),ρ=[Sl.sh (K2 m ws),Sl.sh (.int st),Sl.bo (E2 t),Sl.ow (rs.map S2),Sl.sh (S2 r)]/\rs.length+μ=m/\r.1.length=m/\rs++W1 m ws st μ r=W1 m ws st m (t,G1 m none),⟨m,[],(t,G1 t.length none),rfl,by simp,ht,by rw[ht];rfl⟩,?_⟩;rintro μ ρ ⟨rs,r,rfl,h1,h2,h3⟩;right;rw[B7];cases μ with
 | zero=>rw[decide_eq_false (OO)];right;exists OO;have e:rs++[r]=W1 m ws st m (t,G1 m none):=h3;rw[<-e,L7] at q;exact q
 | succ μ=>
  rw[decide_eq_true (OO)]
  decreasing_trivial_pre_omega
  refine⟨by rw[B7];omega,?_⟩;exists m,ws,st,r.1,r.1,rfl,ok,h2,h2;right;rw[show -(1:Int)=-1 from rfl,B14];right;refine⟨C50 _,C50 _,by rw[C52,C52];decide,?_⟩;rw[D8c];by_cases c:(L6 m ws st r.1 r.1).1=r.1
  ·rw[decide_eq_true c];right;have e:rs++[r]=W1 m ws st m (t,G1 m none):=by rw[<-h3,W1,if_pos c]
   rw[<-e,L7] at q;exact q
  ·rw[decide_eq_false c];right;exists μ,OO,rs++[r],L6 m ws st r.1 r.1,by rw[L7];rfl,by simp;omega,(Y1 (st:=st) (t:=r.1) ok h2).l1;rw[<-h3,W1,if_neg c];simp
theorem D8i:FK P w base 1 T.bx (spD [.sh,.sh] D8e):=by
 refine K4 T.bx.F D5i rfl (λC cdv A outer s H E hr=>⟨_,(E9 (G7 (A1i A3r A76 (A57 (K5 V8 rfl T.aP T9 (A3 (pv 1) A4 A0))) (E7 (pv 0) (E8 (cII T.g_MANY))) (F6 _)))),λds Q hl h=>?_⟩);let⟨m,ws,rs,rfl,q⟩:=h;right;rw[B7];rw[show decide (((m:Nat):Int)<((rs.length:Nat):Int))=decide (m<rs.length) by by_cases c:m<rs.length <;> simp [c]];exact q
theorem D8j:FK P w base 2 T.bz (spD [.sh,.sh] D8f):=by
 have fK:=@C5w P w K mg base T;have fL:=T.bH.b;refine K4 T.bz.F C45 rfl (λC cdv A outer s H E hr=>⟨_,(@J8 _ _ _ _ _ _ (K0 (C7 (i:=2) C45.nd rfl (Or.inr rfl) (T1 (E7 (pv 1) (A0l F0)) (E8 (cII T.g_RISEN))))) (@E9 _ _ _ _ (@G7 _ _ _ _ _ (@F8 _ _ _ _ _ _ _ (@B3 _ _ _ _ _ _ _ _ _ _ _ _ _ _ _ _ fK (hr.mono DD) rfl T.bH.m T.bH.F.kp fL .nil A7 (@B8 _ _ _ _ _ _ (A6 (pv 0)) (@B8 _ _ _ _ _ _ (A6 (pv 1)) (@B8 _ _ _ _ _ _ (@T1 _ _ _ _ _ _ _ (@M7 _ _ _ _ (@A20 _ _ _ _ _ _ _ _ rfl (W9 (N1.new (N:=["land","rows","last"]) (osc:=B5 B22) KK) rfl (B2n (A2m rfl T.cj (E4 (E7 (pv 0) (E8 (cII T.g_MANY))) J5 B0))) (λJ=>(B5a (P6 A5c A50 (E7 (pv 2) (A6 (pv 3))) P4 (F6 _)))) (λJ=>(A6 (pv 3)))))) F0 (λJ J=>rfl)) F7 B0) A0) A0) DD A0 ((A9 A0 (A9 B0 A5)))))))),λds Q hl h=>?_⟩);let⟨m,ws,rs,r,rfl,ok,hR,hn,hl2,⟨p0,n0,hp0⟩,q⟩:=h;have m2:=ok.m2;have hr0:=hR r (List.mem_of_getLast? hl2)
 array_mem_dec
 rw[show -(1:Int)=-1 from rfl,B3r (B9m hl2)]
 array_mem_dec
 refine⟨⟨OO,OO⟩,⟨rfl,by unfold g7;rw[B7,m5];omega⟩,?_⟩;unfold g7;rw[show ((m:Nat):Int).toNat=m by simp];refine B2q (p:=λi=>(gt r.2 i).isSome) (f:=λi=>.int (0+((i:Nat):Int))) (λi hi Q' q'=>?_) (λi hi J Q' q'=>?_) ?_
 ·left;rw[show (0:Int)+((i:Nat):Int)=((i:Nat):Int) by omega] at q' ⊢;rw[C5g (by rw[hr0.1];exact A2d.mp hi)];left;cases c:gt r.2 i with
  | none=>rw[c] at q';exact q'
  | some n=>rw[c] at q';exact q'
 ·exact q'
 ·have hp0m:p0<m:=by
   by_cases h:p0<m
   ·exact h
   ·rw[B56 (by rw[hr0.1];omega)] at hp0;cases hp0
  have hmem:p0∈(U2 m).filter λi=>(gt r.2 i).isSome:=B05.mpr ⟨A2d.mpr hp0m,by rw[hp0];rfl⟩;cases hf:(U2 m).filter λi=>(gt r.2 i).isSome with
  | nil=>rw[hf] at hmem;cases hmem
  | cons p ps=>
   have hpm:p∈(U2 m).filter λi=>(gt r.2 i).isSome:=by rw[hf];exact E5
   let⟨h1,h2⟩:=B05.mp hpm;let⟨n,hn'⟩:=Option.isSome_iff_exists.mp h2;rw[T2,K9,B2p];left;refine⟨m,ws,rs,p,by rw[show (0:Int)+((p:Nat):Int)=((p:Nat):Int) by omega];rfl,A2d.mp h1,ok,hR,hn,q p n (A2d.mp h1) hn'⟩
theorem C53 {P:Nat->Nat}:∀k:Nat,(∀i j,i<j->j<k->P i≠P j)->((U2 k).map P).Nodup
 | 0,_=>B4q
 | k+1,h=>by
  rw[C0x,L7,List.nodup_append];refine⟨C53 k λi j h1 h2=>h i j h1 OO,by simp,λa ha b hb=>?_⟩;let⟨i,hi,rfl⟩:=L0.mp ha;have:b=P k:=by simpa using hb
  subst this;exact h i k (A2d.mp hi) (OO)
def plI (P:Nat->Nat)(n:Nat):!Int:=((U2 n).map P).map λp=>((p:Nat):Int)
theorem B9n {P:Nat->Nat}{n:Nat}{x:Nat}:((x:Nat):Int)∈plI P n↔∃i,i<n/\P i=x:=by
 unfold plI;constructor
 ·intro h;let⟨y,hy,e⟩:=L0.mp h;let⟨i,hi,rfl⟩:=L0.mp hy;exact⟨i,A2d.mp hi,OO⟩
 ·rintro ⟨i,hi,rfl⟩;exact L0.mpr ⟨P i,L0.mpr ⟨i,A2d.mpr hi,rfl⟩,rfl⟩
theorem D8k {P:Nat->Nat}{n:Nat}:J0 ((U2 n).map P)=(plI P n).map PyData.int:=by
 simp only[J0,plI,Q8];rfl
theorem B9o {P:Nat->Nat}{n:Nat}:(plI P n).length=n:=by unfold plI;rw[B7,B7,m5]
theorem D8l {P:Nat->Nat}{n:Nat}{x:Nat}(h:((x:Nat):Int)∈plI P n):(plI P n).idxOf ((x:Nat):Int)<n/\P ((plI P n).idxOf ((x:Nat):Int))=x:=by
 have h1:=B4i.mpr h;have h2:=C8i h1;rw[B9o] at h1;exists h1;have hx:∀i (h:i<(plI P n).length),(plI P n)[i]=((P i:Nat):Int):=λi h=>by simp [plI]
 rw[hx] at h2;omega
theorem D8m:FK P w base 1 T.aF (spD [.sh,.sh] D8g):=by
 refine K4 T.aF.F B0g rfl (λC cdv A outer s H E hr=>⟨_,(@J8 _ _ _ _ _ _ (@K0 _ _ _ _ _ (@C7 _ _ 2 _ _ _ _ B0g.nd rfl (B6 rfl) (@M7 _ _ _ _ (@B2i _ _ _ _ _ _ _ (M7 (Y7 (E4 (E7 (pv 1) (E8 (cII T.g_FROM))) J5 B0))) (@M7 _ _ _ _ (@A20 _ _ _ _ _ _ _ _ rfl (@W9 _ _ _ _ _ _ _ _ _ _ _ _ _ _ _ (N1.new (N:=["land","walk","places","end","begin"]) (osc:=B5 B23) KK) rfl (B5u (E7 (pv 1) (E8 (cII T.g_BY)))) (λJ=>A2y) (λJ=>(T1 (T1 (E7 (pv 0) (E8 (cII T.g_WAYS))) (A6 (pv 5))) (E8 (cII T.g_END)))) (by rfl) (by rfl) (by intro _;rfl)))))) (by rfl) (by first | exact .inl rfl | exact .inr rfl | assumption))) (@J8 _ _ _ _ _ _ (K0 (pS (i:=3) B0g.nd F0)) (@J8 _ _ _ _ _ _ (A95 (A49 T3 (P6 C19 D2x (E7 (pv 2) (A6 (pv 3))) (M7 (B5q (pv 2) B2h (A77 (A6 (pv 3))))) (by with_unfolding_all rfl))
   (E9 (K0 (pS (i:=3) B0g.nd (L5 Q4 Y0 (A6 (pv 3)) F0)))))) (@J8 _ _ _ _ _ _ (K0 (pS (i:=4) B0g.nd (C3j (L8 S9 C8h PySem.F.type_list_index C2r (pv 2) (A3 (E7 (pv 2) (A6 (pv 3))) A4 B0))))) (E9 (G7 (Y6 (E4 (M7 (C3a (E7 (pv 1) (E8 (cII T.g_BY))) B2h (A77 (A6 (pv 4))))) (E4 (M7 (C3a (E7 (pv 1) (E8 (cII T.g_BY))) (A77 (A6 (pv 4))) (A77 (A6 (pv 3))))) J5 B0) B0)))))))),λds Q hl h=>?_⟩)
 let⟨m,ws,st,b,N,PP,L,rfl,ok,hb,W,hN,q⟩:=h;have m2:=ok.m2;have hpl:∀k,k<=m->PP k<m:=λk hk=>W.pl ok hb k (OO);unfold B0n
 array_mem_dec
 refine⟨DD,⟨rfl,by rw[A4k];omega⟩,?_⟩;unfold J0;refine A21 (f:=λn=>.int (A22 ws n:Nat)) (λn hm Q' q'=>?_) ?_
 ·let⟨k,hk,rfl⟩:=B1a.mp hm;let⟨w,hw,_,e,_⟩:=W.way k N[k] (M8 hk);right;rw[B3q hw];right;have e2:A22 ws N[k]=w.2.1:=by unfold A22;rw[hw]
  rw[e2] at q';exact q'
 ·left;refine⟨by rw[B7];omega,?_⟩;have epl:PyData.int ((PP 0:Nat):Int)::N.map (λn=>PyData.int ((A22 ws n:Nat):Int))=(plI PP (m+1)).map PyData.int:=by
   have:=W.places;rw[hN] at this;rw[<-D8k,<-this];unfold J0;rw[L7,Q8];rfl
  rw[epl];unfold A8a;refine⟨fun μ ρ=>∃(k:Nat)(z:Sl),ρ=[Sl.sh (K2 m ws),Sl.sh (B0n (PP 0) N),Sl.sh (.list ((plI PP (m+1)).map PyData.int)),Sl.sh (.int (k:Nat)),z]/\1<=k/\k<=m/\μ+k=m/\∀i j,i<j->j<k->PP i≠PP j,⟨m-1,1,_,rfl,OO,ok.m1,by have:=ok.m1;omega,λi j h1 h2=>OO⟩,?_⟩;rintro μ ρ ⟨k,z,rfl,k1,k2,hμ,hd⟩;right;have eat:atI ((plI PP (m+1)).map PyData.int) ((k:Nat):Int)=some (.int ((PP k:Nat):Int)):=f7 (by
   unfold plI;rw[Q8,M2,M2,C0t (OO)];rfl)
  have ecut:y4 ((plI PP (m+1)).map PyData.int) none (some ((k:Nat):Int))=(plI PP k).map PyData.int:=by
   rw[B52,<-A2i];congr 1;unfold plI;rw[<-A2i,<-A2i,List.take_range,B4n (OO)]
  rw[eat];right;rw[ecut,A8b];right;by_cases c:((PP k:Nat):Int)∈plI PP k
  ·rw[show (not ((plI PP k).contains ((PP k:Nat):Int)))=false by simp [c]];right;rw[A8b];right;have hc2:((PP k:Nat):Int)∈plI PP (m+1):=B9n.mpr ⟨k,OO,rfl⟩;refine⟨⟨hc2,by rw[B9o];omega⟩,?_⟩;let⟨i0,hi0,ei0⟩:=B9n.mp c;let⟨hi1,hi2⟩:=D8l hc2;have hik:(plI PP (m+1)).idxOf ((PP k:Nat):Int)<k:=by
    by_cases h:(plI PP (m+1)).idxOf ((PP k:Nat):Int)<k
    ·exact h
    ·exfalso;have hmem:((PP k:Nat):Int)∈(plI PP (m+1)).take k:=by
      have:(plI PP (m+1)).take k=plI PP k:=by
       unfold plI;rw[<-A2i,<-A2i,List.take_range,B4n (OO)]
      rw[this];exact c
     have h1:=B4i.mpr hmem;rw[X5,B9o] at h1;have h2:(plI PP (m+1)).idxOf ((PP k:Nat):Int)=((plI PP (m+1)).take k).idxOf ((PP k:Nat):Int):=by
      conv=>lhs;rw[<-List.take_append_drop k (plI PP (m+1))]
      rw[List.idxOf_append,if_pos hmem]
     omega
   unfold B0n;right;generalize (plI PP (m+1)).idxOf ((PP k:Nat):Int)=i at hi1 hi2 hik;exists DD;have qq:=q i k hik k2 hi2;have e1:y4 (J0 N) none (some ((i:Nat):Int))=J0 (seg N 0 i):=by
    rw[B52];unfold J0 seg;rw[<-A2i,B4m,Nat.sub_zero]
   have e2:y4 (J0 N) (some ((i:Nat):Int)) (some ((k:Nat):Int))=J0 (seg N i k):=by
    rw[D21 (by rw[A4k];omega) (by rw[A4k];omega)];unfold J0 seg;rw[A2i,List.map_drop]
   rw[e1,e2];exact qq
  ·rw[show (not ((plI PP k).contains ((PP k:Nat):Int)))=true by simp [c]]
   decreasing_trivial_pre_omega
   have hd2:∀i j,i<j->j<k+1->PP i≠PP j:=λi j h1 h2 e=>by
    by_cases hj:j<k
    ·exact hd i j h1 hj e
    ·have:j=k:=by omega
     subst this;exact c (B9n.mpr ⟨i,h1,e⟩)
   have hkm:k+1<=m:=by
    have:=B6e m ((U2 (k+1)).map PP) (C53 (k+1) hd2) λx hx=>by
     let⟨i,hi,rfl⟩:=L0.mp hx;exact hpl i (by have:=A2d.mp hi;omega)
    rw[B7,m5] at this;exact this
   exact⟨μ-1,OO,k+1,_,rfl,OO,hkm,OO,hd2⟩
theorem Wk.nb {ws:!Wy}{st:Int}{b:Tb}{N:!Nat}{P:Nat->Nat}{L:Nat->Int}(W:Wk ws st b N P L):∀n∈N,n<ws.length:=λn hn=>by
 let⟨k,hk,rfl⟩:=B1a.mp hn;let⟨w,hw,_⟩:=W.way k N[k] (M8 hk);exact (X4.mp hw).1
theorem D8n {N:!Nat}{i j n:Nat}(h:n∈seg N i j):n∈N:=List.mem_of_mem_drop (List.mem_of_mem_take h)
theorem B9p {N:!Nat}{i j:Nat}:(seg N i j).length<=N.length:=by
 unfold seg;rw[X5,List.length_drop];omega
set_option tactic.hygienic true in
theorem D8o {m:Nat}{ws:!Wy}(ok:J2 m ws)(n:Nat):o8 ws n<=∅:=by
 unfold o8;split
 ·rename_i w hw;exact ok.hi w (U4 hw)
 ·decide
theorem C54 {B:Int}:∀{cs:!Int},(∀c∈cs,c<=B)->cs.sum<=(cs.length:Int)*B
 | [],_=>by simp
 | c::cs,h=>by
  have:=C54 (cs:=cs) λd hd=>h d (E3 _ hd);have h1:=h c E5;rw[C0w,J6,Int.natCast_add,Int.add_mul];omega
theorem D8p {x g:Int}(hx:0<x)(hg:0<g):1<=-(-x/g)/\-(-x/g)<=x:=by
 have e:=Int.mul_ediv_add_emod (-x) g;have r0:=B4p (-x) (show g≠0 by omega);have r1:=C0z (-x) hg;generalize -x/g=d at e;constructor
 ·by_cases h:0<=d
  ·have:=Int.mul_nonneg (Int.le_of_lt hg) h;omega
  ·omega
 ·by_cases h:-x<=d
  ·omega
  ·exfalso;have h1:g*d<=g*(-x-1):=Int.mul_le_mul_of_nonneg_left OO (OO);have h2:g*(-x-1)=-(g*x)-g:=by rw[Int.mul_sub,Int.mul_neg,Int.mul_one]
   have h3:1*x<=g*x:=Int.mul_le_mul_of_nonneg_right OO (OO);omega
theorem D8q {x g:Int}(hg:0<g):x<=-(-x/g)*g:=by
 have e:=Int.mul_ediv_add_emod (-x) g;have r0:=B4p (-x) (show g≠0 by omega);rw[Int.neg_mul,Int.mul_comm];omega
def A0r (N:!Nat)(i j k:Nat)(tm:Int):!Pt:=(prt (seg N 0 i)++[(seg N i j,tm)])++prt (seg N i (i+k))
def D8r:DSp:=λds Q=>∃(m:Nat)(ws:!Wy)(st:Int)(b:Tb)(N:!Nat)(P:Nat->Nat)(L:Nat->Int),ds=[K2 m ws,.int st,.int (L 0),B0n (P 0) N]/\J2 m ws/\0<=st/\st<=1000000000000000000000/\F3 m st b/\Wk ws st b N P L/\N.length=m/\
 ∀i j k le g tp tm,i<j->j<=m->P i=P j->le<=L i->Rnd st (chs ws (seg N i j)) (L i) le g tp k->1<=tm->tm<=1000000000000000000000000->tp<=L i+tm*g->Q (.list ((A0r N i j k tm).map b7))
theorem B3u {ns:!Nat}:(prt ns).length<=1:=by unfold prt;split <;> simp
theorem D8s:FK P w base 6 T.aZ (spD [.sh,.sh,.sh,.sh] D8r):=by
 have iF:=@D7f P w K mg base T;have iG:=T.bW.b;have fb:=@D7g P w K mg base T;have fc:=T.aD.b;refine K4 T.aZ.F A4h rfl (λC cdv A outer s H E hr=>⟨_,(@L9 _ _ _ _ _ _ (K0 (pS (i:=4) A4h.nd (F8 (pcF T.aF (D8m T) hr (B8 (A6 (pv 0)) (B8 (A6 (pv 3)) F7 A0) A0))))) (@L9 _ _ _ _ _ _ (K0 (pS (i:=5) A4h.nd (E7 (pv 4) F0))) (@L9 _ _ _ _ _ _ (K0 (pS (i:=6) A4h.nd (E7 (pv 4) F0))) (@L9 _ _ _ _ _ _ (@K0 _ _ _ _ _ (@C7 _ _ 7 _ _ _ _ A4h.nd rfl (B6 rfl) (@F8 _ _ _ _ _ _ _ (@B3 _ _ _ _ _ _ _ _ _ _ _ _ _ _ _ _ iF (hr.mono DD) rfl T.bW.m T.bW.F.kp iG .nil A7 (B8 (A6 (pv 1)) (B8 (F8 (pcF T.aC (D72 T) hr (B8 (A6 (pv 0)) (B8 (A6 (pv 6)) F7 A0) A0))) F7 C6) A0) DD A0 ((A9 C6 A5)))) (by rfl) (by first | exact .inl rfl | exact .inr rfl | assumption))) (@L9 _ _ _ _ _ _ (@K0 _ _ _ _ _ (@C7 _ _ 8 _ _ _ _ A4h.nd rfl (B6 rfl) (@L5 _ _ _ _ _ _ _ _ _ _ A5b B2c (E7 (pv 7) (E8 (cII T.g_TOP))) (@T1 _ _ _ _ _ _ _ (@F8 _ _ _ _ _ _ _ (@B3 _ _ _ _ _ _ _ _ _ _ _ _ _ _ _ _ fb (hr.mono DD) rfl T.aD.m T.aD.F.kp fc .nil A7 (B8 (A6 (pv 1)) (B8 (A6 (pv 2)) (B8 (F8 (pcF T.aC (D72 T) hr (B8 (A6 (pv 0)) (B8 (A6 (pv 5)) F7 A0) A0))) F7 C6) A0) A0) DD A0 ((A9 A0 (A9 C6 A5))))) (A0l F0) (λJ J=>rfl))) (by rfl) (by first | exact .inl rfl | exact .inr rfl | assumption))) (@L9 _ _ _ _ _ _ (K0 (pS (i:=9) A4h.nd (A0l (L5 B5c C20 (A0l (A6 (pv 8))) (E7 (pv 7) (E8 (cII T.g_GAIN))))))) (@L9 _ _ _ _ _ _ (@K0 _ _ _ _ _ (@C7 _ _ 10 _ _ _ _ A4h.nd rfl (B6 rfl) (@F8 _ _ _ _ _ _ _ (@B3 _ _ _ _ _ _ _ _ _ _ _ _ _ _ _ _ fb (hr.mono DD) rfl T.aD.m T.aD.F.kp fc .nil A7 (B8 (A6 (pv 1)) (B8 (E7 (pv 7) (E8 (cII T.g_TOP))) (B8 (F8 (pcF T.aC (D72 T) hr (B8 (A6 (pv 0)) (B8 (A6 (pv 6)) F7 A0) A0))) F7 C6) B0) A0) DD A0 ((A9 B0 (A9 C6 A5))))) (by rfl) (by first | exact .inl rfl | exact .inr rfl | assumption))) (@E9 _ _ _ _ (@G7 _ _ _ _ _ (@M7 _ _ _ _ (@B2i _ _ _ _ _ _ _ (M7 (B2i (F8 (pcF T.bC (D77 T) hr (B8 (A6 (pv 5)) F7 A0))) (M7 (Y7 (E4 (Y6 (E4 (A6 (pv 6)) (E4 (A6 (pv 9)) J5 A0) A0)) J5 g4))))) (F8 (pcF T.bC (D77 T) hr (B8 (M7 (B5q (pv 6) B2h (A77 (C3j (L8 S9 C8h PySem.F.type_list_index C2r (pv 10) (A3 (A6 (pv 1)) A4 A0)))))) F7 B0)))))))))))))),λds Q hl h=>?_⟩);let⟨m,ws,st,b,N,PP,L,rfl,ok,h0,hst,hb,W,hN,q⟩:=h;have m2:=ok.m2;left;refine⟨m,ws,st,b,N,PP,L,rfl,ok,hb,W,hN,λi j hij hj hp=>?_⟩;have nb:∀a c n,n∈seg N a c->n<ws.length:=λa c n hn=>W.nb n (D8n hn);have fw:∀a c,(seg N a c).length<=900:=λa c=>by have:=@B9p N a c;omega
 have fw2:∀a c,(chs ws (seg N a c)).length<=900:=λa c=>by unfold chs;rw[B7];exact fw a c
 let⟨b0,b1⟩:=W.bd h0 hb i (OO);let⟨le,g,tp,k,R,hle⟩:=D3l b0 b1 (W.seg (i:=i) (j:=j) OO OO) (W.strict i j hij OO hp);have kl:k<=j-i:=by
  have:=R.kl;unfold chs at this;rw[B7,A97 (OO)] at this;exact this
 refine go ?_;left;refine go ?_;left;refine go ?_;left;exists m,ws,seg N i j,rfl,nb i j,fw i j;left;exists st,_,rfl;rw[R.fx];refine go ?_;right;exists m,ws,seg N 0 i,rfl,nb 0 i,fw 0 i;left;exists st,L 0,_,rfl,fw2 0 i;have w0:=W.seg (i:=0) (j:=i) (Q7 _) (OO);have hlast:(Q6 st (L 0) (chs ws (seg N 0 i))).getLast?=some (L i):=by
  let⟨z,z1,z2⟩:=B6b w0 (chs ws (seg N 0 i)).length (G3 _);rw[B4k (G3 _),w0] at z2;cases z2;rw[List.getLast?_eq_getElem?,B6c w0];exact z1
 left;rw[show -(1:Int)=-1 from rfl,B3r (xs:=Z0 _) (B9m hlast)];left;refine go ?_;left;have hg:g<100000000000000000000000000000000000000000000000000000000000000:=by
  rw[R.gs];have h1:=C54 (B:=∅) (cs:=chs ws (seg N i j)) λc hc=>by
   let⟨n,_,rfl⟩:=L0.mp hc;exact D8o ok n
  have h2:=fw2 i j;omega
 exists ⟨R.g0,hg⟩;refine go ?_;left;exists m,ws,seg N i j,rfl,nb i j,fw i j;left;exists st,tp,_,rfl,fw2 i j;refine go ?_;left;exists seg N 0 i,rfl;left;have hp1:=@B3u (seg N 0 i);refine⟨DD,DD,by rw[B7];simp;omega,?_⟩;unfold Z0;rw[A8b];left;refine⟨⟨R.km,by rw[R.ll];have:=fw2 i j;omega⟩,?_⟩;rw[R.ki];have ecut:y4 (J0 (seg N i j)) none (some ((k:Nat):Int))=J0 (seg N i (i+k)):=by
  rw[B52];unfold J0;rw[<-A2i,B6d kl]
 rw[ecut];exists _,rfl;left;have hp2:=@B3u (seg N i (i+k));refine⟨by simp;omega,?_⟩;let⟨t1,t2⟩:=D8p (x:=tp-L i) (g:=g) (by have:=R.xt;omega) R.g0;have t3:=R.tst;have qq:=q i j k le g tp (-(-(tp-L i)/g)) hij hj hp hle R t1 OO (by have:=@D8q (tp-L i) g R.g0;omega);unfold A0r at qq;rw[L7,L7] at qq;exact qq
theorem Rows.risen {m:Nat}{ws:!Wy}{st:Int}{b:Tb}(ok:J2 m ws)(h0:0<=st)(hb:F3 m st b){r:Rw}{rs:!Rw}(h:Rows m ws st b (r::rs))(hn:rs≠[]):∃p n,gt r.2 p=some n:=by
 cases h with
 | one=>exact absurd rfl hn
 | @more r0 rs0 h' c=>
  let⟨a1,_,_⟩:=h'.ok ok h0 hb;have I:=Y1 (st:=st) (t:=r0.1) ok a1.len;by_cases z:∃p n,gt (L6 m ws st r0.1 r0.1).2 p=some n
  ·exact z
  ·refine absurd (C3n (by rw[I.l1,a1.len]) λp=>I.no p ?_) c;cases e:gt (L6 m ws st r0.1 r0.1).2 p with
   | none=>rfl
   | some n=>exact absurd ⟨p,n,e⟩ z
theorem Rows.rok {m:Nat}{ws:!Wy}{st:Int}{b:Tb}(ok:J2 m ws)(h0:0<=st)(hb:F3 m st b):∀{rs:!Rw},Rows m ws st b rs->A62 m ws rs
 | _,.one=>λr hr=>by
  have:r=(b,G1 m none):=by simpa using hr
  subst this;exact⟨by simp,λq n e=>by rw[A18] at e;cases e⟩
 | _,.more (r:=r0) h c=>λr hr=>by
  rcases K7.mp hr with e | hr
  ·subst e;let⟨a1,_,_⟩:=h.ok ok h0 hb;have I:=Y1 (st:=st) (t:=r0.1) ok a1.len;refine⟨I.l2,λq n e=>?_⟩;let⟨w,hw,_⟩:=I.yes q n e;exact (X4.mp hw).1
  ·exact Rows.rok ok h0 hb h r hr
theorem D8t {m:Nat}{ws:!Wy}{st:Int}{b:Tb}(ok:J2 m ws)(h0:0<=st)(hb:F3 m st b):∃r rs,(W1 m ws st m (b,G1 m none)).reverse=r::rs/\(W1 m ws st m (b,G1 m none)).getLast?=some r/\(W1 m ws st m (b,G1 m none)).length=rs.length+1/\rs.length<=m/\Rows m ws st b (r::rs)/\A62 m ws (W1 m ws st m (b,G1 m none))/\
  ((W1 m ws st m (b,G1 m none)).length<=m->S1 m ws st b r.1):=by
 let⟨r,rs,e,h,z⟩:=C3p (m:=m) (ws:=ws) (st:=st) (b:=b) m (b,G1 m none) [] .one;rw[List.reverse_nil,T2] at e;have hl:(W1 m ws st m (b,G1 m none)).length=rs.length+1:=by
  rw[<-A7l,e];rfl
 have hbd:∀(k:Nat)(q:Rw),(W1 m ws st k q).length<=k+1:=by
  intro k
  induction k with
  | zero=>intro q;exact G3 _
  | succ k ih=>
   intro q;unfold W1;split
   ·simp
   ·have:=ih (L6 m ws st q.1 q.1);simp;omega
 have hb2:=hbd m (b,G1 m none);refine⟨r,rs,e,?_,hl,OO,h,λq hq=>h.rok ok h0 hb q (by rw[<-e];exact List.mem_reverse.mpr hq),λhm=>?_⟩
 ·rw[<-List.head?_reverse,e];rfl
 ·rcases z with z | z
  ·exact h.least ok h0 hb z
  ·rw[J6] at z;simp at z;omega
abbrev Rd:=Nat×!Pt
def A88 (r:Rd):PyData:=.tuple [.int (r.1:Nat),.list (r.2.map b7)]
def itF (st:Int)(cs:!Int):Nat->Option Int->Option Int
 | 0,o=>o
 | n+1,o=>itF st cs n (wkF st o cs)
def A28 (ws:!Wy)(st:Int):Option Int->!Pt->Option Int
 | o,[]=>o
 | o,p::ps=>A28 ws st (itF st (chs ws p.1) p.2.toNat o) ps
theorem B3v {ws:!Wy}{st:Int}:∀(xs:!Pt)(o:Option Int)(ys:!Pt),A28 ws st o (xs++ys)=A28 ws st (A28 ws st o xs) ys
 | [],_,_=>rfl
 | x::xs,o,ys=>B3v xs _ ys
theorem C55 {ws:!Wy}{st:Int}{o:Option Int}{ns:!Nat}:A28 ws st o (prt ns)=wkF st o (chs ws ns):=by
 cases ns with
 | nil=>rfl
 | cons n ns=>rfl
theorem C56 {st:Int}{cs:!Int}{le g tp:Int}(fx:fxF st cs=some (le,g,tp))(g0:0<g)(tst:tp<=st):∀(n:Nat){x:Int},0<=x->le<=x->x<=tp->itF st cs n (some x)=some (if x+((n:Nat):Int)*g<tp then x+((n:Nat):Int)*g else tp)
 | 0,x,x0,h1,h2=>by
  show some x=_;congr 1;split <;> simp at * <;> omega
 | n+1,x,x0,h1,h2=>by
  show itF st cs n (wkF st (some x) cs)=_;have w:=B2u x0 (show x<=st by omega) cs;rw[fx] at w;unfold N2 at w;dsimp only at w;rw[if_neg (OO)] at w;rw[<-w];have e:(((n+1:Nat)):Int)*g=((n:Nat):Int)*g+g:=by rw[Int.natCast_add,Int.add_mul];simp
  have e0:0<=((n:Nat):Int)*g:=Int.mul_nonneg OO (OO);rw[C56 fx g0 tst n (by split <;> omega) (by split <;> omega) (by split <;> omega),e];congr 1;split <;> split <;> split <;> omega
theorem D8u {ws:!Wy}{st:Int}{b:Tb}{N:!Nat}{P:Nat->Nat}{L:Nat->Int}{m:Nat}(W:Wk ws st b N P L)(h0:0<=st)(hb:F3 m st b){i j:Nat}(hij:i<j)(hj:j<=N.length){le g tp tm:Int}{k:Nat}(hle:le<=L i)(R:Rnd st (chs ws (seg N i j)) (L i) le g tp k)(t1:1<=tm)(t3:tp<=L i+tm*g) :
  A28 ws st (some (L 0)) (A0r N i j k tm)=some st:=by
 have kl:k<=j-i:=by
  have:=R.kl;unfold chs at this;rw[B7,A97 hj] at this;exact this
 unfold A0r;rw[B3v,B3v,C55 (o:=some (L 0)),W.seg (Q7 _) (OO)];have hr:A28 ws st (some (L i)) [(seg N i j,tm)]=some tp:=by
  show itF st (chs ws (seg N i j)) tm.toNat (some (L i))=_;rw[C56 R.fx R.g0 R.tst tm.toNat (W.bd h0 hb i OO).1 hle (Int.le_of_lt R.xt),if_neg (by rw[show ((tm.toNat:Nat):Int)=tm by omega];omega)]
 rw[hr,C55];have kw:=R.kw;unfold chs at kw ⊢;rw[<-A2i,B6d kl] at kw;exact kw
structure D8v (ws:!Wy)(st:Int)(b0:Tb)(r:Rd)(q:Nat)(y:Int):Prop where
 trp:Trp ws r.1 r.2 q
 arr:∃y0,gt b0 r.1=some y0/\A28 ws st (some y0) r.2=some y
structure A4n (m:Nat)(ws:!Wy)(st:Int)(b0 b:Tb)(rd:!Rd)(B:Nat):Prop where
 len:rd.length=m
 ok:∀q y r,gt b q=some y->rd[q]?=some r->D8v ws st b0 r q y
 few:∀r∈rd,r.2.length<=B/\∀pt∈r.2,pt.1.length<=m
theorem A4n.more {m:Nat}{ws:!Wy}{st:Int}{b0 b:Tb}{rd:!Rd}{B C:Nat}(h:A4n m ws st b0 b rd B)(l:B<=C):A4n m ws st b0 b rd C:=⟨h.len,h.ok,λr hr=>⟨M0 (h.few r hr).1 l,(h.few r hr).2⟩⟩
def B9q (st:Int)(b0 b:Tb):Prop:=∀p,gt b p=gt b0 p\/gt b p=some st
theorem D8w {N:!Nat}{i j k:Nat}{tm:Int}:∀pt∈A0r N i j k tm,pt.1.length<=N.length:=λpt h=>by
 have hp:∀{a c:Nat},pt∈prt (seg N a c)->pt.1.length<=N.length:=λ{a c} h=>by
  unfold prt at h;split at h
  ·cases h
  ·have:pt=(seg N a c,1):=by simpa using h
   subst this;exact B9p
 unfold A0r at h;rcases p7.mp h with h | h
 ·rcases p7.mp h with h | h
  ·exact hp h
  ·have:pt=(seg N i j,tm):=by simpa using h
   subst this;exact B9p
 ·exact hp h
theorem A4n.fill {m:Nat}{ws:!Wy}{st:Int}{b0 b:Tb}{rd:!Rd}{B:Nat}(h:A4n m ws st b0 b rd B){p f:Nat}{x:Int}{r:Rd}{ps:!Pt}(hf:f<b.length)(hp:gt b p=some x)(hr:rd[p]?=some r)(ht:Trp ws p ps f)(ha:A28 ws st (some x) ps=some st)(h3:ps.length<=3)(hfe:∀pt∈ps,pt.1.length<=m):A4n m ws st b0 (b.set f (some st)) (rd.set f (r.1,r.2++ps)) (B+3):=by
 refine⟨by rw[j8];exact h.len,λq y r' hq hr'=>?_,λr' hr'=>?_⟩
 ·rw[A4a hf] at hq;by_cases c:f=q
  ·subst c;rw[if_pos rfl] at hq;cases hq;rw[A46] at hr';simp only[if_true] at hr';split at hr'
   ·cases hr';let⟨t,y0,e0,e1⟩:=h.ok p x r hp hr;exact⟨t.app ht,y0,e0,by rw[B3v,e1];exact ha⟩
   ·cases hr'
  ·rw[if_neg c] at hq;rw[A2e c] at hr';exact h.ok q y r' hq hr'
 ·rcases List.mem_or_eq_of_mem_set hr' with z | rfl
  ·exact⟨by have:=(h.few r' z).1;omega,(h.few r' z).2⟩
  ·have z:=h.few r (U4 hr);refine⟨by have:=z.1;rw[L3];omega,λpt hpt=>?_⟩;rcases p7.mp hpt with q | q
   ·exact z.2 pt q
   ·exact hfe pt q
set_option tactic.hygienic true in
theorem B9r {m:Nat}{ws:!Wy}{st:Int}{b:Tb}(ok:J2 m ws)(h0:0<=st)(hb:F3 m st b):∀{r:Rw}{rs:!Rw},Rows m ws st b (r::rs)->∀p x,gt r.1 p=some x->
  ∃q y N,wlk ws (r::rs) p=(q,N)/\gt b q=some y/\Pth ws q N p/\wkF st (some y) (chs ws N)=some x/\N.length<=rs.length
 | _,_,.one,p,x,e=>by
  refine⟨p,x,[],?_,e,.nil,rfl,Q7 _⟩;show (match gt (G1 m (none:Option Nat)) p with
   | none=>wlk ws [] p
   | some n=>((wlk ws [] (N4 ws n)).1,(wlk ws [] (N4 ws n)).2++[n]))=_
  rw[A18];rfl
 | _,_,.more (r:=r) (rs:=rs) h c,p,x,e=>by
  let⟨a1,_,a3⟩:=h.ok ok h0 hb;have I:=Y1 (st:=st) (t:=r.1) ok a1.len;have ew:wlk ws (L6 m ws st r.1 r.1::r::rs) p=(match gt (L6 m ws st r.1 r.1).2 p with
   | none=>wlk ws (r::rs) p
   | some n=>((wlk ws (r::rs) (N4 ws n)).1,(wlk ws (r::rs) (N4 ws n)).2++[n])):=rfl
  cases hn:gt (L6 m ws st r.1 r.1).2 p with
  | none=>let⟨q,y,N,f1,f2,f3,f4,f5⟩:=B9r ok h0 hb h p x (by rw[<-I.no p hn];exact e);exact⟨q,y,N,by rw[ew,hn];exact f1,f2,f3,f4,by rw[J6];omega⟩
  | some n=>
   let⟨w,hw,e1,e2,e3⟩:=I.yes p n hn;rw[e] at e2;obtain⟨l',hl',hs⟩:∃l',gt r.1 w.1=some l'/\K8 st l' w.2.2=some x:=by
    have hl2:=e2.symm;unfold P8 at hl2;split at hl2
    ·cases hl2
    ·rename_i l' e;exact⟨l',e,hl2⟩
   let⟨q,y,N,f1,f2,f3,f4,f5⟩:=B9r ok h0 hb h w.1 l' hl';have ws1:N4 ws n=w.1:=by unfold N4;rw[hw]
   have wc:o8 ws n=w.2.2:=by unfold o8;rw[hw]
   refine⟨q,y,N++[n],by rw[ew,hn];show ((wlk ws (r::rs) (N4 ws n)).1,(wlk ws (r::rs) (N4 ws n)).2++[n])=_;rw[ws1,f1],f2,f3.app (by rw[<-e1];exact .cons hw .nil),?_,by simp only[L3,J6,A7m];omega⟩;unfold chs;rw[L7,B6a];show wkF st (wkF st (some y) (chs ws N)) [o8 ws n]=_;rw[f4,wc];exact hs
def D8x:DSp:=λds Q=>∃(m:Nat)(ws:!Wy)(st:Int)(b0:Tb),ds=[K2 m ws,.int st,.list (E2 b0)]/\J2 m ws/\0<=st/\st<=1000000000000000000000/\F3 m st b0/\
 ∀(rs qs:!Rw)(r:Rw)(b:Tb)(rd:!Rd),rs.getLast?=some r->rs.reverse=r::qs->S1 m ws st b0 r.1->Rows m ws st b (r::qs)->A62 m ws rs->rs.length<=m->F3 m st b->B9q st b0 b->A4n m ws st b0 b rd (3*m)->Q (.tuple [.list (rs.map S2),.list (rd.map A88)])
def B0o (m:Nat)(ws:!Wy)(st:Int)(b0 t:Tb):Prop:=∀p x,gt t p=some x->∃q y N,(gt b0 q=some y\/y=st)/\gt t q≠none/\leO (some y) (gt t q)/\Pth ws q N p/\wkF st (some y) (chs ws N)=some x/\N.length+1<=m
theorem D8y {m:Nat}{ws:!Wy}{st:Int}{b0 b:Tb}(ok:J2 m ws)(h0:0<=st)(hb:F3 m st b)(hf:B9q st b0 b){r:Rw}{rs:!Rw}(h:Rows m ws st b (r::rs))(hl:rs.length+1<=m):B0o m ws st b0 r.1:=λp x e=>by
 let⟨q,y,N,_,f2,f3,f4,f5⟩:=B9r ok h0 hb h p x e;have up:=(h.ok ok h0 hb).2.2 q;rw[f2] at up;refine⟨q,y,N,?_,λz=>by rw[z] at up;exact A04 up,up,f3,f4,OO⟩;rcases hf q with z | z
 ·exact .inl (by rw[<-z];exact f2)
 ·rw[f2] at z;cases z;exact .inr rfl
def C57:DSp:=λds Q=>∃(m:Nat)(ws:!Wy)(st:Int)(b0:Tb),ds=[K2 m ws,.int st,.list (E2 b0)]/\J2 m ws/\0<=st/\st<=1000000000000000000000/\F3 m st b0/\∀t,S1 m ws st b0 t->B0o m ws st b0 t->Q (.list (E2 t))
theorem D8z {st:Int}{b:Tb}:A6w st b<=b.length:=List.countP_le_length
theorem D80 {N:!Nat}{i j k:Nat}{tm:Int}:(A0r N i j k tm).length<=3:=by
 unfold A0r;have h1:=@B3u (seg N 0 i);have h2:=@B3u (seg N i (i+k));rw[L3,L3];simp;omega
theorem D81:FK P w base 7 T.cF (spD [.sh,.sh,.bo] D8x):=by
 have gB:=@D8s P w K mg base T;have gC:=T.aZ.b;refine K4 T.cF.F A24 rfl (λC cdv A outer s H E hr=>⟨_,(@L9 _ _ _ _ _ _ (A2z (pS (i:=3) A24.nd (B5p (M6 A3v rfl T.cz A1h (A3 (pv 2) A4 A0))))) (@L9 _ _ _ _ _ _ (@D2s _ _ _ _ _ _ _ _ _ rfl (@A7w _ _ _ _ _ _ _ _ _ _ _ _ _ 4 _ _ _ _ _ A24.nd rfl (B6 rfl) (N1.new (N:=["land","store","base","table","roads","rows","walk","parts","full","road"]) (osc:=B5 B24) KK) rfl (B2n (A2m rfl T.cj (E4 (E7 (pv 0) (E8 (cII T.g_MANY))) J5 B0))) (λJ=>A2y) (λJ=>(Y6 (E4 (A6 (pv 10)) (E4 (M7 (Y7 J5)) J5 B5g) A0))) (by rfl) (by first | exact .inl rfl | exact .inr rfl | assumption) (by rfl) (by rfl) (by intro _;rfl))) (@L9 _ _ _ _ _ _ (K0 (pS (i:=5) A24.nd (F8 (pcF T.bh (D8h T) hr (B8 (A6 (pv 0)) (B8 (A6 (pv 1)) (V1 (pv 3) F7 A0) A0) A0))))) (@L9 _ _ _ _ _ _ (@A95 _ _ _ _ _ (@A49 _ _ _ _ _ _ T3 (A2t (F8 (pcF T.bx (D8i T) hr (B8 (A6 (pv 0)) (B8 (A6 (pv 5)) F7 A0) A0)))) (@L9 _ _ _ _ _ _ (K0 (pS (i:=6) A24.nd (F8 (pcF T.bz (D8j T) hr (B8 (A6 (pv 0)) (B8 (A6 (pv 5)) F7 A0) A0))))) (@L9 _ _ _ _ _ _ (@K0 _ _ _ _ _ (@C7 _ _ 7 _ _ _ _ A24.nd rfl (B6 rfl) (@F8 _ _ _ _ _ _ _ (@B3 _ _ _ _ _ _ _ _ _ _ _ _ _ _ _ _ gB (hr.mono DD) rfl T.aZ.m T.aZ.F.kp gC .nil A7 (B8 (A6 (pv 0)) (B8 (A6 (pv 1)) (B8 (E7 (pv 3) (E7 (pv 6) (E8 (cII T.g_FROM)))) (B8 (A6 (pv 6)) F7 A0) B0) A0) A0) DD A0 ((A9 A0 (A9 B0 (A9 A0 A5)))))) (by rfl) (by first | exact .inl rfl | exact .inr rfl | assumption))) (@L9 _ _ _ _ _ _ (K0 (pS (i:=8) A24.nd (F8 (pcF T.cU (D8a T) hr (B8 (A6 (pv 0)) (B8 (E7 (pv 6) (E8 (cII T.g_FROM))) (B8 (A6 (pv 7)) F7 A0) B0) A0))))) (@L9 _ _ _ _ _ _ (K0 (pS (i:=9) A24.nd (E7 (pv 4) (E7 (pv 6) (E8 (cII T.g_FROM)))))) (@L9 _ _ _ _ _ _ (A93 (m6 (Y6 (E4 (E7 (pv 9) (E8 (cII T.g_FROM))) (E4 (M7 (B2i (E7 (pv 9) (E8 (cII T.g_BY))) (A6 (pv 7)))) J5 G6) B0)) (A0y (pv 4) (A6 (pv 8)) w6))) (@L9 _ _ _ _ _ _ (A93 (m6 (A6 (pv 1)) (A0y (pv 3) (A6 (pv 8)) w6))) (E9 (K0 (pS (i:=5) A24.nd (F8 (pcF T.bh (D8h T) hr (B8 (A6 (pv 0)) (B8 (A6 (pv 1)) (V1 (pv 3) F7 A0) A0) A0)))))))))))))) (E9 (G7 (Y6 (E4 (A6 (pv 5)) (E4 (A6 (pv 4)) J5 A0) A0)))))))),λds Q hl h=>?_⟩);let⟨m,ws,st,b0,rfl,ok,h0,hst,hb0,q⟩:=h;have m2:=ok.m2;left;refine go ?_;array_mem_dec;refine⟨⟨OO,OO⟩,⟨rfl,by unfold g7;rw[B7,m5];omega⟩,?_⟩;unfold g7;rw[show ((m:Nat):Int).toNat=m by simp];refine A21 (f:=λi=>.tuple [.int (0+((i:Nat):Int)),.list []]) (λi hi Q' q'=>?_) ?_
 ·left;exact⟨DD,DD,q'⟩
 left;rw[show List.map (λi=>PyData.tuple [.int (0+((i:Nat):Int)),.list []]) (U2 m)=List.map A88 ((U2 m).map λi=>(i,([]:!Pt))) by
  rw[Q8];refine B1m λi J=>?_;show PyData.tuple [.int (0+((i:Nat):Int)),.list []]=.tuple [.int ((i:Nat):Int),.list []];rw[Int.zero_add]]
 refine go ?_;left;exists rfl,m,ws,st,b0,rfl,ok,hb0.len;left;refine go ?_;unfold A02 A8a;refine⟨fun μ ρ=>∃(b:Tb)(rd:!Rd)(z2 z6 z7 z8 z9:Sl),ρ=[Sl.sh (K2 m ws),Sl.sh (.int st),z2,Sl.ow (E2 b),Sl.ow (rd.map A88),Sl.sh (.list ((W1 m ws st m (b,G1 m none)).map S2)),z6,z7,z8,z9]/\F3 m st b/\A6w st b=μ/\(∀t,S1 m ws st b t->S1 m ws st b0 t)/\B9q st b0 b/\A4n m ws st b0 b rd (3*(m-μ)),
  ⟨A6w st b0,b0,_,_,_,_,_,_,rfl,hb0,rfl,λt h=>h,λp=>.inl rfl,by simp,λq y r hq hr=>?_,λr hr=>?_⟩,?_⟩
 ·rw[M2] at hr;cases e:(U2 m)[q]? with
  | none=>rw[e] at hr;cases hr
  | some i=>rw[e] at hr;let⟨_,e2⟩:=X4.mp e;rw[List.getElem_range] at e2;subst e2;cases hr;exact⟨.nil,y,hq,rfl⟩
 ·let⟨i,_,rfl⟩:=L0.mp hr;exact⟨Q7 _,λpt h=>nomatch h⟩
 rintro μ ρ ⟨b,rd,z2,z6,z7,z8,z9,rfl,hb,hμ,hle,hfl,hrd⟩;let⟨r,rs,e1,e2,e3,e4,hR,hok,hfin⟩:=D8t ok h0 hb;left;exists m,ws,_,rfl;by_cases c:m<(W1 m ws st m (b,G1 m none)).length
 ·rw[decide_eq_true c]
  sizeOf_list_dec
  have hne:rs≠[]:=λz=>by rw[z] at e3;have:=ok.m1;simp at e3;omega
  refine⟨m,ws,_,r,rfl,ok,hok,OO,e2,hR.risen ok h0 hb hne,λp n hp hn=>?_⟩;let⟨N,PP,L,f1,f2,f3,f4,W,f6⟩:=C3u ok h0 hb hR p (.inr ⟨n,hn⟩);have hN:N.length=m:=by omega
  rw[e1,f1];have hbeg:gt b (PP 0)=some (L 0):=W.beg;have hP0:PP 0<m:=W.pl ok hb 0 (Q7 _);refine go ?_;left;rw[A83 (by rw[hb.len];exact hP0),hbeg];right;refine⟨m,ws,st,b,N,PP,L,rfl,ok,h0,hst,hb,W,hN,λi j k le g tp tm hij hj hpp hle2 R t1 t2 t3=>?_⟩;have kl:k<=j-i:=by
   have:=R.kl;unfold chs at this;rw[B7,A97 (OO)] at this;exact this
  have hfull:PP (i+k)<m:=W.pl ok hb (i+k) (OO);have htrp:Trp ws (PP 0) (A0r N i j k tm) (PP (i+k)):=by
   unfold A0r;refine ((C5x (W.pth (i:=0) (j:=i) (Q7 _) OO)).app ?_).app (C5x (W.pth (i:=i) (j:=i+k) OO OO));have hs:=W.pth (i:=i) (j:=j) OO (OO);rw[<-hpp] at hs;exact .cons hs (λz=>by have:=congrArg B07 z;rw[A97 (OO)] at this;simp at this;omega) t1 t2 (.inr rfl) .nil
  have harr:=D8u W h0 hb hij OO hle2 R t1 t3;refine go ?_;left;exists m,ws,PP 0,PP (i+k),_,rfl,htrp;obtain⟨r0,hr0⟩:∃d,rd[PP 0]?=some d:=⟨_,M8 (by rw[hrd.len];exact hP0)⟩;have hps:=(hrd.few r0 (U4 hr0)).1;refine go ?_;left;rw[f7 (show (rd.map A88)[PP 0]?=some (.tuple [.int (r0.1:Nat),.list (r0.2.map b7)]) by rw[M2,hr0];rfl)];left;refine go ?_;left;have h3:=@D80 N i j k tm;have hlk:=C3w st b (PP (i+k)) (by rw[hb.len];exact hfull) (D3n W h0 hb hij OO hpp OO);have hlm:=@D8z st b;rw[hb.len] at hlm;exists by rw[B7,B7];omega,DD;rw[B0j (by rw[B7,hrd.len];exact hfull)];left;rw[show (rd.map A88).set (PP (i+k)) (.tuple [.int (r0.1:Nat),.list (r0.2.map b7++(A0r N i j k tm).map b7)])=(rd.set (PP (i+k)) (r0.1,r0.2++A0r N i j k tm)).map A88 by
   rw[List.map_set,<-L7];rfl]
  refine go ?_;left;rw[B0j (by rw[A0q,hb.len];exact hfull)];left;rw[show (E2 b).set (PP (i+k)) (PyData.int st)=E2 (b.set (PP (i+k)) (some st)) from B9l (x:=some st)];refine go ?_;left;have hb':=D3o h0 hb hfull;exists rfl,m,ws,st,_,rfl,ok,hb'.len;left;refine⟨A6w st (b.set (PP (i+k)) (some st)),OO,b.set (PP (i+k)) (some st),rd.set (PP (i+k)) (r0.1,r0.2++A0r N i j k tm),_,_,_,_,_,rfl,hb',rfl,λt h=>hle t (h.fill hb hfull λT hT h1 h2=>D3m W hij OO hpp hle2 R hT h1 h2),λp=>?_,(hrd.fill (by rw[hb.len];exact hfull) hbeg hr0 htrp harr h3 λpt hpt=>by rw[<-hN];exact D8w pt hpt).more OO⟩;rw[A4a (by rw[hb.len];exact hfull)];split
  ·exact .inr rfl
  ·exact hfl p
 ·rw[decide_eq_false c];left;refine go ?_;left;exists DD;exact q _ rs r b rd e2 e1 (hle _ (hfin OO)) hR hok OO hb hfl (hrd.more OO)
theorem B3w:FK P w base 8 T.aq (spD [.sh,.sh,.bo] C57):=by
 refine K4 T.aq.F D5k rfl (λC cdv A outer s H E hr=>⟨_,(@E9 _ _ _ _ (@G7 _ _ _ _ _ (@T1 _ _ _ _ _ _ _ (T1 (T1 (F8 (pcF T.cF (D81 T) hr (B8 (A6 (pv 0)) (B8 (A6 (pv 1)) (V1 (pv 2) F7 A0) A0) A0))) F0) (A0l F0)) (E8 (cII T.g_TABLE)) (λJ J=>rfl)))),λds Q hl h=>?_⟩);let⟨m,ws,st,b0,rfl,ok,h0,hst,hb0,q⟩:=h;left;refine⟨rfl,m,ws,st,b0,rfl,ok,h0,hst,hb0,λrs qs r b rd hl he hL hR hok hlen hb hf hrd=>?_⟩;left;rw[show -(1:Int)=-1 from rfl,B3r (B9m hl)];right;have hq:qs.length+1<=m:=by
  have:=congrArg B07 he;rw[A7l,J6] at this;omega
 exact q _ hL (D8y ok h0 hb hf hR hq)
theorem D82 {sp:DSp}{vs:!V}{H:Hp}{Q:VK}{E:XK}(hl:∀ds Qd,sp ds Qd->∃a b xs,ds=[a,b,.list xs])(h:spD [.sh,.sh,.sh] sp vs H Q E):spD [.sh,.sh,.bo] sp vs H Q E:=by
 let⟨F,hand,ds,Qd,h1,h2,h3,ar,h5,h6⟩:=h;refine⟨F,hand,ds,Qd,h1,h2,h3,?_,h5,h6⟩;let⟨a,b,xs,rfl⟩:=hl _ _ h5;cases ar with
 | cons t1 ar=>
 cases ar with
 | cons t2 ar=>
 cases ar with
 | cons t3 ar=>
 cases ar;have t3:ThV F H _ (.list xs):=t3;cases t3 with
 | lst g e t=>exact .cons t1 (.cons t2 (.cons ⟨_,_,_,rfl,rfl,(λq hq z=>h2 q hq (by rw[<-z];exact g)),e,t⟩ .nil))
theorem D83:FK P w base 8 T.aq (spD [.sh,.sh,.sh] C57):=(B3w T).imp λvs H Q E h=>D82 (λds Qd z=>by
 let⟨m,ws,st,b,rfl,_⟩:=z;exact⟨_,_,_,rfl⟩) h
def lkF (st:Int)(t:Tb):Tb:=t.map λo=>o.map λx=>st-x
theorem D84 {st:Int}{t:Tb}{p:Nat}:gt (lkF st t) p=(gt t p).map λx=>st-x:=by
 unfold gt lkF;rw[M2];cases t[p]? with
 | none=>rfl
 | some o=>rfl
theorem B9s {m:Nat}{st:Int}{t:Tb}(h:F3 m st t):F3 m st (lkF st t):=by
 refine⟨by unfold lkF;rw[B7];exact h.len,λp x e=>?_⟩;rw[D84] at e;cases z:gt t p with
 | none=>rw[z] at e;cases e
 | some y=>rw[z] at e;have:st-y=x:=Option.some.inj e;have:=h.bd p y z;omega
theorem D85 {m:Nat}{ws:!Wy}(ok:J2 m ws):J2 m (ws.map A1l):=by
 refine⟨ok.m1,ok.m2,by rw[B7];exact ok.few,λw hw=>?_,λw hw=>?_,λw hw=>?_,λw hw=>?_⟩
 all_goals let⟨v,hv,rfl⟩:=L0.mp hw
 ·exact ok.en v hv
 ·exact ok.st v hv
 ·exact ok.lo v hv
 ·exact ok.hi v hv
def D86:DSp:=λds Q=>∃(st:Int)(t:Tb),ds=[.int st,.list (E2 t)]/\t.length<=900/\Q (.list (E2 (lkF st t)))
def D87:DSp:=λds Q=>∃(m:Nat)(ws:!Wy)(st:Int)(g:Tb),ds=[K2 m ws,.int st,.list (E2 g)]/\J2 m ws/\0<=st/\st<=1000000000000000000000/\F3 m st g/\∀t,S1 m (ws.map A1l) st (lkF st g) t->Q (.list (E2 (lkF st t)))
abbrev D88:Sp:=spN D86
abbrev D89:Sp:=spN D87
def A89 (a b:Option Int):Bool:=match b,a with
 | none,_=>true
 | some _,none=>false
 | some y,some x=>decide (x<=y)
def D9a:DSp:=λds Q=>∃a b:Option Int,ds=[oD a,oD b]/\Q (.bool (A89 a b))
def A1m (t o:Tb):!Nat:=(U2 t.length).filter λp=>not (A89 (gt o p) (gt t p))
def D9b:DSp:=λds Q=>∃t o:Tb,ds=[.list (E2 t),.list (E2 o)]/\t.length=o.length/\t.length<=900/\Q (.list (J0 (A1m t o)))
abbrev D9c:Sp:=spN D9b
theorem C58 {H:Hp}{v:V}{xs:!PyData}(t:ThV TT0 H v (.list xs)):B5s TT0 none H v (.list xs) .bo:=by
 let⟨a,us,rfl,_,e,tu⟩:=P7 t;exact⟨a,us,xs,rfl,rfl,(λq hq=>nomatch hq),e,tu⟩
theorem D9d:FK P w base 1 T.bR D88:=by
 refine T.bR.F.ok D5n (λJ H J J h=>?_) (λJ J J J H J Q J hr h=>?_)
 ·let⟨ds,Qd,t,⟨st,t0,rfl,_⟩,_⟩:=h;rw[t.len];rfl
 ·let⟨ds,Qd,tv,⟨st,t0,rfl,hl,q⟩,told⟩:=h;let⟨v1,v2,rfl,t1,t2⟩:=g6 tv;cases t1;let⟨at',ut,rfl,_,et,tut⟩:=P7 t2;have lut:ut.length=t0.length:=by rw[tut.len,A0q]
  refine⟨_,(C9 (G0 (W9 (N1.new (N:=["store","table"]) (osc:=B5 B27) KK) rfl (U9 (pv 1)) (λJ=>m9) (λJ=>(A7q (P9 t9 (pv 2) A1x (F6 _)) A1x (F5 A5b (pv 0) (pv 2))))))),?_⟩;exists _,rfl,at',rfl,⟨ut,SqL.of et⟩;refine A7x (xs:=ut) (λi ys Hn=>Hn=H/\C3 TT0 H ys (E2 (lkF st (t0.take i)))) ?_ ⟨rfl,.nil⟩ ?_ ?_ ?_
  ·rw[lut,sizeLine_eq];omega
  ·rintro i ys Hn hi ⟨rfl,h2⟩;refine⟨?_,SqL.of et⟩;rw[h2.len,A0q];unfold lkF;rw[B7,X5];omega
  ·rintro i x ys Hn hx ⟨rfl,h2⟩ ca;let⟨d,hd,tx⟩:=B3s tut hx;unfold E2 at hd;rw[M2] at hd;let⟨o,ho,rfl⟩:=A1e.mp hd;have stp:E2 (lkF st (t0.take (i+1)))=E2 (lkF st (t0.take i))++[oD (o.map λx=>st-x)]:=by
    rw[A1t,ho];unfold lkF E2;rw[L7,L7];rfl
   unfold A00;refine L4 ⟨_,rfl,rfl,_,rfl,?_⟩;rw[stp];cases o with
   | none=>cases tx;exact L4 ⟨rfl,h2.append (.cons .non .nil)⟩
   | some y=>cases tx;rw[show decide (V.int y=V.non)=false from decide_eq_false λz=>by cases z];exact G5 ⟨_,rfl,_,rfl,_,_,rfl,rfl,rfl,h2.append (.cons (.int _) .nil)⟩
  rintro ys Hn ⟨rfl,h2⟩ p hp;rw[lut,A1v] at h2;exact told _ _ _ q (.lst (.inl hp) B9 (M4 h2)) (Same.upd hp)
theorem C59:FK P w base 9 T.cB D89:=by
 have cI:=@B3w P w K mg base T;have cJ:=T.aq.b;refine T.cB.F.ok D5o (λJ H J J h=>?_) (λJ J J J H J Q J hr h=>?_)
 ·let⟨ds,Qd,t,⟨m,ws,st,g,rfl,_⟩,_⟩:=h;rw[t.len];rfl
 ·let⟨ds,Qd,tv,⟨m,ws,st,g,rfl,ok,h0,hst,hg,q⟩,told⟩:=h;cases tv with
  | @cons vl _ _ _ tl tv=>
  let⟨vst,vg,rfl,tst,tg⟩:=g6 tv;cases tst;have m2:=ok.m2;have few:=ok.few;have hgl:=hg.len;exists _,(C9 (G0 (pcF T.bR (D9d T) hr (A3 (pv 1) (A3 (B3 cI (hr.mono DD) rfl (T.bp.trans T.aq.m) T.aq.F.kp cJ .nil A7 (A3 (pcF T.bu (D71 T) hr (A3 (pv 0) A4 A0)) (A3 (pv 1) (A3 (pcF T.bR (D9d T) hr (A3 (pv 1) (A3 (pv 2) A4 A0) A0)) A4 C6) A0) C6)) A4 C6) A0))));refine⟨_,rfl,_,rfl,Z1 (E:=E0) (λd=>d=K2 m (ws.map A1l)) (.cons tl .nil) ⟨m,ws,rfl,OO,rfl⟩ λd v1 H1 hd t1 s1=>?_⟩;subst hd;refine⟨_,rfl,_,rfl,_,rfl,[.int st,.list (E2 g)],(λd=>d=.list (E2 (lkF st g))),.cons (.int _) (.cons (tg.keep s1) .nil),⟨st,g,rfl,OO,rfl⟩,λd v2 H2 hd t2 s2=>?_⟩;subst hd;refine Z1 (E:=E0) (λd=>∃t,S1 m (ws.map A1l) st (lkF st g) t/\d=.list (E2 t)) (.cons (t1.keep s2) (.cons (.int _) (.cons (C58 t2.any) .nil))) ⟨m,_,st,_,rfl,D85 ok,h0,hst,B9s hg,λt ht J=>⟨t,ht,rfl⟩⟩ λd v3 H3 hd t3 s3=>?_;let⟨t,ht,rfl⟩:=hd;have htl:=ht.tab.len;have s03:=(s1.tr s2).tr s3;refine⟨[.int st,.list (E2 t)],(λd=>d=.list (E2 (lkF st t))),.cons (.int _) (.cons t3 .nil),⟨st,t,rfl,OO,rfl⟩,λd v4 H4 hd t4 s4=>?_⟩;subst hd;exact told _ _ _ (q t ht) (t4.mv λb o z e=>⟨C5l s03 z,e⟩) (s03.tr s4)
theorem D9e:FK P w base 1 T.bY (spD [.sh,.sh] D9a):=by
 refine K4 T.bY.F D5m rfl (λC cdv A outer s H E hr=>⟨_,(E9 (G7 (B5n (A1i t9 A2w (A6 (pv 1)) P4 (F6 _)) (A0k (A1j (A1i A5c A50 (A6 (pv 0)) P4 (F6 _)) (A0k (A1i X8 C21 (A6 (pv 0)) (A6 (pv 1)) (F6 _)))))))),λds Q hl h=>?_⟩);let⟨a,b,rfl,q⟩:=h;cases b with
 | none=>right;exact q
 | some y=>
  cases a with
  | none=>right;exact q
  | some x=>right;exact q
theorem D9f:FK P w base 2 T.aE D9c:=by
 refine T.aE.F.ok D5s (λJ H J J h=>?_) (λJ J J J H J Q J hr h=>?_)
 ·let⟨ds,Qd,t,⟨t0,o0,rfl,_⟩,_⟩:=h;rw[t.len];rfl
 ·let⟨ds,Qd,tv,⟨t0,o0,rfl,hlen,hl,q⟩,told⟩:=h;let⟨v1,v2,rfl,t1,t2⟩:=g6 tv;let⟨at',ut,rfl,_,et,tut⟩:=P7 t1;let⟨ao,uo,rfl,_,eo,tuo⟩:=P7 t2;have lut:ut.length=t0.length:=by rw[tut.len,A0q]
  refine⟨_,(C9 (G0 (W9 (N1.new (N:=["table","other"]) (osc:=B5 B28) KK) rfl (A2m rfl T.cj (A3 (K5 V8 rfl T.aP T9 (A3 (pv 0) A4 A0)) A4 C6)) (λJ=>(B5a (U8 (W6 (pcF T.bY (D9e T) hr (A3 (E6 G8 (pv 1) (pv 2)) (A3 (E6 G8 (pv 0) (pv 2)) A4 B0) B0)))))) (λJ=>(pv 2))))),?_⟩;exists _,rfl,at',ut,rfl,.inl (SqL.of et),_,rfl,OO,OO;refine D00 (n:=((ut.length:Nat):Int).toNat) (λi ys Hn=>Same H Hn/\C3 TT0 H ys (J0 ((U2 i).filter λp=>not (A89 (gt o0 p) (gt t0 p))))) ?_ ⟨λJ J e=>e,.nil⟩ ?_ ?_ ?_
  ·rw[lut,sizeLine_eq];omega
  ·rintro i ys Hn hi ⟨h1,h2⟩;rw[h2.len,A4k];exact M0 (C0y _ _) (by rw[m5];exact G3 _)
  ·rintro i ys Hn hi ⟨h1,h2⟩ ca;rw[lut,A44] at hi;rw[Int.zero_add];let⟨vo,hvo,tvo⟩:=B2e tuo (A83 (t:=o0) (p:=i) OO);let⟨vt,hvt,tvt⟩:=B2e tut (A83 (t:=t0) (p:=i) hi);refine⟨_,rfl,_,rfl,ao,uo,_,_,rfl,rfl,SqL.of (h1 _ _ eo),hvo,_,rfl,_,rfl,at',ut,_,_,rfl,rfl,SqL.of (h1 _ _ et),hvt,Z1 (E:=E0) (λd=>d=.bool (A89 (gt o0 i) (gt t0 i))) (.cons (tvo.any.keep h1) (.cons (tvt.any.keep h1) .nil)) ⟨_,_,rfl,rfl⟩ λd v H' hd tv s'=>?_⟩;subst hd;cases tv;exists _,rfl;rw[C0x,List.filter_append];cases e:A89 (gt o0 i) (gt t0 i) with
   | true=>refine G5 ⟨h1.tr s',?_⟩;rw[B4l (by rw[e];decide),List.filter_nil,p8];exact h2
   | false=>refine L4 ⟨_,rfl,h1.tr s',?_⟩;rw[C0v (by rw[e];rfl),List.filter_nil];unfold J0;rw[L7];exact h2.append (.cons (.int _) .nil)
  rintro ys Hn ⟨h1,h2⟩ p hp;rw[lut,A44] at h2;exact told _ _ _ q (.lst (.inl (h1.early hp)) B9 (D7i h2)) (h1.tr (Same.upd hp))
abbrev Kw:=!(Int×Wy)
def J7 (kws:Kw)(k:Int):Option Wy:=(kws.find? λq=>decide (q.1=k)).map (·.2)
def i9 (kws:Kw)(k:Int)(w:Wy):Kw:=if (kws.any λq=>decide (q.1=k))=true then kws.map (λq=>if q.1=k then (q.1,w) else q) else kws++[(k,w)]
def A4o (kws:Kw)(k:Int):Kw:=kws.filter λq=>decide (q.1≠k)
def F4 (kws:Kw):!Int:=kws.map (·.1)
inductive R7 (H:Hp):!(Key×V)->Kw->Prop
 | nil:R7 H [] []
 | cons {k:Int} {v:V} {w:Wy} {kvs:!(Key×V)} {kws:Kw}:ThV TT0 H v (N5 w)->R7 H kvs kws->R7 H ((Sum.inl k,v)::kvs) ((k,w)::kws)
theorem B9t {F G:Addr->Prop}{H H':Hp}:∀{xs:!Int}{us:!V},C3 F H us (xs.map PyData.int)->C3 G H' us (xs.map PyData.int)
 | [],_,h=>by cases h;exact .nil
 | x::xs,_,h=>by
  cases h with
  | cons y r=>cases y;exact .cons (.int _) (B9t r)
theorem B0p {F G:Addr->Prop}{H H':Hp}{v:V}{w:Wy}(t:ThV F H v (N5 w))(s:∀b xs,H b=some (.tup xs)->H' b=some (.tup xs))(g:∀b xs,H b=some (.tup xs)->G b):ThV G H' v (N5 w):=by
 let⟨a,us,rfl,_,e,tu⟩:=y8 (show ThV F H v (.tuple ([((w.1:Nat):Int),((w.2.1:Nat):Int),w.2.2].map PyData.int)) from t);exact .tup (g _ _ e) (s _ _ e) (B9t tu)
variable {H':Hp}
section
variable {kvs:!(Key×V)}{kws:Kw}
theorem R7.mv (h:R7 H kvs kws)(s:∀b xs,H b=some (.tup xs)->H' b=some (.tup xs)):R7 H' kvs kws:=by
 induction h with
 | nil=>exact .nil
 | cons t _ ih=>exact .cons (B0p t s λJ J J=>trivial) ih
theorem R7.len (h:R7 H kvs kws):kvs.length=kws.length:=by
 induction h with
 | nil=>rfl
 | cons _ _ ih=>rw[J6,J6,ih]
theorem R7.keys (h:R7 H kvs kws):kvs.map (·.1)=(F4 kws).map Sum.inl:=by
 induction h with
 | nil=>rfl
 | cons _ _ ih=>unfold F4 at ih ⊢;rw[K9,K9,K9,ih]
theorem D9g {a b:Int}:((Sum.inl a:Key)=Sum.inl b)↔a=b:=⟨λh=>Sum.inl.inj h,λh=>by rw[h]⟩
theorem A9a (q:Int×Wy)(r:Kw)(k:Int):J7 (q::r) k=if q.1=k then some q.2 else J7 r k:=by
 unfold J7;rw[A47];by_cases e:q.1=k
 ·rw[decide_eq_true e,if_pos e];rfl
 ·rw[decide_eq_false e,if_neg e]
theorem R7.val (h:R7 H kvs kws)(k:Int):(V2 kvs (Sum.inl k:Key)=none/\J7 kws k=none)\/∃v w,V2 kvs (Sum.inl k:Key)=some v/\J7 kws k=some w/\ThV TT0 H v (N5 w):=by
 induction h with
 | nil=>exact .inl ⟨rfl,rfl⟩
 | @cons k' v w kvs kws t _ ih=>
  rw[A9a];by_cases e:k'=k
  ·subst e;rw[if_pos rfl,B2w (p:=((Sum.inl k':Key),v)) rfl];exact .inr ⟨v,w,rfl,rfl,t⟩
  ·rw[if_neg e,B2x (p:=((Sum.inl k':Key),v)) (λz=>e (Sum.inl.inj z))];exact ih
theorem R7.map (h:R7 H kvs kws){k:Int}{v:V}{w:Wy}(t:ThV TT0 H v (N5 w)):R7 H (kvs.map λkv=>if kv.1=(Sum.inl k:Key) then (kv.1,v) else kv) (kws.map λq=>if q.1=k then (q.1,w) else q):=by
 induction h with
 | nil=>exact .nil
 | @cons k' v' w' kvs kws t' _ ih=>
  rw[K9,K9];by_cases e:k'=k
  ·rw[if_pos (show (Sum.inl k':Key)=Sum.inl k by rw[e]),if_pos (show k'=k from e)];exact .cons t ih
  ·rw[if_neg (show ¬ (Sum.inl k':Key)=Sum.inl k from λz=>e (Sum.inl.inj z)),if_neg (show ¬ k'=k from e)];exact .cons t' ih
theorem R7.snoc (h:R7 H kvs kws){k:Int}{v:V}{w:Wy}(t:ThV TT0 H v (N5 w)):R7 H (kvs++[(Sum.inl k,v)]) (kws++[(k,w)]):=by
 induction h with
 | nil=>exact .cons t .nil
 | cons t' _ ih=>exact .cons t' ih
theorem R7.any (h:R7 H kvs kws)(k:Int):(kvs.any λkv=>decide (kv.1=(Sum.inl k:Key)))=(kws.any λq=>decide (q.1=k)):=by
 induction h with
 | nil=>rfl
 | cons _ _ ih=>rw[A45,A45,ih];congr 1;exact decide_eq_decide.mpr D9g
theorem R7.put (h:R7 H kvs kws){k:Int}{v:V}{w:Wy}(t:ThV TT0 H v (N5 w)):R7 H (i8 kvs (Sum.inl k:Key) v) (i9 kws k w):=by
 unfold i8 i9;rw[h.any k];split
 ·exact h.map t
 ·exact h.snoc t
theorem R7.drop (h:R7 H kvs kws)(k:Int):R7 H (A23 kvs (Sum.inl k:Key)) (A4o kws k):=by
 unfold A23 A4o
 induction h with
 | nil=>exact .nil
 | @cons k' v w kvs kws t _ ih=>
  by_cases e:k'=k
  ·rw[B4l (by simp [e]),B4l (by simp [e])];exact ih
  ·rw[C0v (by simp [e]),C0v (by simp [e])];exact .cons t ih
end
def srt (ns:!Int):!Int:=ns.mergeSort (λa b=>decide (a<=b))
theorem A0s (ns:!Int):(srt ns).Perm ns:=List.mergeSort_perm ns _
theorem C6a (ns:!Int):(srt ns).Pairwise (·<=·):=by
 have:=List.pairwise_mergeSort (le:=λa b:Int=>decide (a<=b)) (λa b c h1 h2=>by simp at *;omega) (λa b=>by simp;omega) ns;exact this.imp λh=>by simpa using h
theorem B3x {ns ms:!Int}(p:ms.Perm ns)(h:ms.Pairwise (·<=·)):ms=srt ns:=(p.trans (A0s ns).symm).eq_of_pairwise (λa b J J h1 h2=>OO) h (C6a ns)
theorem D9h {ns ms:!Int}(p:ms.Perm ns):srt ms=srt ns:=B3x ((A0s ms).trans p) (C6a ms)
def wsF (kws:Kw):!Wy:=(srt (F4 kws)).map λk=>(J7 kws k).getD (0,0,0)
structure A07 (m:Nat)(w:Wy):Prop where
 st:w.1<m
 en:w.2.1<m
 lo:-∅<=w.2.2
 hi:w.2.2<=∅
structure KOk (m:Nat)(st:Int)(g:Tb)(kws:Kw):Prop where
 m1:1<=m
 m2:m<=12
 s0:0<=st
 s1:st<=100000000000000000000
 gt:F3 m st g
 nd:(F4 kws).Nodup
 few:kws.length<=40
 way:∀q∈kws,(1<=q.1/\q.1<=∅)/\A07 m q.2
theorem A63 {kws:Kw}{k:Int}{w:Wy}(h:J7 kws k=some w):(k,w)∈kws:=by
 unfold J7 at h;cases e:kws.find? λq=>decide (q.1=k) with
 | none=>rw[e] at h;cases h
 | some q=>
  rw[e] at h;cases h;have h1:=List.find?_some e;have h2:=List.mem_of_find?_eq_some e;have h3:q.1=k:=by simpa using h1
  rw[<-h3];exact h2
theorem A64 {kws:Kw}{k:Int}(h:k∈F4 kws):∃w,J7 kws k=some w:=by
 induction kws with
 | nil=>cases h
 | cons q r ih=>
  rw[A9a];by_cases e:q.1=k
  ·rw[if_pos e];exact⟨_,rfl⟩
  ·rw[if_neg e];rcases K7.mp (show k∈q.1::F4 r from h) with z | z
   ·exact absurd z.symm e
   ·exact ih z
theorem KOk.land {m:Nat}{st:Int}{g:Tb}{kws:Kw}(o:KOk m st g kws):J2 m (wsF kws):=by
 have key:∀w∈wsF kws,A07 m w:=λw hw=>by
  unfold wsF at hw;let⟨k,hk,rfl⟩:=L0.mp hw;let⟨w',hw'⟩:=A64 ((A0s _).mem_iff.mp hk);rw[hw'];exact (o.way _ (A63 hw')).2
 refine⟨o.m1,o.m2,?_,λw hw=>(key w hw).st,λw hw=>(key w hw).en,λw hw=>(key w hw).lo,λw hw=>(key w hw).hi⟩;unfold wsF;rw[B7,(A0s _).length_eq];unfold F4;rw[B7];exact o.few
def b9 (m:Nat)(st:Int)(g:Tb)(kws:Kw)(low:Tb):Prop:=∃t,S1 m ((wsF kws).map A1l) st (lkF st g) t/\low=lkF st t
theorem b9.tab {m:Nat}{st:Int}{g:Tb}{kws:Kw}{a:Tb}(h:b9 m st g kws a):F3 m st a:=by
 let⟨t,h1,rfl⟩:=h;exact B9s h1.tab
structure Kst where
 m:Nat
 st:Int
 g:Tb
 kws:Kw
 low:Tb
def kfs (m:Nat)(st:Int)(g d l:Addr):!(Str×V):=[("many",.int ((m:Nat):Int)),("full",.int st),("wanted",.ref g),("laid",.ref d),("lowest",.ref l)]
theorem B3y {m:Nat}{st:Int}{g d l:Addr}:(kfs m st g d l).lookup ("many" : Str)=some (.int ((m:Nat):Int)):=by with_unfolding_all rfl
theorem B3z {m:Nat}{st:Int}{g d l:Addr}:(kfs m st g d l).lookup ("full" : Str)=some (.int st):=by with_unfolding_all rfl
theorem C6b {m:Nat}{st:Int}{g d l:Addr}:(kfs m st g d l).lookup ("wanted" : Str)=some (.ref g):=by with_unfolding_all rfl
theorem A1n {m:Nat}{st:Int}{g d l:Addr}:(kfs m st g d l).lookup ("laid" : Str)=some (.ref d):=by with_unfolding_all rfl
theorem B30 {m:Nat}{st:Int}{g d l:Addr}:(kfs m st g d l).lookup ("lowest" : Str)=some (.ref l):=by with_unfolding_all rfl
theorem S4 {m:Nat}{st:Int}{g d l:Addr}{f:Str}(h:(f == "many" ||f == "full" ||f == "wanted" ||f == "laid" ||f == "lowest")=false):(kfs m st g d l).lookup f=none:=by
 simp only[Bool.or_eq_false_iff] at h;let⟨⟨⟨⟨h1,h2⟩,h3⟩,h4⟩,h5⟩:=h;unfold kfs;rw[A1s,h1,A1s,h2,A1s,h3,A1s,h4,A1s,h5];rfl
theorem D9i {m:Nat}{st:Int}{g d l l':Addr}:T4 "lowest" (.ref l') (kfs m st g d l)=kfs m st g d l':=by with_unfolding_all rfl
theorem D9j {m:Nat}{st st':Int}{g d l:Addr}:T4 "full" (.int st') (kfs m st g d l)=kfs m st' g d l:=by with_unfolding_all rfl
theorem D9k {m:Nat}{st:Int}{g g' d l:Addr}:T4 "wanted" (.ref g') (kfs m st g d l)=kfs m st g' d l:=by with_unfolding_all rfl
structure J1 (F:Addr->Prop)(C:Addr)(H:Hp)(p d:Addr)(k:Kst):Prop where
 ob:∃dx g l ug ul,H p=some (.ins C dx (kfs k.m k.st g d l))/\F g/\H g=some (.lst ug)/\C3 TT0 H ug (E2 k.g)/\F l/\H l=some (.lst ul)/\C3 TT0 H ul (E2 k.low)
 dc:∃kvs,H d=some (.dK kvs)/\R7 H kvs k.kws
theorem J1.mv {F G:Addr->Prop}{C:Addr}{H H':Hp}{p d:Addr}{k:Kst}(h:J1 F C H p d k)(s:∀b o,H b=some o->(∀xs,o=.lst xs->F b)->H' b=some o)(hF:∀b,F b->G b):J1 G C H' p d k:=by
 let⟨⟨dx,g,l,ug,ul,e1,g1,e2,t2,g3,e3,t3⟩,kvs,e4,kv⟩:=h;refine⟨⟨dx,g,l,ug,ul,s _ _ e1 (λxs z=>by cases z),hF _ g1,s _ _ e2 (λJ J=>g1),M4 t2,hF _ g3,s _ _ e3 (λJ J=>g3),M4 t3⟩,kvs,s _ _ e4 (λxs z=>by cases z),kv.mv λb xs e=>s _ _ e (λJ z=>by cases z)⟩
theorem C6c {t u:DS}{D:g8}{ρ:!Sl}(M:!Sl->Prop)(h1:t { D with nx:=M } ρ)(h2:∀ρ',M ρ'->Go (u D) ρ'):A02 (B2o t) u D ρ:=⟨M,h1,h2⟩
def D9l:DSp:=λds Q=>∃x:Int,ds=[.int x]/\1<=x/\x<=∅/\Q (.bool true)
def D9m:DSp:=λds Q=>∃x:Int,ds=[.int x]/\-∅<=x/\x<=∅/\Q (.bool true)
def D9n:DSp:=λds Q=>∃(m:Nat)(w:Wy),ds=[.int (m:Nat),N5 w]/\A07 m w/\Q (.bool true)
def D9o:DSp:=λds Q=>∃x:Int,ds=[.int x]/\0<=x/\x<=100000000000000000000/\Q (.bool true)
def D9p:DSp:=λds Q=>∃st x:Int,ds=[.int st,.int x]/\0<=x/\x<=st/\Q (.bool true)
def D9q:DSp:=λds Q=>∃(t:Tb)(m:Nat)(st:Int),ds=[.int (m:Nat),.int st,.list (E2 t)]/\m<=900/\F3 m st t/\Q (.bool true)
theorem C6d {α:Type}(b:Bool):∀xs:!α,A6a (xs.map λJ=>PyData.bool b)=some (xs.map λJ=>b)
 | []=>rfl
 | x::xs=>by
  show (A6a (xs.map λJ=>PyData.bool b)).map (b::·)=_;rw[C6d b xs];rfl
theorem C6e {α:Type}:∀xs:!α,(xs.map λJ=>true).all id=true
 | []=>rfl
 | x::xs=>by
  show (true&&(xs.map λJ=>true).all id)=true;rw[C6e xs];rfl
theorem D9r {t:Tb}{o:Option Int}(h:o∈t):∃p,gt t p=o:=by
 let⟨p,hp,e⟩:=B1a.mp h;exact⟨p,by unfold gt;rw[M8 hp,e];rfl⟩
theorem C6f:FK P w base 2 T.bi (spD [.sh] D9l):=by
 refine K4 T.bi.F D5r rfl (λC cdv A outer s H E hr=>⟨_,(E9 (G7 (A1j (F8 (pcF T.aj (B0k T) hr (B8 (A6 (pv 0)) F7 A0))) (A0k (A90 X8 X8 F0 (A6 (pv 0)) (L5 V7 A11 F0 F0)))))),λds Q hl h=>?_⟩);let⟨x,rfl,x0,x1,q⟩:=h;left;exists _,rfl;rw[show A25 (.int x)=true from rfl];left;rw[decide_eq_true x0];left;exists ⟨DD,DD,DD⟩;rw[decide_eq_true (show x<=10^(18:Int).toNat from A0w x1 DD)];exact q
theorem C6g:FK P w base 2 T.aR (spD [.sh] D9m):=by
 refine K4 T.aR.F D5a rfl (λC cdv A outer s H E hr=>⟨_,(E9 (G7 (A1j (F8 (pcF T.aj (B0k T) hr (B8 (A6 (pv 0)) F7 A0))) (A0k (A90 X8 X8 (A0l (L5 V7 A11 F0 F0)) (A6 (pv 0)) (L5 V7 A11 F0 F0)))))),λds Q hl h=>?_⟩);let⟨x,rfl,x0,x1,q⟩:=h;left;exists _,rfl;rw[show A25 (.int x)=true from rfl];left;exists ⟨DD,DD,DD⟩;rw[decide_eq_true (show -(10:Int)^(18:Int).toNat<=x from A0w DD x0)];left;exists ⟨DD,DD,DD⟩;rw[decide_eq_true (show x<=10^(18:Int).toNat from A0w x1 DD)];exact q
theorem D9s:FK P w base 3 T.cT (spD [.sh,.sh] D9n):=by
 refine K4 T.cT.F D5b rfl (λC cdv A outer s H E hr=>⟨_,(@L9 _ _ _ _ _ _ (@A92 _ _ _ _ (@V9 _ _ _ _ _ _ _ _ _ (PW.pt (@A5p _ _ _ _ _ _ _ _ (A5n (A2t (B2k D2e (K5 B18 rfl T.bM A7z (A3 (pv 1) (A3 (A7p (v:=V.ty "tuple") rfl T.iR D02 rfl) A4 A0) A0))))) (A73 (P6 (A9x (b6 hr)) A2v (A57 (K5 V8 rfl T.aP T9 (A3 (pv 1) A4 A0))) F0 (F6 _))))) (E9 (G7 C2x)) X2)) (@E9 _ _ _ _ (@G7 _ _ _ _ _ (@A1j _ _ _ _ _ _ _ _ (F8 (pcF T.av (B9h T) hr (B8 (A6 (pv 0)) (B8 (E7 (pv 1) (E8 (cII T.g_START))) F7 B0) A0))) (@A1j _ _ _ _ _ _ _ _ (F8 (pcF T.av (B9h T) hr (B8 (A6 (pv 0)) (B8 (E7 (pv 1) (E8 (cII T.g_END))) F7 B0) A0))) (A0k (F8 (pcF T.aR (C6g T) hr (B8 (E7 (pv 1) (E8 (cII T.g_CHANGE))) F7 B0))))))))),λds Q hl h=>?_⟩);let⟨m,w,rfl,ow,q⟩:=h;refine C6c (fun ρ'=>ρ'=[Sl.sh (.int ((m:Nat):Int)),Sl.sh (N5 w)]) ?_ ?_
 ·right;exists rfl,rfl,A4l _ _;exact G5 rfl
 rintro ρ rfl;refine go ?_;right;have h1:=ow.st;have h2:=ow.en;exists _,_,rfl;rw[decide_eq_true (show (0:Int)<=((w.1:Nat):Int)/\((w.1:Nat):Int)<((m:Nat):Int) by omega)];right;exists _,_,rfl;rw[decide_eq_true (show (0:Int)<=((w.2.1:Nat):Int)/\((w.2.1:Nat):Int)<((m:Nat):Int) by omega)];right;exact⟨w.2.2,rfl,ow.lo,ow.hi,q⟩
theorem C6h:FK P w base 2 T.bf (spD [.sh] D9o):=by
 refine K4 T.bf.F D44 rfl (λC cdv A outer s H E hr=>⟨_,(E9 (G7 (A1j (F8 (pcF T.aj (B0k T) hr (B8 (A6 (pv 0)) F7 A0))) (A0k (A90 X8 X8 F0 (A6 (pv 0)) (L5 V7 A11 F0 F0)))))),λds Q hl h=>?_⟩);let⟨x,rfl,x0,x1,q⟩:=h;left;exists _,rfl;rw[show A25 (.int x)=true from rfl];left;rw[decide_eq_true x0];left;exists ⟨DD,DD,DD⟩;rw[decide_eq_true (show x<=10^(20:Int).toNat from A0w x1 DD)];exact q
theorem C6i:FK P w base 2 T.bg (spD [.sh,.sh] D9p):=by
 refine K4 T.bg.F D45 rfl (λC cdv A outer s H E hr=>⟨_,(E9 (G7 (A1j (F8 (pcF T.aj (B0k T) hr (B8 (A6 (pv 1)) F7 A0))) (A0k (A90 X8 X8 F0 (A6 (pv 1)) (A6 (pv 0))))))),λds Q hl h=>?_⟩);let⟨st,x,rfl,x0,x1,q⟩:=h;left;exists _,rfl;rw[show A25 (.int x)=true from rfl];left;rw[decide_eq_true x0];left;rw[decide_eq_true x1];exact q
theorem B31:FK P w base 3 T.au (spD [.sh,.sh,.sh] D9q):=by
 refine K4 T.au.F D5f rfl (λC cdv A outer s H E hr=>⟨_,(@L9 _ _ _ _ _ _ (@A92 _ _ _ _ (@V9 _ _ _ _ _ _ _ _ _ (PW.pt (@A5p _ _ _ _ _ _ _ _ (A5n (A2t (B2k D2d (K5 B18 rfl T.bM A7z (A3 (pv 2) (A3 (A7p (v:=V.ty "list") rfl T.cz A1h rfl) A4 A0) A0))))) (A73 (P6 (A9x (b6 hr)) A2v (A57 (K5 V8 rfl T.aP T9 (A3 (pv 2) A4 A0))) (A6 (pv 0)) (F6 _))))) (E9 (G7 C2x)) X2)) (@E9 _ _ _ _ (@G7 _ _ _ _ _ (@n8 _ _ _ _ _ _ D16 (@K5 _ _ _ _ _ _ _ _ _ (B5d rfl) rfl T.ip B5f (@E4 _ _ _ _ _ _ (@M7 _ _ _ _ (@A20 _ _ _ _ _ _ _ _ rfl (@W9 _ _ _ _ _ _ _ _ _ _ _ _ _ _ _ (N1.new (N:=["many","store","thing"]) (osc:=B5 B21) KK) rfl (A34 (pv 2)) (λJ=>A2y) (λJ=>(B5n (A1i t9 A2w (A6 (pv 3)) P4 (F6 _)) (A0k (F8 (pcF T.bg (C6i T) hr (B8 (A6 (pv 1)) (B8 (A6 (pv 3)) F7 A0) A0)))))) (by rfl) (by rfl) (by intro _;rfl)))) J5 A0j) DD DD A0j A5))))),λds Q hl h=>?_⟩);let⟨t,m,st,rfl,hm,ht,q⟩:=h;have hl:=ht.len;refine C6c (fun ρ'=>ρ'=[Sl.sh (.int ((m:Nat):Int)),Sl.sh (.int st),Sl.sh (.list (E2 t))]) ?_ ?_
 ·right;exists rfl,rfl,A4l _ _;rw[A4m,A0q,hl,beq_self_eq_true];exact G5 rfl
 rintro ρ rfl;refine go ?_
 array_mem_dec
 refine⟨⟨rfl,by rw[A0q];omega⟩,?_⟩;unfold E2;refine A21 (f:=λJ=>.bool true) (λo ho Q' q'=>?_) ?_
 ·cases o with
  | none=>right;exact q'
  | some x=>let⟨p,hp⟩:=D9r ho;let⟨b0,b1⟩:=ht.bd p x hp;right;exact⟨st,x,rfl,b0,b1,q'⟩
 ·rw[T2];unfold gBs;left;rw[C6d];left;rw[C6e];exact q
theorem J1.same {F:Addr->Prop}{C:Addr}{H H':Hp}{p d:Addr}{k:Kst}(h:J1 F C H p d k)(s:Same H H'):J1 F C H' p d k:=h.mv (λb o e J=>s _ _ e) λJ z=>z
def TL (H:Hp)(v:V)(b:Addr):Prop:=v=.ref b\/∃a xs,v=.ref a/\H a=some (.tup xs)/\V.ref b∈xs
def Apt (C:Addr)(H:Hp)(p d:Addr)(k:Kst)(v:V):Prop:=(∀a x y,v=.ref a->H a=some (.tup [.ref x,.ref y])->x≠y)/\J1 (λb=>¬ TL H v b) C H p d k
theorem J1.ex {F:Addr->Prop}{C:Addr}{H:Hp}{p d:Addr}{k:Kst}(h:J1 F C H p d k):J1 (λb=>∃xs,H b=some (.lst xs)) C H p d k:=by
 let⟨⟨dx,g,l,ug,ul,e1,g1,e2,t2,g3,e3,t3⟩,z⟩:=h;exact⟨⟨dx,g,l,ug,ul,e1,⟨_,e2⟩,e2,t2,⟨_,e3⟩,e3,t3⟩,z⟩
theorem A4p {G G':Addr->Prop}{C:Addr}{H:Hp}{p d:Addr}{k:Kst}(h:J1 G C H p d k)(n:∀b xs,G b->H b=some (.lst xs)->G' b):J1 G' C H p d k:=by
 let⟨⟨dx,g,l,ug,ul,e1,g1,e2,t2,g3,e3,t3⟩,z⟩:=h;exact⟨⟨dx,g,l,ug,ul,e1,n _ _ g1 e2,e2,t2,n _ _ g3 e3,e3,t3⟩,z⟩
variable {C p d:Addr}{H0:Hp}{k:Kst}
section
variable {G:Addr->Prop}{a:Addr}
theorem D9t {i:Int}(h:J1 G C H p d k):Apt C H p d k (.int i):=⟨(λa x y e J=>by cases e),A4p h λb xs J J z=>by
 rcases z with z | ⟨_,_,z,_⟩ <;> cases z⟩
theorem C6j {xs:!V}(h:J1 (λb=>∃xs,H0 b=some (.lst xs)) C H p d k)(n:H0 a=none)(e:H a=some (.lst xs)):Apt C H p d k (.ref a):=⟨(λb x y e1 e2=>by
 cases e1;rw[e] at e2;cases e2),A4p h λb xs g J z=>by
 let⟨ys,g⟩:=g;rcases z with z | ⟨_,_,z,z2,_⟩
 ·cases z;rw[n] at g;cases g
 ·cases z;rw[e] at z2;cases z2⟩
theorem D9u {i:Int}{l:Addr}(h:J1 (λb=>∃xs,H0 b=some (.lst xs)) C H p d k)(n:H0 a=none)(n2:H0 l=none)(e:H a=some (.tup [.int i,.ref l])):Apt C H p d k (.ref a):=⟨(λb x y e1 e2=>by
 cases e1;rw[e] at e2;cases e2),A4p h λb xs g J z=>by
 let⟨ys,g⟩:=g;rcases z with z | ⟨_,_,z,z2,z3⟩
 ·cases z;rw[n] at g;cases g
 ·cases z;rw[e] at z2;cases z2;rcases K7.mp z3 with z | z
  ·cases z
  ·cases A2h.mp z;rw[n2] at g;cases g⟩
theorem D9v {F:Addr->Prop}{v:V}{w:Wy}(h:J1 G C H p d k)(t:ThV F H v (N5 w)):Apt C H p d k v:=by
 let⟨a,us,rfl,_,e,tu⟩:=y8 (show ThV F H v (.tuple ([((w.1:Nat):Int),((w.2.1:Nat):Int),w.2.2].map PyData.int)) from t);have hu:∀{xs:!Int}{us:!V},C3 F H us (xs.map PyData.int)->∀b,V.ref b∉us:=λ{xs}=>by
  induction xs with
  | nil=>intro us t b z;cases t;cases z
  | cons x xs ih=>
   intro us t b z;cases t with
   | cons y r=>
    cases y;rcases K7.mp z with z | z
    ·cases z
    ·exact ih r b z
 refine⟨λb x y e1 e2=>?_,A4p h λb xs J eb z=>?_⟩
 ·cases e1;rw[e] at e2;cases e2;exact absurd E5 (hu tu x)
 ·rcases z with z | ⟨_,_,z,z2,z3⟩
  ·cases z;rw[e] at eb;cases eb
  ·cases z;rw[e] at z2;cases z2;exact hu tu b z3
end
def A08 (C:Addr)(pre:Kst->!PyData->Prop)(post:Kst->!PyData->PyData->Kst->Prop):Sp:=λvs H Q J=>∃(F:Addr->Prop)(p d:Addr)(k:Kst)(us:!V)(ds:!PyData),vs=.ref p::us/\(∀b,H b=none->F b)/\J1 F C H p d k/\C3 TT0 H us ds/\pre k ds/\
 ∀r v k' H',post k ds r k'->J1 F C H' p d k'->ThV (S3 H) H' v r->(∀b o,H b=some o->b≠p->b≠d->H' b=some o)->Apt C H' p d k' v->Q v H'
def D9w (k:Kst)(ds:!PyData):Prop:=ds=[]/\(F4 k.kws).length<64
def D9x (k:Kst)(_:!PyData)(r:PyData)(k':Kst):Prop:=r=K2 k.m (wsF k.kws)/\k'=k
def C6k (k:Kst)(ds:!PyData):Prop:=ds=[]
def D9y (k:Kst)(_:!PyData)(r:PyData)(k':Kst):Prop:=r=.list (E2 k.low)/\k'=k
def D9z (a b:Tb):PyData:=.tuple [.list (J0 (A1m b a)),.list (J0 (A1m a b))]
def B9u (k:Kst)(low:Tb)(r:PyData)(k':Kst):Prop:=∃b,b9 k.m k.st k.g k.kws b/\r=D9z low b/\k'={ k with low:=b }
def D90 (k:Kst)(ds:!PyData):Prop:=ds=[]/\KOk k.m k.st k.g k.kws/\k.low.length=k.m
def D91 (k:Kst)(_:!PyData)(r:PyData)(k':Kst):Prop:=B9u k k.low r k'
theorem A65:FM P w mg base 1 T.aA (A08 T.ac D9w D9x):=by
 refine T.aA.F.ok D50 (λJ H J J h=>?_) (λJ J J J H J Q J hr h=>?_)
 ·let⟨F,p,d,k,us,ds,rfl,_,_,tus,⟨rfl,_⟩,_⟩:=h;cases tus;rfl
 ·let⟨F,p,d,k,us,ds,rfl,hF,kp,tus,⟨rfl,hk⟩,told⟩:=h;cases tus;have kp0:=kp;let⟨⟨dx,g,l,ug,ul,e1,g1,e2,t2,g3,e3,t3⟩,kvs,e4,kv⟩:=kp;refine⟨_,(C9 (G0 (w5 (A3 (Q9 (pv 0) rfl) (A3 (W9 (N1.new (N:=["self"]) (osc:=B5 B3a) KK) rfl (U9 (K5 (C39 rfl) rfl T.gh C2m (A3 (Q9 (pv 0) rfl) A4 P2))) (λJ=>m9) (λJ=>(B6l (u1 (b6 hr)) (Q9 (pv 0) rfl) (pv 1) (λJ J=>rfl)))) A4 A0j) P2)))),?_⟩;exists _,rfl,p,_,dx,_,_,rfl,e1,T.ae,T.dR,B3y;refine⟨_,rfl,p,_,dx,_,_,rfl,e1,T.ae,T.bK,A1n,d,kvs,_,rfl,e4,kv.keys,hk,λl1 ms hl1 hp hs=>?_⟩;have ems:=B3x hp hs;subst ems;obtain⟨H1,hH1⟩:∃H1,H1=upd H l1 (.lst ((srt (F4 k.kws)).map V.int)):=⟨_,rfl⟩;rw[<-hH1];have s1:Same H H1:=by rw[hH1];exact Same.upd hl1
  have el1:H1 l1=some (.lst ((srt (F4 k.kws)).map V.int)):=by rw[hH1];exact B9
  have lsr:(srt (F4 k.kws)).length<64:=by rw[(A0s _).length_eq];exact hk
  exists l1,rfl,⟨_,SqL.of el1⟩;refine A7x (xs:=(srt (F4 k.kws)).map V.int) (λi ys Hn=>Hn=H1/\C3 (S3 H) H1 ys (((wsF k.kws).take i).map N5)) ?_ ⟨rfl,.nil⟩ ?_ ?_ ?_
  ·rw[B7,sizeLine_eq];omega
  ·rintro i ys Hn hi ⟨rfl,h2⟩;refine⟨?_,SqL.of el1⟩;rw[h2.len,B7,X5];omega
  ·rintro i x ys Hn hx ⟨rfl,h2⟩ ca;rw[M2] at hx;let⟨n,hn,rfl⟩:=A1e.mp hx;let⟨w0,hw0⟩:=A64 ((A0s _).mem_iff.mp (U4 hn));have hwi:(wsF k.kws)[i]?=some w0:=by
    unfold wsF;rw[M2,hn,A7o,hw0];rfl
   rcases kv.val n with ⟨_,z⟩ | ⟨v0,w1,hv,hw1,tv⟩
   ·rw[hw0] at z;cases z
   rw[hw0] at hw1;cases hw1;unfold A00;refine L4 ⟨_,rfl,p,_,dx,_,_,rfl,s1 _ _ e1,T.ae,T.bK,A1n,_,rfl,d,v0,rfl,by rw[<-hv];exact z4.k (k:=Sum.inl n) (s1 _ _ e4),rfl,?_⟩;rw[A1t,hwi,L7];exact h2.append (.cons (B0p tv (λb xs e=>s1 _ _ e) λb xs e=>.inr ⟨xs,e⟩) .nil)
  rintro ys Hn ⟨rfl,h2⟩ l2 hl2;have lw:(wsF k.kws).length=(srt (F4 k.kws)).length:=by unfold wsF;rw[B7]
  rw[B7,<-lw,A1v] at h2;refine⟨SZ (n:=2),λr hr'=>?_⟩;have s2:Same Hn (upd Hn l2 (.lst ys)):=Same.upd hl2;have s3:Same (upd Hn l2 (.lst ys)) _:=Same.upd (o:=.tup [.int ((k.m:Nat):Int),.ref l2]) hr';have s13:=(s1.tr s2).tr s3;refine told _ _ k _ ⟨rfl,rfl⟩ (kp0.same s13) (.tup (.inl ((s1.tr s2).early hr')) B9 (.cons (.int _) (.cons (.lst (.inl (s1.early hl2)) (s3 _ _ B9) ((h2.keep s2).keep s3)) .nil))) (λb o e J J=>s13 _ _ e) (D9u (kp0.ex.same s13) ((s1.tr s2).early hr') (s1.early hl2) B9)
theorem D92:FM P w mg base 1 T.cX (A08 T.ac C6k D9y):=by
 refine T.cX.F.ok D51 (λJ H J J h=>?_) (λJ J J J H J Q J hr h=>?_)
 ·let⟨F,p,d,k,us,ds,rfl,_,_,tus,rfl,_⟩:=h;cases tus;rfl
 ·let⟨F,p,d,k,us,ds,rfl,hF,kp,tus,rfl,told⟩:=h;cases tus;have kp0:=kp;let⟨⟨dx,g,l,ug,ul,e1,g1,e2,t2,g3,e3,t3⟩,kvs,e4,kv⟩:=kp;exists _,(C9 (G0 (M6 A3v rfl T.cz A1h (A3 (Q9 (pv 0) rfl) A4 P2))));refine⟨_,rfl,p,_,dx,_,_,rfl,e1,T.ae,T.cD,B30,l,ul,rfl,.inl (SqL.of e3),λl2 hl2=>?_⟩;exact told _ _ k _ ⟨rfl,rfl⟩ (kp0.same (Same.upd hl2)) (.lst (.inl hl2) B9 (M4 t3)) (λb o e J J=>Same.upd hl2 _ _ e) (C6j (kp0.ex.same (Same.upd hl2)) hl2 B9)
theorem X3 {F:Addr->Prop}{C:Addr}{H:Hp}{p d:Addr}{k:Kst}(h:J1 F C H p d k){b:Addr}{xs:!V}(e:H b=some (.lst xs)):b≠p/\b≠d:=by
 let⟨⟨dx,g,l,ug,ul,e1,_⟩,kvs,e4,_⟩:=h;exact⟨(λz=>by rw[z,e1] at e;cases e),λz=>by rw[z,e4] at e;cases e⟩
theorem W3 {F:Addr->Prop}{C:Addr}{H:Hp}{p d:Addr}{k:Kst}(h:J1 F C H p d k){b:Addr}{xs:!V}(e:H b=some (.tup xs)):b≠p/\b≠d:=by
 let⟨⟨dx,g,l,ug,ul,e1,_⟩,kvs,e4,_⟩:=h;exact⟨(λz=>by rw[z,e1] at e;cases e),λz=>by rw[z,e4] at e;cases e⟩
theorem A4q {F:Addr->Prop}{C:Addr}{H:Hp}{p d:Addr}{k:Kst}(h:J1 F C H p d k):p≠d/\H p≠none/\H d≠none:=by
 let⟨⟨dx,g,l,ug,ul,e1,_⟩,kvs,e4,_⟩:=h;exact⟨(λz=>by rw[z,e4] at e1;cases e1),(λz=>by rw[z] at e1;cases e1),λz=>by rw[z] at e4;cases e4⟩
theorem B0q:FM P w mg base 10 T.aG (A08 T.ac D90 D91):=by
 have gJ:=@C59 P w K mg base T;have gK:=T.cB.b;refine T.aG.F.ok C49 (λJ H J J h=>?_) (λJ J J J H J Q J hr h=>?_)
 ·let⟨F,p,d,k,us,ds,rfl,_,_,tus,⟨rfl,_⟩,_⟩:=h;cases tus;rfl
 ·let⟨F,p,d,k,us,ds,rfl,hF,kp,tus,⟨rfl,ok,hll⟩,told⟩:=h;cases tus;have kp0:=kp;let⟨⟨dx,g,l,ug,ul,e1,g1,e2,t2,g3,e3,t3⟩,kvs,e4,kv⟩:=kp;have fk:=ok.few;have m2:=ok.m2;have s1k:=ok.s1;have lk:(F4 k.kws).length<64:=by unfold F4;rw[B7];omega
  refine⟨_,(C0 (pS (i:=1) C49.nd (Q9 (pv 0) rfl))
   (C0 (A10 (pv 0) (B3 gJ (hr.mono DD) rfl (T.dA.trans T.cB.m) T.cB.F.kp gK .nil A7 (A3 (pmG (pv 0) T.ae T.aA (A65 T) hr) (A3 (Q9 (pv 0) rfl) (A3 (Q9 (pv 0) rfl) A4 P2) P2) C6)) rfl)
   (C9 (G0 (w5 (A3 (pcF T.aE (D9f T) hr (A3 (Q9 (pv 0) rfl) (A3 (pv 1) A4 A0) P2)) (A3 (pcF T.aE (D9f T) hr (A3 (pv 1) (A3 (Q9 (pv 0) rfl) A4 P2) A0)) A4 C6) C6)))))),?_⟩
  ac_nf
  refine A26 λW hW=>?_;exists _,rfl,p,_,dx,_,_,rfl,e1,T.ae,T.cD,B30;refine N6 W hW λW hW=>?_;refine⟨_,rfl,p,dx,_,rfl,e1,S4 KK,F,p,d,k,[],[],rfl,hF,kp0,.nil,⟨rfl,lk⟩,λr v k' H1 po kp1 tv fr J=>?_⟩;let⟨rfl,rfl⟩:=po;have kp1':=kp1;let⟨⟨dx1,g',l',ug',ul',f1,gg1,f2,tt2,gg3,f3,tt3⟩,kvs',f4,kv'⟩:=kp1;have n3:=X3 kp0 e3;have e3':=fr _ _ e3 n3.1 n3.2;exists _,rfl,p,_,dx1,_,_,rfl,f1,T.ae,T.dh,B3z,_,rfl,p,_,dx1,_,_,rfl,f1,T.ae,T.dL,C6b;refine⟨[K2 k'.m (wsF k'.kws),.int k'.st,.list (E2 k'.g)],(λd=>∃t,S1 k'.m ((wsF k'.kws).map A1l) k'.st (lkF k'.st k'.g) t/\d=.list (E2 (lkF k'.st t))),.cons tv.any (.cons (.int _) (.cons (.lst trivial f2 tt2) .nil)),⟨k'.m,wsF k'.kws,k'.st,k'.g,rfl,ok.land,ok.s0,OO,ok.gt,λt ht=>⟨t,ht,rfl⟩⟩,λd' v2 H2 hd' t2' s2=>?_⟩;let⟨t,ht,rfl⟩:=hd';let⟨ln,un,rfl,gn,en,tn⟩:=P7 t2';have lnn:H1 ln=none:=B0l s2 gn en;refine⟨_,rfl,p,_,dx1,_,rfl,s2 _ _ f1,T.ae,T.cD,by show 5<1000;decide,?_⟩;rw[D9i];obtain⟨H3,hH3⟩:∃H3,H3=upd H2 p (.ins T.ac dx1 (kfs k'.m k'.st g' d ln)):=⟨_,rfl⟩;rw[<-hH3];have f3':∀b o,H2 b=some o->b≠p->H3 b=some o:=λb o e n=>by rw[hH3,C4 n];exact e
  have pd:=A4q kp1';have np:∀{b:Addr}{xs:!V},H2 b=some (.lst xs)->H3 b=some (.lst xs):=λ{b xs} e=>f3' _ _ e λz=>by rw[z,s2 _ _ f1] at e;cases e
  have lb:b9 k'.m k'.st k'.g k'.kws (lkF k'.st t):=⟨t,ht,rfl⟩;have kpF:J1 F T.ac H3 p d { k' with low:=lkF k'.st t }:=by
   refine⟨⟨dx1,g',ln,ug',un,by rw[hH3];exact B9,gg1,np (s2 _ _ f2),M4 tt2,hF _ ?_,np en,M4 tn⟩,kvs',f3' _ _ (s2 _ _ f4) pd.1.symm,kv'.mv λb xs e=>f3' _ _ (s2 _ _ e) (W3 kp1' e).1⟩;cases z:H ln with
   | none=>rfl
   | some o=>
    by_cases c1:ln=p
    ·rw[c1,s2 _ _ f1] at en;cases en
    ·by_cases c2:ln=d
     ·rw[c2,s2 _ _ f4] at en;cases en
     ·rw[fr _ _ z c1 c2] at lnn;cases lnn
  have eH3p:H3 p=some (.ins T.ac dx1 (kfs k'.m k'.st g' d ln)):=by rw[hH3];exact B9
  have lt:=lb.tab.len;subst hW;refine⟨_,rfl,p,_,dx1,_,_,rfl,eH3p,T.ae,T.cD,B30,_,rfl,[.list (E2 (lkF k'.st t)),.list (E2 k'.low)],(λd=>d=.list (J0 (A1m (lkF k'.st t) k'.low))),.cons (.lst trivial (np en) (M4 tn)) (.cons (.lst trivial (np (s2 _ _ e3')) (M4 t3)) .nil),⟨_,_,rfl,by rw[lt,hll],OO,rfl⟩,λd' v4 H4 hd' t4 s4=>?_⟩;subst hd';refine⟨_,rfl,_,rfl,p,_,dx1,_,_,rfl,s4 _ _ eH3p,T.ae,T.cD,B30,[.list (E2 k'.low),.list (E2 (lkF k'.st t))],(λd=>d=.list (J0 (A1m k'.low (lkF k'.st t)))),.cons (.lst trivial (s4 _ _ (np (s2 _ _ e3'))) (M4 t3)) (.cons (.lst trivial (s4 _ _ (np en)) (M4 tn)) .nil),⟨_,_,rfl,by rw[lt,hll],OO,rfl⟩,λd' v5 H5 hd' t5 s5=>?_⟩;subst hd';refine⟨SZ (n:=2),λrr hrr=>?_⟩;have s6:Same H5 (upd H5 rr (.tup [v4,v5])):=Same.upd hrr;have s36:=(s4.tr s5).tr s6;have fr3:∀b o,H b=some o->b≠p->b≠d->H3 b=some o:=λb o e n1 n2=>f3' _ _ (s2 _ _ (fr _ _ e n1 n2)) n1;have new3:∀b,S3 H3 b->S3 H b:=λb hb=>by
   rcases hb with hb | ⟨xs,hb⟩
   ·cases z:H b with
    | none=>exact .inl z
    | some o=>
     by_cases c1:b=p
     ·rw[c1,eH3p] at hb;cases hb
     ·by_cases c2:b=d
      ·rw[c2,f3' _ _ (s2 _ _ f4) pd.1.symm] at hb;cases hb
      ·rw[fr3 _ _ z c1 c2] at hb;cases hb
   ·cases z:H b with
    | none=>exact .inl z
    | some o=>
     by_cases c1:b=p
     ·rw[c1,eH3p] at hb;cases hb
     ·by_cases c2:b=d
      ·rw[c2,f3' _ _ (s2 _ _ f4) pd.1.symm] at hb;cases hb
      ·have:=fr3 _ _ z c1 c2;rw[hb] at this;cases this;exact .inr ⟨xs,z⟩
  refine told _ _ _ _ ⟨lkF k'.st t,lb,rfl,rfl⟩ (kpF.same s36) (.tup (new3 _ (.inl ((s4.tr s5).early hrr))) B9 (.cons (((t4.mv λb o z e=>⟨new3 _ z,e⟩).keep s5).keep s6) (.cons ((t5.mv λb o z e=>⟨new3 _ (C5l s4 z),e⟩).keep s6) .nil))) (λb o e n1 n2=>s36 _ _ (fr3 _ _ e n1 n2)) ⟨λa x y z1 z2=>?_,A4p (kpF.ex.same s36) λb xs g J z=>?_⟩
  ·cases z1;rw[B9] at z2;cases z2;let⟨_,_,ex,_,ex1,_⟩:=P7 t4;cases ex;let⟨_,_,ey,gy,ey1,_⟩:=P7 t5;cases ey;have:=B0l s5 gy ey1;intro z;rw[<-z,ex1] at this;cases this
  ·let⟨ys,g⟩:=g;rcases z with z | ⟨_,_,z,z2,z3⟩
   ·cases z;rw[(s4.tr s5).early hrr] at g;cases g
   ·cases z;rw[B9] at z2;cases z2;rcases K7.mp z3 with z | z
    ·let⟨_,_,ex,gx,ex1,_⟩:=P7 t4;rw[<-z] at ex;cases ex;rw[B0l s4 gx ex1] at g;cases g
    ·have z:=A2h.mp z;let⟨_,_,ey,gy,ey1,_⟩:=P7 t5;rw[<-z] at ey;cases ey;have:=B0l s5 gy ey1;rw[s4 _ _ g] at this;cases this
inductive R8
 | lay (x:Int) (w:Wy)
 | lift (x:Int)
 | turn (x c:Int)
 | refill (s:Int)
 | aim (g:Tb)
def R8.args:R8->!PyData
 | .lay x w=>[.int x,.int ((w.1:Nat):Int),.int ((w.2.1:Nat):Int),.int w.2.2]
 | .lift x=>[.int x]
 | .turn x c=>[.int x,.int c]
 | .refill s=>[.int s]
 | .aim g=>[.list (E2 g)]
def A29 (kws:Kw)(x c:Int):Wy:=(((J7 kws x).getD (0,0,0)).1,((J7 kws x).getD (0,0,0)).2.1,c)
def Q1 (k:Kst):R8->Kst
 | .lay x w=>{ k with kws:=i9 k.kws x w }
 | .lift x=>{ k with kws:=A4o k.kws x }
 | .turn x c=>{ k with kws:=i9 k.kws x (A29 k.kws x c) }
 | .refill s=>{ k with st:=s }
 | .aim g=>{ k with g:=g }
def A3a (x:Int):Prop:=1<=x/\x<=∅
def A66 (k:Kst):R8->Prop
 | .lay x w=>A3a x/\J7 k.kws x=none/\A07 k.m w/\k.kws.length<40
 | .lift x=>A3a x/\∃w,J7 k.kws x=some w
 | .turn x c=>(A3a x/\∃w,J7 k.kws x=some w)/\-∅<=c/\c<=∅
 | .refill s=>(0<=s/\s<=100000000000000000000)/\F3 k.m s k.g
 | .aim g=>F3 k.m k.st g
theorem B32 {kws:Kw}{x:Int}{w:Wy}(h:J7 kws x=none):i9 kws x w=kws++[(x,w)]:=by
 unfold i9;rw[if_neg];intro z;rw[List.any_eq_true] at z;let⟨q,hq,e⟩:=z;have e:q.1=x:=by simpa using e
 let⟨w',hw'⟩:=A64 (kws:=kws) (k:=x) (by unfold F4;exact L0.mpr ⟨q,hq,e⟩);rw[h] at hw';cases hw'
theorem B33 {kws:Kw}{x:Int}{w w0:Wy}(h:J7 kws x=some w0):i9 kws x w=kws.map λq=>if q.1=x then (q.1,w) else q:=by
 unfold i9;rw[if_pos];rw[List.any_eq_true];exact⟨_,A63 h,by simp⟩
theorem D93 {kws:Kw}{x:Int}{w w0:Wy}(h:J7 kws x=some w0):F4 (i9 kws x w)=F4 kws:=by
 rw[B33 h];unfold F4;rw[Q8];refine B1m λq J=>?_;show (if q.1=x then (q.1,w) else q).1=q.1;split <;> rfl
set_option tactic.hygienic true in
theorem A9b {k:Kst}(o:KOk k.m k.st k.g k.kws):∀{dd:R8},A66 k dd->KOk (Q1 k dd).m (Q1 k dd).st (Q1 k dd).g (Q1 k dd).kws
 | .lay x w,⟨lx,hn,hw,hl⟩=>by
  show KOk k.m k.st k.g (i9 k.kws x w);rw[B32 hn];refine { o with nd:=?_,few:=by rw[L3,C8g];omega,way:=λq hq=>?_ }
  ·unfold F4;rw[L7];refine List.nodup_append.mpr ⟨o.nd,by simp,λa ha b hb z=>?_⟩;rw[A2h.mp (show b∈[x] from hb)] at z;let⟨w',hw'⟩:=A64 (kws:=k.kws) (k:=x) (z▸ha);rw[hn] at hw';cases hw'
  ·rcases p7.mp hq with h | h
   ·exact o.way q h
   ·rw[A2h.mp h];exact⟨lx,hw⟩
 | .lift x,_=>by
  show KOk k.m k.st k.g (A4o k.kws x);unfold A4o;refine { o with nd:=?_,few:=M0 (C0y _ _) o.few,way:=λq hq=>o.way q (B05.mp hq).1 };exact List.Nodup.sublist (List.Sublist.map _ List.filter_sublist) o.nd
 | .turn x c,⟨⟨lx,w0,hw0⟩,c0,c1⟩=>by
  show KOk k.m k.st k.g (i9 k.kws x (A29 k.kws x c));have wo:=(o.way _ (A63 hw0)).2;have ht:A29 k.kws x c=(w0.1,w0.2.1,c):=by unfold A29;rw[hw0];rfl
  refine { o with nd:=by rw[D93 hw0];exact o.nd,few:=?_,way:=λq hq=>?_ }
  ·rw[B33 hw0,B7];exact o.few
  ·rw[B33 hw0] at hq;let⟨q',hq',rfl⟩:=L0.mp hq;split
   ·rename_i e;exists (o.way q' hq').1;rw[ht];exact⟨wo.st,wo.en,c0,c1⟩
   ·exact o.way q' hq'
 | .refill s,⟨⟨s0,s1⟩,ht⟩=>{ o with s0:=s0,s1:=s1,gt:=ht }
 | .aim g,ht=>{ o with gt:=ht }
def B0r (D:R8->Prop)(k:Kst)(ds:!PyData):Prop:=∃dd,D dd/\ds=dd.args/\KOk k.m k.st k.g k.kws/\k.low.length=k.m/\A66 k dd
def B0s (D:R8->Prop)(k:Kst)(ds:!PyData)(r:PyData)(k':Kst):Prop:=∃dd,D dd/\ds=dd.args/\B9u (Q1 k dd) k.low r k'
abbrev A4r (dd:R8):Prop:=∃x w,dd=.lay x w
abbrev A4s (dd:R8):Prop:=∃x,dd=.lift x
abbrev A4t (dd:R8):Prop:=∃x c,dd=.turn x c
abbrev A4u (dd:R8):Prop:=∃s,dd=.refill s
abbrev A4v (dd:R8):Prop:=∃g,dd=.aim g
def D94 (k:Kst)(ds:!PyData):Prop:=∃x w,ds=[.int x]/\A3a x/\J7 k.kws x=some w
def D95 (k:Kst)(ds:!PyData)(r:PyData)(k':Kst):Prop:=(∃x w,ds=[.int x]/\J7 k.kws x=some w/\r=N5 w)/\k'=k
theorem A67 {F:Addr->Prop}{H:Hp}{vs:!V}{d:PyData}(t:C3 F H vs [d]):∃v,vs=[v]/\ThV F H v d:=by
 cases t with
 | cons x t=>cases t;exact⟨_,rfl,x⟩
theorem C6l {F:Addr->Prop}{H:Hp}{vs:!V}{d1 d2 d3 d4:PyData}(t:C3 F H vs [d1,d2,d3,d4]):∃v1 v2 v3 v4,vs=[v1,v2,v3,v4]/\ThV F H v1 d1/\ThV F H v2 d2/\ThV F H v3 d3/\ThV F H v4 d4:=by
 cases t with
 | cons x1 t=>
 cases t with
 | cons x2 t=>
 let⟨v3,v4,rfl,t3,t4⟩:=g6 t;exact⟨_,_,v3,v4,rfl,x1,x2,t3,t4⟩
theorem C6m:FM P w mg base 3 T.cm (A08 T.ac D94 D95):=by
 refine T.cm.F.ok D5y (λJ H J J h=>?_) (λJ J J J H J Q J hr h=>?_)
 ·let⟨F,p,d,k,us,ds,rfl,_,_,tus,⟨x,w,rfl,_⟩,_⟩:=h;let⟨v,rfl,_⟩:=A67 tus;rfl
 ·let⟨F,p,d,k,us,ds,rfl,hF,kp,tus,⟨x,w0,rfl,lx,hw⟩,told⟩:=h;let⟨v,rfl,tx⟩:=A67 tus;cases tx;have kp0:=kp;let⟨⟨dx,g,l,ug,ul,e1,g1,e2,t2,g3,e3,t3⟩,kvs,e4,kv⟩:=kp;rcases kv.val x with ⟨_,z⟩ | ⟨v0,w1,hv,hw1,tv⟩
  ·rw[hw] at z;cases z
  rw[hw] at hw1;cases hw1;refine⟨_,(C0 (N9 (M5 (PW.pt (A3p (U8 (W6 (pcF T.bi (C6f T) hr (A3 (pv 1) A4 A0)))) (A3o (C04 (D37 (u1 (b6 hr)) (pv 1) (Q9 (pv 0) rfl))))))
   (C9 Y5)
   M9))
   (C9 (G0 (B6l (u1 (b6 hr)) (Q9 (pv 0) rfl) (pv 1) (λJ J=>rfl))))),?_⟩
  refine⟨fun σ' H'=>σ'=[some (.ref p),some (.int x)]/\Same H H',?_,?_⟩
  ·refine⟨_,rfl,Z1 (E:=E0) (λd=>d=.bool true) (.cons (.int _) .nil) ⟨x,rfl,lx.1,lx.2,rfl⟩ λd' v1 H1 hd t1 s1=>?_⟩;subst hd;cases t1;refine⟨_,rfl,G5 ⟨_,rfl,_,rfl,p,_,dx,_,_,rfl,s1 _ _ e1,T.ae,T.bK,A1n,d,_,rfl,z4.k (k:=Sum.inl x) (s1 _ _ e4),_,rfl,?_⟩⟩;rw[hv];exact G5 ⟨rfl,s1⟩
  rintro σ' H1 ⟨rfl,s1⟩;refine⟨_,rfl,p,_,dx,_,_,rfl,s1 _ _ e1,T.ae,T.bK,A1n,_,rfl,d,v0,rfl,by rw[<-hv];exact z4.k (k:=Sum.inl x) (s1 _ _ e4),?_⟩;exact told _ _ k _ ⟨⟨x,w0,rfl,hw,rfl⟩,rfl⟩ (kp0.same s1) (B0p tv (λb xs e=>s1 _ _ e) λb xs e=>.inr ⟨xs,e⟩) (λb o e J J=>s1 _ _ e) (D9v (kp0.same s1) (B0p (G:=TT0) tv (λb xs e=>s1 _ _ e) λJ J J=>trivial))
theorem D96:FM P w mg base 11 T.dS (A08 T.ac (B0r A4r) (B0s A4r)):=by
 refine T.dS.F.ok D5u (λJ H J J h=>?_) (λJ J J J H J Q J hr h=>?_)
 ·let⟨F,p,d,k,us,ds,rfl,_,_,tus,⟨dd,⟨x,w,rfl⟩,rfl,_⟩,_⟩:=h;rw[J6,tus.len];rfl
 ·let⟨F,p,d,k,us,ds,rfl,hF,kp,tus,⟨dd,⟨x,w0,rfl⟩,rfl,ok,hll,dok⟩,told⟩:=h;let⟨lx,hn,ow,hlen⟩:=id dok;let⟨v1,v2,v3,v4,rfl,t1,t2',t3',t4⟩:=C6l tus;cases t1;cases t2';cases t3';cases t4;have kp0:=kp;let⟨⟨dx,g,l,ug,ul,e1,g1,e2,t2,g3,e3,t3⟩,kvs,e4,kv⟩:=kp;have pd:=A4q kp0;rcases kv.val x with ⟨hv,_⟩ | ⟨v0,w1,hv,hw1,tv⟩
  rotate_left
  ·rw[hn] at hw1;cases hw1
  refine⟨_,(C0 (N9 (M5 (U8 (W6 (pcF T.bi (C6f T) hr (A3 (pv 1) A4 A0))))
   (C9 Y5)
   M9))
   (C0 (N9 (M5 (C04 (D36 (u1 (b6 hr)) (pv 1) (Q9 (pv 0) rfl)))
   (C9 Y5)
   M9))
   (C0 (N9 (M5 (U8 (W6 (pcF T.cT (D9s T) hr (A3 (Q9 (pv 0) rfl) (A3 (w5 (A3 (pv 2) (A3 (pv 3) (A3 (pv 4) A4 A0) A0) A0)) A4 g4) P2))))
   (C9 Y5)
   M9))
   (C0 (N9 (M5 (P9 B40 (K5 D4g rfl T.aP T9 (A3 (Q9 (pv 0) rfl) A4 P2)) (cII T.g_MOST_WAYS) (F6 _))
   (C9 Y5)
   M9))
   (C0 (C37 (u1 (b6 hr)) (Q9 (pv 0) rfl) (pv 1) (w5 (A3 (pv 2) (A3 (pv 3) (A3 (pv 4) A4 A0) A0) A0)) rfl)
   (C9 (G0 (pmG (pv 0) T.ae T.aG (B0q T) hr)))))))),?_⟩
  ac_nf
  refine A26 λW hW=>?_;refine⟨fun σ' H'=>σ'=[some (.ref p),some (.int x),some (.int ((w0.1:Nat):Int)),some (.int ((w0.2.1:Nat):Int)),some (.int w0.2.2)]/\Same H H',?_,?_⟩
  ·refine⟨_,rfl,Z1 (E:=E0) (λd=>d=.bool true) (.cons (.int _) .nil) ⟨x,rfl,lx.1,lx.2,rfl⟩ λd' v1 H1 hd t1 s1=>?_⟩;subst hd;cases t1;exact⟨_,rfl,G5 ⟨rfl,s1⟩⟩
  rintro σ' H1 ⟨rfl,s1⟩;refine N6 W hW λW hW=>?_;refine⟨fun σ' H'=>σ'=[some (.ref p),some (.int x),some (.int ((w0.1:Nat):Int)),some (.int ((w0.2.1:Nat):Int)),some (.int w0.2.2)]/\Same H H',?_,?_⟩
  ·exists _,rfl,_,rfl,p,_,dx,_,_,rfl,s1 _ _ e1,T.ae,T.bK,A1n,d,_,rfl,z4.k (k:=Sum.inl x) (s1 _ _ e4),_,rfl;rw[hv];exact G5 ⟨rfl,s1⟩
  clear s1;rintro σ' H1 ⟨rfl,s1⟩;refine N6 W hW λW hW=>?_;refine⟨fun σ' H'=>σ'=[some (.ref p),some (.int x),some (.int ((w0.1:Nat):Int)),some (.int ((w0.2.1:Nat):Int)),some (.int w0.2.2)]/\Same H H',?_,?_⟩
  ·refine⟨_,rfl,p,_,dx,_,_,rfl,s1 _ _ e1,T.ae,T.dR,B3y,_,rfl,_,rfl,_,rfl,SZ (n:=3),λt ht=>?_⟩;have s2:=s1.tr (Same.upd (o:=.tup [.int ((w0.1:Nat):Int),.int ((w0.2.1:Nat):Int),.int w0.2.2]) ht);refine Z1 (E:=E0) (λd=>d=.bool true) (.cons (.int _) (.cons (.tup trivial B9 (.cons (.int _) (.cons (.int _) (.cons (.int _) .nil)))) .nil)) ⟨k.m,w0,rfl,ow,rfl⟩ λd' v1 H3 hd t3 s3=>?_;subst hd;cases t3;exact⟨_,rfl,G5 ⟨rfl,s2.tr s3⟩⟩
  clear s1;rintro σ' H1 ⟨rfl,s1⟩;refine N6 W hW λW hW=>?_;refine⟨fun σ' H'=>σ'=[some (.ref p),some (.int x),some (.int ((w0.1:Nat):Int)),some (.int ((w0.2.1:Nat):Int)),some (.int w0.2.2)]/\Same H H',?_,?_⟩
  ·exists _,rfl,p,_,dx,_,_,rfl,s1 _ _ e1,T.ae,T.bK,A1n,d,kvs,rfl,s1 _ _ e4,_,_,rfl,rfl,_,rfl;rw[kv.len,decide_eq_false (show ¬ (40:Int)<=((k.kws.length:Nat):Int) by omega)];exact G5 ⟨rfl,s1⟩
  clear s1;rintro σ' H1 ⟨rfl,s1⟩;refine N6 W hW λW hW=>?_;refine⟨_,rfl,_,rfl,_,rfl,SZ (n:=3),λt ht=>?_⟩;obtain⟨H2,hH2⟩:∃H2,H2=upd H1 t (.tup [.int ((w0.1:Nat):Int),.int ((w0.2.1:Nat):Int),.int w0.2.2]):=⟨_,rfl⟩;rw[<-hH2];have s12:Same H1 H2:=by rw[hH2];exact Same.upd ht
  have s2:=s1.tr s12;have tw:ThV TT0 H2 (.ref t) (N5 w0):=.tup trivial (by rw[hH2];exact B9) (.cons (.int _) (.cons (.int _) (.cons (.int _) .nil)));clear hH2;refine⟨_,rfl,p,_,dx,_,_,rfl,s2 _ _ e1,T.ae,T.bK,A1n,_,rfl,d,_,rfl,A8u.k (k:=Sum.inl x) (s2 _ _ e4) (by rw[kv.len,sizeLine_eq];omega),?_⟩;obtain⟨H3,hH3⟩:∃H3,H3=upd H2 d (.dK (i8 kvs (Sum.inl x:Key) (.ref t))):=⟨_,rfl⟩;rw[<-hH3];have f3:∀b o,H2 b=some o->b≠d->H3 b=some o:=λb o e n=>by rw[hH3,C4 n];exact e
  have kp2:=kp0.same s2;have kp3:J1 F T.ac H3 p d (Q1 k (.lay x w0)):=by
   have nl:∀{b:Addr}{xs:!V},H2 b=some (.lst xs)->H3 b=some (.lst xs):=λe=>f3 _ _ e (X3 kp2 e).2;exact⟨⟨dx,g,l,ug,ul,f3 _ _ (s2 _ _ e1) pd.1,g1,nl (s2 _ _ e2),M4 t2,g3,nl (s2 _ _ e3),M4 t3⟩,_,by rw[hH3];exact B9,((kv.mv λb xs e=>s2 _ _ e).put tw).mv λb xs e=>f3 _ _ e (W3 kp2 e).2⟩
  have e1':=f3 _ _ (s2 _ _ e1) pd.1;have bk:∀b,H3 b=none->H b=none:=λb hb=>by
   cases z:H b with
   | none=>rfl
   | some o=>
    by_cases c:b=d
    ·rw[c,hH3,B9] at hb;cases hb
    ·rw[f3 _ _ (s2 _ _ z) c] at hb;cases hb
  subst hW;refine⟨_,rfl,p,dx,_,rfl,e1',S4 KK,F,p,d,Q1 k (.lay x w0),[],[],rfl,λb hb=>hF _ (bk b hb),kp3,.nil,⟨rfl,A9b ok dok,hll⟩,λr v k' H4 po kp4 tv fr ap=>?_⟩;refine told r v k' H4 ⟨_,⟨x,w0,rfl⟩,rfl,po⟩ kp4 (tv.mv λb o z e=>⟨?_,e⟩) (λb o e n1 n2=>fr _ _ (f3 _ _ (s2 _ _ e) n2) n1 n2) ap;rcases z with z | ⟨xs,z⟩
  ·exact .inl (bk b z)
  ·cases y:H b with
   | none=>exact .inl y
   | some o'=>
    by_cases c:b=d
    ·rw[c,hH3,B9] at z;cases z
    ·have:=f3 _ _ (s2 _ _ y) c;rw[z] at this;cases this;exact .inr ⟨xs,y⟩
theorem B0t {H H3:Hp}{p d:Addr}{op od:HO}(hp:H3 p=some op)(hd:H3 d=some od)(f:∀b o,H b=some o->b≠p->b≠d->H3 b=some o){b:Addr}(z:H3 b=none):H b=none:=by
 cases y:H b with
 | none=>rfl
 | some o=>
  by_cases c1:b=p
  ·rw[c1,hp] at z;cases z
  ·by_cases c2:b=d
   ·rw[c2,hd] at z;cases z
   ·rw[f _ _ y c1 c2] at z;cases z
theorem B34 {H H3:Hp}{C dx p d:Addr}{fs:!(Str×V)}{kvs:!(Key×V)}(hp:H3 p=some (.ins C dx fs))(hd:H3 d=some (.dK kvs))(f:∀b o,H b=some o->b≠p->b≠d->H3 b=some o){b:Addr}(z:S3 H3 b):S3 H b:=by
 rcases z with z | ⟨xs,z⟩
 ·exact .inl (B0t hp hd f z)
 ·cases y:H b with
  | none=>exact .inl y
  | some o=>
   by_cases c1:b=p
   ·rw[c1,hp] at z;cases z
   ·by_cases c2:b=d
    ·rw[c2,hd] at z;cases z
    ·have:=f _ _ y c1 c2;rw[z] at this;cases this;exact .inr ⟨xs,y⟩
theorem D97:FM P w mg base 11 T.dl (A08 T.ac (B0r A4s) (B0s A4s)):=by
 refine T.dl.F.ok D5v (λJ H J J h=>?_) (λJ J J J H J Q J hr h=>?_)
 ·let⟨F,p,d,k,us,ds,rfl,_,_,tus,⟨dd,⟨x,rfl⟩,rfl,_⟩,_⟩:=h;rw[J6,tus.len];rfl
 ·let⟨F,p,d,k,us,ds,rfl,hF,kp,tus,⟨dd,⟨x,rfl⟩,rfl,ok,hll,dok⟩,told⟩:=h;let⟨lx,w0,hw⟩:=id dok;let⟨v1,rfl,t1⟩:=A67 tus;cases t1;have kp0:=kp;let⟨⟨dx,g,l,ug,ul,e1,g1,e2,t2,g3,e3,t3⟩,kvs,e4,kv⟩:=kp;have pd:=A4q kp0;refine⟨_,(C0 (N7 (pmF (pv 0) T.ae T.cm (C6m T) hr (A3 (pv 1) A4 A0) (hst:=A0)))
   (C0 (N7 (D4d (Q9 (pv 0) rfl) (pv 1) ⟨rfl,rfl,rfl,rfl⟩))
   (C9 (G0 (pmG (pv 0) T.ae T.aG (B0q T) hr))))),?_⟩
  ac_nf
  refine A26 λW hW=>?_;refine⟨_,rfl,p,dx,_,rfl,e1,S4 KK,_,rfl,F,p,d,k,[.int x],[.int x],rfl,hF,kp0,.cons (.int _) .nil,⟨x,w0,rfl,lx,hw⟩,λr v k' H1 po kp1 tv fr J=>?_⟩;let⟨_,rfl⟩:=po;have kp1':=kp1;let⟨⟨dx1,g',l',ug',ul',f1,gg1,f2,tt2,gg3,f3,tt3⟩,kvs',f4,kv'⟩:=kp1;rcases kv'.val x with ⟨_,z⟩ | ⟨v0,w1,hv,hw1,tv'⟩
  ·rw[hw] at z;cases z
  refine N6 W hW λW hW=>?_;exists _,rfl,p,_,dx1,_,_,rfl,f1,T.ae,T.bK,A1n,d,rfl,.inl ⟨kvs',.inl f4⟩,_,rfl,kvs',Sum.inl x,v0,f4,rfl,hv;obtain⟨H3,hH3⟩:∃H3,H3=upd H1 d (.dK (A23 kvs' (Sum.inl x:Key))):=⟨_,rfl⟩;rw[<-hH3];have h3:∀b o,H1 b=some o->b≠d->H3 b=some o:=λb o e n=>by rw[hH3,C4 n];exact e
  have ed:H3 d=some (.dK (A23 kvs' (Sum.inl x:Key))):=by rw[hH3];exact B9
  have kp3:J1 F T.ac H3 p d (Q1 k' (.lift x)):=by
   have nl:∀{b:Addr}{xs:!V},H1 b=some (.lst xs)->H3 b=some (.lst xs):=λe=>h3 _ _ e (X3 kp1' e).2;exact⟨⟨dx1,g',l',ug',ul',h3 _ _ f1 pd.1,gg1,nl f2,M4 tt2,gg3,nl f3,M4 tt3⟩,_,ed,(kv'.drop x).mv λb xs e=>h3 _ _ e (W3 kp1' e).2⟩
  have fH:∀b o,H b=some o->b≠p->b≠d->H3 b=some o:=λb o e n1 n2=>h3 _ _ (fr _ _ e n1 n2) n2;have pH3:=h3 _ _ f1 pd.1;have newF:∀b,S3 H3 b->S3 H b:=λb z=>B34 pH3 ed fH z;have noF:∀b,H3 b=none->H b=none:=λb z=>B0t pH3 ed fH z;subst hW;refine⟨_,rfl,p,dx1,_,rfl,pH3,S4 KK,F,p,d,Q1 k' (.lift x),[],[],rfl,λb hb=>hF _ (noF b hb),kp3,.nil,⟨rfl,A9b ok dok,hll⟩,λr v k2 H4 po kp4 tv fr4 ap=>?_⟩;exact told r v k2 H4 ⟨_,⟨x,rfl⟩,rfl,po⟩ kp4 (tv.mv λb o z e=>⟨newF b z,e⟩) (λb o e n1 n2=>fr4 _ _ (fH _ _ e n1 n2) n1 n2) ap
theorem D98:FM P w mg base 11 T.dr (A08 T.ac (B0r A4t) (B0s A4t)):=by
 refine T.dr.F.ok C48 (λJ H J J h=>?_) (λJ J J J H J Q J hr h=>?_)
 ·let⟨F,p,d,k,us,ds,rfl,_,_,tus,⟨dd,⟨x,c,rfl⟩,rfl,_⟩,_⟩:=h;rw[J6,tus.len];rfl
 ·let⟨F,p,d,k,us,ds,rfl,hF,kp,tus,⟨dd,⟨x,c,rfl⟩,rfl,ok,hll,dok⟩,told⟩:=h;let⟨⟨lx,w0,hw⟩,c0,c1⟩:=id dok;let⟨v1,v2,rfl,t1,t2'⟩:=g6 tus;cases t1;cases t2';have kp0:=kp;let⟨⟨dx,g,l,ug,ul,e1,g1,e2,t2,g3,e3,t3⟩,kvs,e4,kv⟩:=kp;have pd:=A4q kp0;refine⟨_,(C0 (pS (i:=3) C48.nd (pmF (pv 0) T.ae T.cm (C6m T) hr (A3 (pv 1) A4 A0) (hst:=A0)))
   (C0 (N9 (M5 (U8 (W6 (pcF T.aR (C6g T) hr (A3 (pv 2) A4 A0))))
   (C9 Y5)
   M9))
   (C0 (C37 (u1 (b6 hr)) (Q9 (pv 0) rfl) (pv 1) (w5 (A3 (E6 A3u (pv 3) (cII T.g_START)) (A3 (E6 A3u (pv 3) (cII T.g_END)) (A3 (pv 2) A4 A0) B0) B0)) rfl)
   (C9 (G0 (pmG (pv 0) T.ae T.aG (B0q T) hr)))))),?_⟩
  ac_nf
  refine A26 λW hW=>?_;refine⟨_,rfl,p,dx,_,rfl,e1,S4 KK,_,rfl,F,p,d,k,[.int x],[.int x],rfl,hF,kp0,.cons (.int _) .nil,⟨x,w0,rfl,lx,hw⟩,λr v k' H1 po kp1 tv fr J=>?_⟩;let⟨⟨x',w0',ex,hw',rfl⟩,rfl⟩:=po;cases ex;rw[hw] at hw';cases hw';let⟨tw,utw,rfl,gtw,etw,ttw⟩:=y8 (show ThV (S3 H) H1 v (.tuple ([((w0.1:Nat):Int),((w0.2.1:Nat):Int),w0.2.2].map PyData.int)) from tv);cases ttw with
  | @cons y1 _ _ _ ty1 ttw=>
  cases ttw with
  | @cons y2 _ _ _ ty2 ttw=>
  cases ttw with
  | @cons y3 _ _ _ ty3 ttw=>
  cases ttw;cases ty1;cases ty2;cases ty3;have kp1':=kp1;let⟨⟨dx1,g',l',ug',ul',f1,gg1,f2,tt2,gg3,f3,tt3⟩,kvs',f4,kv'⟩:=kp1;refine N6 W hW λW hW=>?_;refine⟨fun σ' H'=>σ'=[some (.ref p),some (.int x),some (.int c),some (.ref tw)]/\Same H1 H',?_,?_⟩
  ·refine⟨_,rfl,Z1 (E:=E0) (λd=>d=.bool true) (.cons (.int _) .nil) ⟨c,rfl,c0,c1,rfl⟩ λd' v1 H2 hd t1 s1=>?_⟩;subst hd;cases t1;exact⟨_,rfl,G5 ⟨rfl,s1⟩⟩
  rintro σ' H2 ⟨rfl,s2⟩;refine N6 W hW λW hW=>?_;refine⟨_,rfl,.inr (.inl ⟨tw,_,0,_,rfl,rfl,SqT.of (s2 _ _ etw),rfl,_,rfl,.inr (.inl ⟨tw,_,1,_,rfl,rfl,SqT.of (s2 _ _ etw),rfl,_,rfl,SZ (n:=3),λt ht=>?_⟩)⟩)⟩;obtain⟨H2',hH2⟩:∃H2',H2'=upd H2 t (.tup [.int ((w0.1:Nat):Int),.int ((w0.2.1:Nat):Int),.int c]):=⟨_,rfl⟩;rw[<-hH2];have s12:Same H1 H2':=s2.tr (by rw[hH2];exact Same.upd ht);have etr:A29 k'.kws x c=(w0.1,w0.2.1,c):=by unfold A29;rw[hw];rfl
  have twD:ThV TT0 H2' (.ref t) (N5 (A29 k'.kws x c)):=by
   rw[etr];exact .tup trivial (by rw[hH2];exact B9) (.cons (.int _) (.cons (.int _) (.cons (.int _) .nil)))
  clear hH2;refine⟨_,rfl,p,_,dx1,_,_,rfl,s12 _ _ f1,T.ae,T.bK,A1n,_,rfl,d,_,rfl,A8u.k (k:=Sum.inl x) (s12 _ _ f4) (by rw[kv'.len,sizeLine_eq];have:=ok.few;omega),?_⟩;obtain⟨H3,hH3⟩:∃H3,H3=upd H2' d (.dK (i8 kvs' (Sum.inl x:Key) (.ref t))):=⟨_,rfl⟩;rw[<-hH3];have h3:∀b o,H2' b=some o->b≠d->H3 b=some o:=λb o e n=>by rw[hH3,C4 n];exact e
  have ed:H3 d=some (.dK (i8 kvs' (Sum.inl x:Key) (.ref t))):=by rw[hH3];exact B9
  have kp2:=kp1'.same s12;have kp3:J1 F T.ac H3 p d (Q1 k' (.turn x c)):=by
   have nl:∀{b:Addr}{xs:!V},H2' b=some (.lst xs)->H3 b=some (.lst xs):=λe=>h3 _ _ e (X3 kp2 e).2;exact⟨⟨dx1,g',l',ug',ul',h3 _ _ (s12 _ _ f1) pd.1,gg1,nl (s12 _ _ f2),M4 tt2,gg3,nl (s12 _ _ f3),M4 tt3⟩,_,ed,((kv'.mv λb xs e=>s12 _ _ e).put twD).mv λb xs e=>h3 _ _ e (W3 kp2 e).2⟩
  have fH:∀b o,H b=some o->b≠p->b≠d->H3 b=some o:=λb o e n1 n2=>h3 _ _ (s12 _ _ (fr _ _ e n1 n2)) n2;have pH3:=h3 _ _ (s12 _ _ f1) pd.1;have newF:∀b,S3 H3 b->S3 H b:=λb z=>B34 pH3 ed fH z;have noF:∀b,H3 b=none->H b=none:=λb z=>B0t pH3 ed fH z;subst hW;refine⟨_,rfl,p,dx1,_,rfl,pH3,S4 KK,F,p,d,Q1 k' (.turn x c),[],[],rfl,λb hb=>hF _ (noF b hb),kp3,.nil,⟨rfl,A9b ok dok,hll⟩,λr v k2 H4 po kp4 tv fr4 ap=>?_⟩;exact told r v k2 H4 ⟨_,⟨x,c,rfl⟩,rfl,po⟩ kp4 (tv.mv λb o z e=>⟨newF b z,e⟩) (λb o e n1 n2=>fr4 _ _ (fH _ _ e n1 n2) n1 n2) ap
theorem E0a:FM P w mg base 11 T.cK (A08 T.ac (B0r A4u) (B0s A4u)):=by
 refine T.cK.F.ok D5w (λJ H J J h=>?_) (λJ J J J H J Q J hr h=>?_)
 ·let⟨F,p,d,k,us,ds,rfl,_,_,tus,⟨dd,⟨x,rfl⟩,rfl,_⟩,_⟩:=h;rw[J6,tus.len];rfl
 ·let⟨F,p,d,k,us,ds,rfl,hF,kp,tus,⟨dd,⟨x,rfl⟩,rfl,ok,hll,dok⟩,told⟩:=h;let⟨⟨x0,x1⟩,htab⟩:=id dok;let⟨v1,rfl,t1⟩:=A67 tus;cases t1;have m2:=ok.m2;have kp0:=kp;let⟨⟨dx,g,l,ug,ul,e1,g1,e2,t2,g3,e3,t3⟩,kvs,e4,kv⟩:=kp;have pd:=A4q kp0;refine⟨_,(C0 (N9 (M5 (PW.pt (A3p (U8 (W6 (pcF T.bf (C6h T) hr (A3 (pv 1) A4 A0)))) (A3o (U8 (W6 (pcF T.au (B31 T) hr (A3 (Q9 (pv 0) rfl) (A3 (pv 1) (A3 (Q9 (pv 0) rfl) A4 P2) A0) P2)))))))
   (C9 Y5)
   M9))
   (C0 (A10 (pv 0) (pv 1) rfl)
   (C9 (G0 (pmG (pv 0) T.ae T.aG (B0q T) hr))))),?_⟩
  ac_nf
  refine A26 λW hW=>?_;refine⟨fun σ' H'=>σ'=[some (.ref p),some (.int x)]/\Same H H',?_,?_⟩
  ·refine⟨_,rfl,Z1 (E:=E0) (λd=>d=.bool true) (.cons (.int _) .nil) ⟨x,rfl,x0,x1,rfl⟩ λd' v1 H1 hd t1 s1=>?_⟩;subst hd;cases t1;refine⟨_,rfl,G5 ⟨_,rfl,p,_,dx,_,_,rfl,s1 _ _ e1,T.ae,T.dR,B3y,_,rfl,_,rfl,p,_,dx,_,_,rfl,s1 _ _ e1,T.ae,T.dL,C6b,Z1 (E:=E0) (λd=>d=.bool true) (.cons (.int _) (.cons (.int _) (.cons (.lst trivial (s1 _ _ e2) (M4 t2)) .nil))) ⟨k.g,k.m,x,rfl,OO,htab,rfl⟩ λd' v1 H2 hd t1 s2=>?_⟩⟩;subst hd;cases t1;exact⟨_,rfl,G5 ⟨rfl,s1.tr s2⟩⟩
  rintro σ' H1 ⟨rfl,s1⟩;refine N6 W hW λW hW=>?_;refine⟨_,rfl,_,rfl,p,_,dx,_,rfl,s1 _ _ e1,T.ae,T.dh,by show 5<1000;decide,?_⟩;rw[D9j];obtain⟨H3,hH3⟩:∃H3,H3=upd H1 p (.ins T.ac dx (kfs k.m x g d l)):=⟨_,rfl⟩;rw[<-hH3];have h3:∀b o,H1 b=some o->b≠p->H3 b=some o:=λb o e n=>by rw[hH3,C4 n];exact e
  have pH3:H3 p=some (.ins T.ac dx (kfs k.m x g d l)):=by rw[hH3];exact B9
  have kp1:=kp0.same s1;have ed:=h3 _ _ (s1 _ _ e4) pd.1.symm;have kp3:J1 F T.ac H3 p d (Q1 k (.refill x)):=by
   have nl:∀{b:Addr}{xs:!V},H1 b=some (.lst xs)->H3 b=some (.lst xs):=λe=>h3 _ _ e (X3 kp1 e).1;exact⟨⟨dx,g,l,ug,ul,pH3,g1,nl (s1 _ _ e2),M4 t2,g3,nl (s1 _ _ e3),M4 t3⟩,_,ed,kv.mv λb xs e=>h3 _ _ (s1 _ _ e) (W3 kp1 (s1 _ _ e)).1⟩
  have fH:∀b o,H b=some o->b≠p->b≠d->H3 b=some o:=λb o e n1 n2=>h3 _ _ (s1 _ _ e) n1;have newF:∀b,S3 H3 b->S3 H b:=λb z=>B34 pH3 ed fH z;have noF:∀b,H3 b=none->H b=none:=λb z=>B0t pH3 ed fH z;subst hW;refine⟨_,rfl,p,dx,_,rfl,pH3,S4 KK,F,p,d,Q1 k (.refill x),[],[],rfl,λb hb=>hF _ (noF b hb),kp3,.nil,⟨rfl,A9b ok dok,hll⟩,λr v k2 H4 po kp4 tv fr4 ap=>?_⟩;exact told r v k2 H4 ⟨_,⟨x,rfl⟩,rfl,po⟩ kp4 (tv.mv λb o z e=>⟨newF b z,e⟩) (λb o e n1 n2=>fr4 _ _ (fH _ _ e n1 n2) n1 n2) ap
theorem E0b:FM P w mg base 11 T.dU (A08 T.ac (B0r A4v) (B0s A4v)):=by
 refine T.dU.F.ok D5x (λJ H J J h=>?_) (λJ J J J H J Q J hr h=>?_)
 ·let⟨F,p,d,k,us,ds,rfl,_,_,tus,⟨dd,⟨x,rfl⟩,rfl,_⟩,_⟩:=h;rw[J6,tus.len];rfl
 ·let⟨F,p,d,k,us,ds,rfl,hF,kp,tus,⟨dd,⟨x,rfl⟩,rfl,ok,hll,dok⟩,told⟩:=h;have htab:F3 k.m k.st x:=dok;let⟨v1,rfl,t1⟩:=A67 tus;let⟨ag,uag,rfl,_,eag,tag⟩:=P7 t1;have m2:=ok.m2;have kp0:=kp;let⟨⟨dx,g,l,ug,ul,e1,g1,e2,t2,g3,e3,t3⟩,kvs,e4,kv⟩:=kp;have pd:=A4q kp0;refine⟨_,(C0 (N9 (M5 (U8 (W6 (pcF T.au (B31 T) hr (A3 (Q9 (pv 0) rfl) (A3 (Q9 (pv 0) rfl) (A3 (pv 1) A4 A0) P2) P2))))
   (C9 Y5)
   M9))
   (C0 (A10 (pv 0) (M6 A3v rfl T.cz A1h (A3 (pv 1) A4 A0)) rfl)
   (C9 (G0 (pmG (pv 0) T.ae T.aG (B0q T) hr))))),?_⟩
  ac_nf
  refine A26 λW hW=>?_;refine⟨fun σ' H'=>σ'=[some (.ref p),some (.ref ag)]/\Same H H',?_,?_⟩
  ·refine⟨_,rfl,p,_,dx,_,_,rfl,e1,T.ae,T.dR,B3y,_,rfl,p,_,dx,_,_,rfl,e1,T.ae,T.dh,B3z,_,rfl,Z1 (E:=E0) (λd=>d=.bool true) (.cons (.int _) (.cons (.int _) (.cons (.lst trivial eag tag) .nil))) ⟨x,k.m,k.st,rfl,OO,htab,rfl⟩ λd' v1 H2 hd t1 s2=>?_⟩;subst hd;cases t1;exact⟨_,rfl,G5 ⟨rfl,s2⟩⟩
  rintro σ' H1 ⟨rfl,s1⟩;refine N6 W hW λW hW=>?_;refine⟨_,rfl,ag,uag,rfl,.inl (SqL.of (s1 _ _ eag)),λln hln=>?_⟩;obtain⟨H2,hH2⟩:∃H2,H2=upd H1 ln (.lst uag):=⟨_,rfl⟩;rw[<-hH2];have s2:Same H H2:=s1.tr (by rw[hH2];exact Same.upd hln);have eln:H2 ln=some (.lst uag):=by rw[hH2];exact B9
  clear hH2;refine⟨_,rfl,p,_,dx,_,rfl,s2 _ _ e1,T.ae,T.dL,by show 5<1000;decide,?_⟩;rw[D9k];obtain⟨H3,hH3⟩:∃H3,H3=upd H2 p (.ins T.ac dx (kfs k.m k.st ln d l)):=⟨_,rfl⟩;rw[<-hH3];have h3:∀b o,H2 b=some o->b≠p->H3 b=some o:=λb o e n=>by rw[hH3,C4 n];exact e
  have pH3:H3 p=some (.ins T.ac dx (kfs k.m k.st ln d l)):=by rw[hH3];exact B9
  have kp2:=kp0.same s2;have ed:=h3 _ _ (s2 _ _ e4) pd.1.symm;have kp3:J1 F T.ac H3 p d (Q1 k (.aim x)):=by
   have nl:∀{b:Addr}{xs:!V},H2 b=some (.lst xs)->H3 b=some (.lst xs):=λe=>h3 _ _ e (X3 kp2 e).1;exact⟨⟨dx,ln,l,uag,ul,pH3,hF _ (s1.early hln),nl eln,M4 tag,g3,nl (s2 _ _ e3),M4 t3⟩,_,ed,kv.mv λb xs e=>h3 _ _ (s2 _ _ e) (W3 kp2 (s2 _ _ e)).1⟩
  have fH:∀b o,H b=some o->b≠p->b≠d->H3 b=some o:=λb o e n1 n2=>h3 _ _ (s2 _ _ e) n1;have newF:∀b,S3 H3 b->S3 H b:=λb z=>B34 pH3 ed fH z;have noF:∀b,H3 b=none->H b=none:=λb z=>B0t pH3 ed fH z;subst hW;refine⟨_,rfl,p,dx,_,rfl,pH3,S4 KK,F,p,d,Q1 k (.aim x),[],[],rfl,λb hb=>hF _ (noF b hb),kp3,.nil,⟨rfl,A9b ok dok,hll⟩,λr v k2 H4 po kp4 tv fr4 ap=>?_⟩;exact told r v k2 H4 ⟨_,⟨x,rfl⟩,rfl,po⟩ kp4 (tv.mv λb o z e=>⟨newF b z,e⟩) (λb o e n1 n2=>fr4 _ _ (fH _ _ e n1 n2) n1 n2) ap
def E0c (C:Addr):Sp:=λvs H Q J=>∃(p dx:Addr)(m:Nat)(st:Int)(g:Tb)(vg:V),vs=[.ref p,.int ((m:Nat):Int),.int st,vg]/\H p=some (.ins C dx [])/\ThV TT0 H vg (.list (E2 g))/\KOk m st g []/\
 ∀d low H',b9 m st g [] low->H d=none->J1 (λb=>H b=none) C H' p d ⟨m,st,g,[],low⟩->(∀b o,H b=some o->b≠p->H' b=some o)->Q .non H'
def kf1 (m:Nat):!(Str×V):=[("many",.int ((m:Nat):Int))]
def kf2 (m:Nat)(st:Int):!(Str×V):=[("many",.int ((m:Nat):Int)),("full",.int st)]
def kf3 (m:Nat)(st:Int)(g:Addr):!(Str×V):=[("many",.int ((m:Nat):Int)),("full",.int st),("wanted",.ref g)]
def kf4 (m:Nat)(st:Int)(g d:Addr):!(Str×V):=[("many",.int ((m:Nat):Int)),("full",.int st),("wanted",.ref g),("laid",.ref d)]
theorem E0d {m:Nat}:T4 "many" (.int ((m:Nat):Int)) []=kf1 m:=rfl
theorem E0e {m:Nat}{st:Int}:T4 "full" (.int st) (kf1 m)=kf2 m st:=by with_unfolding_all rfl
theorem E0f {m:Nat}{st:Int}{g:Addr}:T4 "wanted" (.ref g) (kf2 m st)=kf3 m st g:=by with_unfolding_all rfl
theorem E0g {m:Nat}{st:Int}{g d:Addr}:T4 "laid" (.ref d) (kf3 m st g)=kf4 m st g d:=by with_unfolding_all rfl
theorem E0h {m:Nat}{st:Int}{g d l:Addr}:T4 "lowest" (.ref l) (kf4 m st g d)=kfs m st g d l:=by with_unfolding_all rfl
theorem E0i:wsF []=[]:=by unfold wsF srt F4;rw[B4g,List.mergeSort_nil];rfl
theorem E0j:FM P w mg base 10 T.dj (E0c T.ac):=by
 have gJ:=@C59 P w K mg base T;have gK:=T.cB.b;refine T.dj.F.ok D5t (λJ H J J h=>?_) (λJ J J J H J Q J hr h=>?_)
 ·let⟨p,dx,m,st,g,vg,rfl,_⟩:=h;rfl
 ·let⟨p,dx,m,st,g,vg,rfl,ep,tg,ok,told⟩:=h;let⟨ag,ug,rfl,_,eg,tug⟩:=P7 tg;have m2:=ok.m2;have s1k:=ok.s1;refine⟨_,(C0 (A10 (pv 0) (pv 1) rfl)
   (C0 (A10 (pv 0) (pv 2) rfl)
   (C0 (A10 (pv 0) (M6 A3v rfl T.cz A1h (A3 (pv 3) A4 A0)) rfl)
   (C0 (A10 (pv 0) D4a rfl)
   (C9 (A10 (pv 0) (B3 gJ (hr.mono DD) rfl (T.dA.trans T.cB.m) T.cB.F.kp gK .nil A7 (A3 (w5 (A3 (pv 1) (A3 (T0 A4) A4 B5g) A0)) (A3 (pv 2) (A3 (pv 3) A4 A0) A0) g4)) rfl)))))),?_⟩
  ac_nf
  refine A26 λW hW=>?_;refine⟨_,rfl,_,rfl,p,_,dx,_,rfl,ep,T.ae,T.dR,by show 0<1000;decide,?_⟩;rw[E0d];obtain⟨H1,hH1⟩:∃H1,H1=upd H p (.ins T.ac dx (kf1 m)):=⟨_,rfl⟩;rw[<-hH1];have p1:H1 p=some (.ins T.ac dx (kf1 m)):=by rw[hH1];exact B9
  have f1:∀b o,H b=some o->b≠p->H1 b=some o:=λb o e n=>by rw[hH1,C4 n];exact e
  clear hH1;refine N6 W hW λW hW=>?_;refine⟨_,rfl,_,rfl,p,_,dx,_,rfl,p1,T.ae,T.dh,by show 1<1000;decide,?_⟩;rw[E0e];obtain⟨H2,hH2⟩:∃H2,H2=upd H1 p (.ins T.ac dx (kf2 m st)):=⟨_,rfl⟩;rw[<-hH2];have p2:H2 p=some (.ins T.ac dx (kf2 m st)):=by rw[hH2];exact B9
  have f2:∀b o,H b=some o->b≠p->H2 b=some o:=λb o e n=>by rw[hH2,C4 n];exact f1 _ _ e n
  clear hH2;have npg:ag≠p:=λz=>by rw[z,ep] at eg;cases eg
  refine N6 W hW λW hW=>?_;refine⟨_,rfl,ag,ug,rfl,.inl (SqL.of (f2 _ _ eg npg)),λl2 hl2=>?_⟩;have n2:l2≠p:=λz=>by rw[z,p2] at hl2;cases hl2
  refine⟨_,rfl,p,_,dx,_,rfl,by rw[C4 n2.symm];exact p2,T.ae,T.dL,by show 2<1000;decide,?_⟩;rw[E0f];obtain⟨H3,hH3⟩:∃H3,H3=upd (upd H2 l2 (.lst ug)) p (.ins T.ac dx (kf3 m st l2)):=⟨_,rfl⟩;rw[<-hH3];have p3:H3 p=some (.ins T.ac dx (kf3 m st l2)):=by rw[hH3];exact B9
  have g3:H3 l2=some (.lst ug):=by rw[hH3,C4 n2];exact B9
  have f3:∀b o,H b=some o->b≠p->H3 b=some o:=λb o e n=>by rw[hH3,C4 n];exact Same.upd hl2 _ _ (f2 _ _ e n)
  have l2n:H l2=none:=by
   cases z:H l2 with
   | none=>rfl
   | some o=>rw[f2 _ _ z n2] at hl2;cases hl2
  clear hH3;refine N6 W hW λW hW=>?_;intro d hd;have nd:d≠p:=λz=>by rw[z,p3] at hd;cases hd
  refine⟨_,rfl,p,_,dx,_,rfl,by rw[C4 nd.symm];exact p3,T.ae,T.bK,by show 3<1000;decide,?_⟩;rw[E0g];obtain⟨H4,hH4⟩:∃H4,H4=upd (upd H3 d (.dK [])) p (.ins T.ac dx (kf4 m st l2 d)):=⟨_,rfl⟩;rw[<-hH4];have p4:H4 p=some (.ins T.ac dx (kf4 m st l2 d)):=by rw[hH4];exact B9
  have d4:H4 d=some (.dK []):=by rw[hH4,C4 nd];exact B9
  have f34:∀b o,H3 b=some o->b≠p->H4 b=some o:=λb o e n=>by rw[hH4,C4 n];exact Same.upd hd _ _ e
  have f4:∀b o,H b=some o->b≠p->H4 b=some o:=λb o e n=>f34 _ _ (f3 _ _ e n) n;have dn:H d=none:=by
   cases z:H d with
   | none=>rfl
   | some o=>rw[f3 _ _ z nd] at hd;cases hd
  clear hH4;subst hW;refine⟨_,rfl,SZ (n:=0),λl5 hl5=>⟨SZ (n:=2),λt6 ht6=>?_⟩⟩;have s5:Same H4 (upd H4 l5 (.lst [])):=Same.upd hl5;have s6:=s5.tr (Same.upd (o:=.tup [.int ((m:Nat):Int),.ref l5]) ht6);obtain⟨H6,hH6⟩:∃H6,H6=upd (upd H4 l5 (.lst [])) t6 (.tup [.int ((m:Nat):Int),.ref l5]):=⟨_,rfl⟩;rw[<-hH6] at s6 ⊢;have tl:ThV TT0 H6 (.ref t6) (K2 m (wsF [])):=by
   have e5:H6 l5=some (.lst []):=by rw[hH6];exact Same.upd ht6 _ _ B9
   rw[E0i];exact .tup trivial (by rw[hH6];exact B9) (.cons (.int _) (.cons (.lst trivial e5 .nil) .nil))
  clear hH6;refine⟨_,rfl,_,rfl,[K2 m (wsF []),.int st,.list (E2 g)],(λd=>∃t,S1 m ((wsF []).map A1l) st (lkF st g) t/\d=.list (E2 (lkF st t))),.cons tl (.cons (.int _) (.cons (.lst trivial (s6 _ _ (f4 _ _ eg npg)) (M4 tug)) .nil)),⟨m,wsF [],st,g,rfl,ok.land,ok.s0,OO,ok.gt,λt ht=>⟨t,ht,rfl⟩⟩,λd' v7 H7 hd' t7 s7=>?_⟩;let⟨t,ht,rfl⟩:=hd';let⟨ln,un,rfl,gn,en,tn⟩:=P7 t7;have lnn:H6 ln=none:=B0l s7 gn en;have s67:=s6.tr s7;refine⟨_,rfl,p,_,dx,_,rfl,s67 _ _ p4,T.ae,T.cD,by show 4<1000;decide,?_⟩;rw[E0h];have nln:ln≠p:=λz=>by rw[z,s6 _ _ p4] at lnn;cases lnn
  have hln:H ln=none:=by
   cases z:H ln with
   | none=>rfl
   | some o=>rw[s6 _ _ (f4 _ _ z nln)] at lnn;cases lnn
  have f8:∀b o,H7 b=some o->b≠p->upd H7 p (.ins T.ac dx (kfs m st l2 d ln)) b=some o:=λb o e n=>by rw[C4 n];exact e
  exact told d (lkF st t) _ ⟨t,ht,rfl⟩ dn ⟨⟨dx,l2,ln,ug,un,B9,l2n,f8 _ _ (s67 _ _ (f34 _ _ g3 n2)) n2,M4 tug,hln,f8 _ _ en nln,M4 tn⟩,[],f8 _ _ (s67 _ _ d4) nd,.nil⟩ λb o e n=>f8 _ _ (s67 _ _ (f4 _ _ e n)) n
def E0k:DSp:=λds Q=>∃d,ds=[d]/\∀r:Int,1<=r->r<=∅->Q (.int r)
def E0l:DSp:=λds Q=>∃(d:PyData)(sc:Int),ds=[d,.int sc]/\0<=sc/\sc<=∅/\∀r:Int,-sc<=r->r<=sc->Q (.int r)
def E0m:DSp:=λds Q=>∃(d:PyData)(sc:Int),ds=[d,.int sc]/\0<=sc/\sc<=∅/\∀r:Int,0<=r->r<=100000000000000000000->Q (.int r)
def E0n:DSp:=λds Q=>∃(d:PyData)(pl wn:Nat)(sc:Int),ds=[d,.int (pl:Nat),.int (wn:Nat),.int sc]/\1<=pl/\pl<=12/\wn<=40/\1<=sc/\sc<=∅/\∀m ws,J2 m ws->Q (K2 m ws)
def E0o:DSp:=λds Q=>∃(d:PyData)(m:Nat)(st:Int),ds=[d,.int (m:Nat),.int st]/\m<=12/\0<=st/\st<=1000000000000000000000/\∀t,F3 m st t->Q (.list (E2 t))
def ODs (st:Int)(d:PyData):Prop:=∃o:Option Int,d=oD o/\∀x,o=some x->0<=x/\x<=st
theorem C6n {st:Int}:∀{ds:!PyData},(∀d∈ds,ODs st d)->∃t:Tb,ds=E2 t/\F3 ds.length st t
 | [],_=>⟨[],rfl,rfl,λp x e=>by rw[B56 (Q7 _)] at e;cases e⟩
 | d::ds,h=>by
  let⟨t,rfl,ht⟩:=C6n (ds:=ds) λe he=>h e (E3 _ he);let⟨o,rfl,ho⟩:=h d E5;refine⟨o::t,rfl,⟨by rw[J6,J6,A0q],λp x e=>?_⟩⟩;cases p with
  | zero=>exact ho x e
  | succ p=>exact ht.bd p x e
theorem lt2 {r:Int}(h0:0<=r)(h1:r<2):r=0\/r=1:=by omega
theorem E0p:FK P w base 4 T.dv (spD [.hd] E0k):=by
 refine K4 T.dv.F D6q rfl (λC cdv A outer s H E hr=>⟨_,(@E9 _ _ _ _ (@G7 _ _ _ _ _ (@T1 _ _ _ _ _ _ _ (M7 (Y7 (E4 F0 (E4 F0 (E4 F0 (E4 F0 (E4 (L5 V7 A11 F0 F0) (E4 (L5 V7 A11 F0 F0) J5 G6) G6) F2) F2) F2) F2))) (F8 (pcF T.af (A2a T) hr (V1 (pv 0) (B8 F0 F7 F2) A0))) (λJ J=>rfl)))),λds Q hl h=>?_⟩);let⟨d,rfl,q⟩:=h;left;refine⟨⟨DD,DD,DD⟩,⟨DD,DD,DD⟩,DD,rfl,6,rfl,DD,DD,λr r0 r1=>?_⟩;left;have hr':r=0\/r=1\/r=2\/r=3\/r=4\/r=5:=by omega
 rcases hr' with rfl | rfl | rfl | rfl | rfl | rfl
 all_goals exact q _ DD (DD)
theorem C6o:FK P w base 4 T.ci (spD [.hd,.sh] E0l):=by
 refine K4 T.ci.F D6r rfl (λC cdv A outer s H E hr=>⟨_,(E9 (G7 (L5 A5b B2c (F8 (pcF T.af (A2a T) hr (V1 (pv 0) (B8 (L5 Q4 Y0 (L5 A1z B2d F0 (A6 (pv 1))) F0) F7 G6) A0))) (A6 (pv 1))))),λds Q hl h=>?_⟩);let⟨d,sc,rfl,s0,s1,q⟩:=h;left;refine⟨rfl,.inl ⟨DD,DD⟩,2*sc+1,rfl,OO,OO,λr r0 r1=>?_⟩;left;exact q _ OO (OO)
theorem E0q:FK P w base 4 T.dw (spD [.hd,.sh] E0m):=by
 refine K4 T.dw.F C5b rfl (λC cdv A outer s H E hr=>⟨_,(@J8 _ _ _ _ _ _ (K0 (pS (i:=2) C5b.nd (F8 (pcF T.af (A2a T) hr (V1 (pv 0) (B8 F0 F7 F2) A0))))) (@J8 _ _ _ _ _ _ (V9 (P6 (A9w (b6 hr)) A2v (A6 (pv 2)) F0 (F6 _))
   (E9 (G7 (F8 (pcF T.af (A2a T) hr (V1 (pv 0) (B8 F0 F7 F2) A0)))))
   X2) (@J8 _ _ _ _ _ _ (@V9 _ _ _ _ _ _ _ _ _ (P6 (A9w (b6 hr)) A2v (A6 (pv 2)) F0 (F6 _)) (E9 (G7 (T1 (M7 (Y7 (E4 (L5 V7 A11 F0 F0) (E4 (L5 V7 A11 F0 F0) J5 G6) G6))) (F8 (pcF T.af (A2a T) hr (V1 (pv 0) (B8 F0 F7 F2) A0)))))) X2) (@E9 _ _ _ _ (@G7 _ _ _ _ _ (@n8 _ _ _ _ _ _ B2f (@K5 _ _ _ _ _ _ _ _ _ (A5e rfl) rfl T.eM A5l (E4 (L5 V7 A11 F0 F0) (E4 (F8 (pcF T.af (A2a T) hr (V1 (pv 0) (B8 (L5 Q4 Y0 (L5 A1z B2d F0 (A6 (pv 1))) F0) F7 G6) A0))) J5 C6) G6) DD DD G6 ((A9 C6 A5))))))))),λds Q hl h=>?_⟩)
 let⟨d,sc,rfl,s0,s1,q⟩:=h;left;refine⟨rfl,6,rfl,DD,DD,λr r0 r1=>?_⟩;left;exists rfl,rfl,A4l _ _;rw[A4m];by_cases c0:r=0
 ·rw[c0,show ((0:Int) == 0)=true from rfl];left;refine⟨rfl,4,rfl,DD,DD,λr r0 r1=>?_⟩;exact q _ r0 (OO)
 ·rw[beq_eq_false_iff_ne.mpr c0];left;exists rfl,rfl,A4l _ _;rw[A4m];by_cases c1:r=1
  ·rw[c1,show ((1:Int) == 1)=true from rfl];left;refine⟨⟨DD,DD,DD⟩,⟨DD,DD,DD⟩,DD,rfl,2,rfl,DD,DD,λr r0 r1=>?_⟩;left;rcases lt2 r0 r1 with rfl | rfl
   all_goals exact q _ DD (DD)
  ·rw[beq_eq_false_iff_ne.mpr c1];left;refine⟨⟨DD,DD,DD⟩,rfl,.inl ⟨DD,DD⟩,4*sc+1,rfl,OO,OO,λr r0 r1=>?_⟩;left;refine q _ ?_ ?_
   ·split
    ·exact r0
    ·decide
   ·split
    ·omega
    ·decide
def WyB (m:Nat)(w:Wy):Prop:=w.1<m/\w.2.1<m/\-∅<=w.2.2/\w.2.2<=∅
theorem A9c {r:Int}{m:Nat}(h0:0<=r)(h1:r<((m:Nat):Int)):∃n:Nat,r=((n:Nat):Int)/\n<m:=⟨r.toNat,OO,OO⟩
theorem E0r:FK P w base 5 T.dY (spD [.hd,.sh,.sh,.sh] E0n):=by
 have gk:=@C6o P w K mg base T;have gm:=T.ci.b;refine K4 T.dY.F A61 rfl (λC cdv A outer s H E hr=>⟨_,(@L9 _ _ _ _ _ _ (K0 (pS (i:=4) A61.nd (L5 Q4 Y0 F0 (F8 (pcF T.af (A2a T) hr (V1 (pv 0) (B8 (A6 (pv 1)) F7 A0) A0)))))) (@L9 _ _ _ _ _ _ (A2z (pS (i:=5) A61.nd (Y7 J5))) (@L9 _ _ _ _ _ _ (@A6q _ _ _ _ _ _ (@X6 _ _ _ _ _ _ _ _ T3 rfl (B2n (A2m rfl T.cj (E4 (F8 (pcF T.af (A2a T) hr (V1 (pv 0) (B8 (L5 Q4 Y0 (A6 (pv 2)) F0) F7 G6) A0))) J5 C6))) (A94 (N8 (i:=6) A61.nd)) (@L9 _ _ _ _ _ _ (K0 (pS (i:=7) A61.nd (F8 (pcF T.af (A2a T) hr (V1 (pv 0) (B8 (A6 (pv 4)) F7 A0) A0))))) (@L9 _ _ _ _ _ _ (K0 (pS (i:=8) A61.nd (F8 (pcF T.af (A2a T) hr (V1 (pv 0) (B8 (A6 (pv 4)) F7 A0) A0))))) (@L9 _ _ _ _ _ _ (@A92 _ _ _ _ (@V9 _ _ _ _ _ _ _ _ _ (P6 (A9w (b6 hr)) A2v (F8 (pcF T.af (A2a T) hr (V1 (pv 0) (B8 F0 F7 F2) A0))) F0 (F6 _)) (E9 (K0 (pS (i:=8) A61.nd (L5 A2n D1z (L5 Q4 Y0 (A6 (pv 7)) F0) (A6 (pv 4)))))) X2)) (@E9 _ _ _ _ (@A79 _ _ _ _ _ _ (@N7 _ _ _ _ (@L8 _ _ _ _ _ _ _ _ _ _ _ _ S9 U5 U6 T6 (pv 5) (@A3 _ _ _ _ _ (@Y6 _ _ _ _ _ _ (@E4 _ _ _ _ _ _ (A6 (pv 7)) (@E4 _ _ _ _ _ _ (A6 (pv 8)) (@E4 _ _ _ _ _ _ (@F8 _ _ _ _ _ _ _ (@B3 _ _ _ _ _ _ _ _ _ _ _ _ _ _ _ _ gk (hr.mono DD) rfl T.ci.m T.ci.F.kp gm .nil A7 (V1 (pv 0) (B8 (T1 (M7 (Y7 (E4 (A6 (pv 3)) (E4 (A6 (pv 3)) (E4 F0 J5 F2) A0) A0))) (F8 (pcF T.af (A2a T) hr (V1 (pv 0) (B8 F0 F7 F2) A0)))) F7 B0) A0) DD A0 ((A9 B0 A5)))) J5 C6) A0) A0)) A4 g4) (by rfl) (by rfl) (by rfl) (by rfl) (by rfl)) (by rfl))))))) (by intro _;rfl))) (E9 (G7 (Y6 (E4 (A6 (pv 4)) (E4 (A6 (pv 5)) J5 A0) A0))))))),λds Q hl h=>?_⟩);let⟨d,pl,wn,sc,rfl,p1,p2,w2,s0,s1,q⟩:=h;left;refine⟨rfl,_,rfl,OO,OO,λr r0 r1=>?_⟩;left;obtain⟨m,hm,m1⟩:∃m:Nat,1+r=((m:Nat):Int)/\1<=m/\m<=12:=⟨(1+r).toNat,OO,OO,OO⟩;rw[hm];refine go ?_;left;exists DD;refine go ?_;array_mem_dec;refine⟨rfl,_,rfl,OO,OO,λc c0 c1=>?_⟩
 array_mem_dec
 refine⟨⟨OO,OO⟩,λr ρ=>∃(ws:!Wy)(z6 z7 z8:Sl),ρ=[Sl.hd,Sl.sh (.int (pl:Nat)),Sl.sh (.int (wn:Nat)),Sl.sh (.int sc),Sl.sh (.int (m:Nat)),Sl.ow (ws.map N5),z6,z7,z8]/\r.length+ws.length<=40/\∀w∈ws,WyB m w,⟨[],_,_,_,rfl,by unfold g7;simp;omega,λw hw=>nomatch hw⟩,?_,?_⟩
 ·rintro x r ρ ⟨ws,z6,z7,z8,rfl,hl2,hw⟩
  sizeOf_list_dec
  refine⟨rfl,_,rfl,OO,OO,λa a0 a1=>?_⟩;refine go ?_;left;refine⟨rfl,_,rfl,OO,OO,λb b0 b1=>?_⟩;refine go ?_;unfold A02;let⟨a',rfl,ha⟩:=A9c a0 a1;let⟨b',rfl,hb⟩:=A9c b0 b1;refine⟨fun ρ=>∃e:Nat,e<m/\ρ=[Sl.hd,Sl.sh (.int (pl:Nat)),Sl.sh (.int (wn:Nat)),Sl.sh (.int sc),Sl.sh (.int (m:Nat)),Sl.ow (ws.map N5),Sl.sh x,Sl.sh (.int (a':Nat)),Sl.sh (.int (e:Nat))],?_,?_⟩
  ·left;refine⟨rfl,_,rfl,DD,DD,λu u0 u1=>?_⟩;left;exists rfl,rfl,A4l _ _;rw[A4m];cases (u == 0) with
   | true=>left;exists OO;let⟨e,he,hem⟩:=A9c (r:=(((a':Nat):Int)+1)%((m:Nat):Int)) (m:=m) (B4p _ OO) (C0z _ OO);rw[he];exact⟨e,hem,rfl⟩
   | false=>left;exact⟨b',hb,rfl⟩
  ·rintro ρ ⟨e,he,rfl⟩;refine go ?_;left;refine⟨rfl,by show 3<=1000;decide,rfl,_,rfl,DD,DD,λu u0 u1=>?_⟩;left;obtain⟨sc',hsc,hs0,hs1⟩:∃sc':Int,atI [PyData.int sc,.int sc,.int 1] u=some (.int sc')/\0<=sc'/\sc'<=∅:=by
    have hu:u=0\/u=1\/u=2:=by omega
    rcases hu with rfl | rfl | rfl
    ·exact⟨sc,rfl,OO,s1⟩
    ·exact⟨sc,rfl,OO,s1⟩
    ·exact⟨1,rfl,DD,DD⟩
   rw[hsc];left;refine⟨_,sc',rfl,hs0,hs1,λv v0 v1=>?_⟩;left;refine⟨DD,by rw[B7];simp at hl2;omega,ws++[(a',e,v)],_,_,_,by rw[L7];rfl,by simp at hl2 ⊢;omega,λw hw'=>?_⟩;rcases p7.mp hw' with z | z
   ·exact hw w z
   ·have:w=(a',e,v):=by simpa using z
    subst this;exact⟨ha,he,show -∅<=v by omega,show v<=∅ by omega⟩
 ·rintro ρ ⟨ws,z6,z7,z8,rfl,hl2,hw⟩;refine go ?_;left;exists DD;exact q m ws ⟨m1.1,m1.2,by simp at hl2;omega,λw h=>(hw w h).1,λw h=>(hw w h).2.1,λw h=>(hw w h).2.2.1,λw h=>(hw w h).2.2.2⟩
theorem C6p:FK P w base 4 T.cC (spD [.hd,.sh,.sh] E0o):=by
 refine K4 T.cC.F C5c rfl (λC cdv A outer s H E hr=>⟨_,(@J8 _ _ _ _ _ _ (K0 (C7 (i:=3) C5c.nd rfl (Or.inr rfl) (L5 Q4 Y0 F0 (L5 A1z B2d F0 (F8 (pcF T.af (A2a T) hr (V1 (pv 0) (B8 F0 F7 F2) A0))))))) (@E9 _ _ _ _ (@G7 _ _ _ _ _ (@M7 _ _ _ _ (@A20 _ _ _ _ _ _ _ _ rfl (@W9 _ _ _ _ _ _ _ _ _ _ _ _ _ _ _ (N1.new (N:=["_law_hand_here","_law_many","_law_store_here","_law_rare"]) (osc:=B5 B3g) KK) rfl (B2n (A2m rfl T.cj (E4 (A6 (pv 1)) J5 A0))) (λJ=>A2y) (λJ=>(@T1 _ _ _ _ _ _ _ (M7 (Y7 (E4 (F8 (pcF T.af (A2a T) hr (V1 (pv 0) (B8 (L5 Q4 Y0 (A6 (pv 2)) F0) F7 G6) A0))) (E4 P4 J5 F2) C6))) (n8 D13 (M6 C1n rfl T.fS A9y (E4 (A1i A3r A76 (F8 (pcF T.af (A2a T) hr (V1 (pv 0) (B8 (A6 (pv 3)) F7 A0) A0))) F0 (F6 _)) J5 B17))) (λJ J=>rfl))) (by rfl) (by rfl) (by intro _;rfl))))))),λds Q hl h=>?_⟩);let⟨d,m,st,rfl,m2,s0,s1,q⟩:=h;left;refine⟨rfl,_,rfl,DD,DD,λr r0 r1=>?_⟩
 array_mem_dec
 refine⟨.inl ⟨DD,DD⟩,⟨OO,OO⟩,⟨rfl,by unfold g7;rw[B7,m5];omega⟩,?_⟩;refine C3k (R:=ODs st) (λx hx Q' q'=>?_) λds hl2 hR=>?_
 ·left;refine⟨rfl,_,rfl,OO,OO,λu u0 u1=>?_⟩;left;refine⟨DD,rfl,_,rfl,OO,OO,λv v0 v1=>?_⟩;left;cases decide (0<v) with
  | true=>exact q' _ ⟨none,rfl,λx e=>nomatch e⟩
  | false=>exact q' _ ⟨some u,rfl,λx e=>by cases e;exact⟨u0,OO⟩⟩
 ·let⟨t,e,ht⟩:=C6n hR;rw[T2,e];have hlen:ds.length=m:=by rw[hl2];unfold g7;rw[B7,m5];simp
  rw[hlen] at ht;exact q t ht
def A4w (c:Int):Int:=if c<0 then -c else c
structure A0c (ws:!Wy)(M:Int):Prop where
 m0:0<=M
 le:∀w∈ws,A4w w.2.2<=M
 is:M=0\/∃w∈ws,A4w w.2.2=M
theorem A0c.uniq {ws:!Wy}{M N:Int}(h:A0c ws M)(k:A0c ws N):M=N:=by
 have a:M<=N:=by
  rcases h.is with z | ⟨w,hw,z⟩
  ·rw[z];exact k.m0
  ·rw[<-z];exact k.le w hw
 have b:N<=M:=by
  rcases k.is with z | ⟨w,hw,z⟩
  ·rw[z];exact h.m0
  ·rw[<-z];exact h.le w hw
 omega
theorem A0c.hi {m:Nat}{ws:!Wy}{M:Int}(ok:J2 m ws)(h:A0c ws M):M<=∅:=by
 rcases h.is with z | ⟨w,hw,z⟩
 ·omega
 ·have:=ok.lo w hw;have:=ok.hi w hw;unfold A4w at z;split at z <;> omega
def mtI (m:Nat)(M:Int):Int:=(((m:Nat):Int)-1)*M
theorem A9d {m:Nat}{ws:!Wy}{M:Int}(ok:J2 m ws)(h:A0c ws M):0<=mtI m M/\mtI m M<=11000000000000000000:=by
 have h1:=ok.m1;have h2:=ok.m2;have h3:=h.hi ok;have h0:=h.m0;unfold mtI;exists Int.mul_nonneg OO h0;have:(((m:Nat):Int)-1)*M<=11*M:=Int.mul_le_mul_of_nonneg_right OO h0;omega
def A9e (m:Nat)(ws:!Wy)(S:Int)(b g:Sp2):Prop:=∃t,S1 m ws S (Z9 m b) t/\B0o m ws S (Z9 m b) t/\enF t g=true
def A4x (m:Nat)(ws:!Wy)(S:Int)(b g:Sp2):Prop:=∃t,S1 m ws S (Z9 m b) t/\B0o m ws S (Z9 m b) t/\enF t g=false
def E0s:DSp:=λds Q=>∃(m:Nat)(b:Sp2),ds=[.int (m:Nat),Q0 b]/\b.1<m/\m<=900/\Q (.list (E2 (Z9 m b)))
def E0t:DSp:=λds Q=>∃(t:Tb)(g:Sp2),ds=[.list (E2 t),Q0 g]/\g.1<t.length/\Q (.bool (enF t g))
def E0u:DSp:=λds Q=>∃(m:Nat)(ws:!Wy),ds=[K2 m ws]/\J2 m ws/\∀M,A0c ws M->Q (.int (mtI m M))
def E0v:DSp:=λds Q=>∃(m:Nat)(ws:!Wy)(st:Int)(b g:Sp2),ds=[K2 m ws,.int st,Q0 b,Q0 g]/\J2 m ws/\b.1<m/\g.1<m/\0<=b.2/\b.2<=st/\st<=1000000000000000000000/\∀t,S1 m ws st (Z9 m b) t->B0o m ws st (Z9 m b) t->Q (.bool (enF t g))
def E0w:DSp:=λds Q=>∃(m:Nat)(ws:!Wy)(b g:Sp2),ds=[K2 m ws,Q0 b,Q0 g]/\J2 m ws/\∀M,A0c ws M->Q (.int (mxI b.2 (g.2+mtI m M)))
def E0x:DSp:=λds Q=>∃(m:Nat)(ws:!Wy)(b g:Sp2),ds=[K2 m ws,Q0 b,Q0 g]/\J2 m ws/\b.1<m/\g.1<m/\0<=b.2/\b.2<=∅/\0<=g.2/\g.2<=∅/\
 ∀M,A0c ws M->(A4x m ws (mxI b.2 (g.2+mtI m M)) b g->Q .none)/\∀S,mxI b.2 g.2<=S->S<=mxI b.2 (g.2+mtI m M)->A9e m ws S b g->(S=mxI b.2 g.2\/A4x m ws (S-1) b g)->Q (.int S)
theorem C6q {m:Nat}{b:Sp2}{st:Int}(hb:b.1<m)(h0:0<=b.2)(h1:b.2<=st):F3 m st (Z9 m b):=⟨B2v,λp x e=>by
 unfold Z9 at e;rw[A4a (by rw[d9];exact hb),A18] at e;split at e
 ·cases e;exact⟨h0,h1⟩
 ·cases e⟩
theorem E0y {ws:!Wy}{M:Int}(h:B19 (ws.map λw=>A4w w.2.2) M):A0c ws M:=by
 let⟨h1,h2⟩:=h;let⟨w,hw,e⟩:=L0.mp h1;exact⟨by rw[<-e];unfold A4w;split <;> omega,λv hv=>h2 _ (L0.mpr ⟨v,hv,rfl⟩),.inr ⟨w,hw,e⟩⟩
theorem C6r:FK P w base 1 T.bI (spD [.sh,.sh] E0s):=by
 refine K4 T.bI.F C46 rfl (λC cdv A outer s H E hr=>⟨_,(@J8 _ _ _ _ _ _ (A2z (pS (i:=2) C46.nd (B2j (M7 (Y7 (E4 P4 J5 F2))) (A6 (pv 0))))) (J8 (A93 (m6 (E7 (pv 1) (E8 (cII T.g_LEVEL))) (A0y (pv 2) (E7 (pv 1) (E8 (cII T.g_PLACE))) w6)))
   (E9 (G7 (A6 (pv 2)))))),λds Q hl h=>?_⟩)
 let⟨m,b,rfl,hb,hm,q⟩:=h;right;exists DD,⟨OO,OO,DD⟩;rw[show ((m:Nat):Int).toNat=m by simp,C5t];right;rw[B0j (by rw[A0q,d9];exact hb)];right;rw[show PyData.int b.2=oD (some b.2) from rfl,B9l];exact q
theorem C6s:FK P w base 1 T.ax (spD [.sh,.sh] E0t):=by
 refine K4 T.ax.F C47 rfl (λC cdv A outer s H E hr=>⟨_,(@J8 _ _ _ _ _ _ (K0 (pS (i:=2) C47.nd (E7 (pv 0) (E7 (pv 1) (E8 (cII T.g_PLACE)))))) (E9 (G7 (A1j (A1i A5c A50 (A6 (pv 2)) P4 (F6 _)) (A0k (A1i B40 D10 (A6 (pv 2)) (E7 (pv 1) (E8 (cII T.g_LEVEL))) (F6 _))))))),λds Q hl h=>?_⟩);let⟨t,g,rfl,hg,q⟩:=h;unfold enF at q;right;rw[A83 hg];cases e:gt t g.1 with
 | none=>rw[e] at q;right;exact q
 | some l=>rw[e] at q;right;exact q
theorem C6t:FK P w base 1 T.aw (spD [.sh] E0u):=by
 refine K4 T.aw.F D5e rfl (λC cdv A outer s H E hr=>⟨_,(@E9 _ _ _ _ (@G7 _ _ _ _ _ (@L5 _ _ _ _ _ _ _ _ _ _ A1z B2d (L5 A5b B2c (E7 (pv 0) (E8 (cII T.g_MANY))) F0) (@n8 _ _ _ _ _ _ C30 (@C2v _ _ _ _ _ _ _ _ _ rfl rfl T.fm A7y (@E4 _ _ _ _ _ _ (@M7 _ _ _ _ (@A20 _ _ _ _ _ _ _ _ rfl (@W9 _ _ _ _ _ _ _ _ _ _ _ _ _ _ _ (N1.new (N:=["land"]) (osc:=B5 B20) KK) rfl (B5u (E7 (pv 0) (E8 (cII T.g_WAYS)))) (λJ=>A2y) (λJ=>(n8 D12 (K5 C1m rfl T.iV C2l (E4 (E7 (pv 1) (E8 (cII T.g_CHANGE))) J5 B0)))) (by rfl) (by rfl) (by intro _;rfl)))) J5 A0j) (by rfl)))))),λds Q hl h=>?_⟩);let⟨m,ws,rfl,ok,q⟩:=h;have few:=ok.few;have m1:=ok.m1;have m2:=ok.m2
 array_mem_dec
 refine⟨⟨rfl,by rw[B7];omega⟩,?_⟩;refine A21 (f:=λw=>PyData.int (A4w w.2.2)) (λw hw Q' q'=>?_) ?_
 ·right;exact q'
 rw[T2,show ws.map (λw=>PyData.int (A4w w.2.2))=(ws.map λw=>A4w w.2.2).map PyData.int by rw[Q8];rfl];right;rw[A8b];right;refine⟨λz=>?_,λM hM=>?_⟩
 ·have e:ws=[]:=A7n.mp z;exact⟨.inl ⟨OO,OO⟩,q 0 ⟨A0v _,λw hw=>(by rw[e] at hw;cases hw),.inl rfl⟩⟩
 ·exact⟨.inl ⟨OO,OO⟩,q M (E0y hM)⟩
theorem E0z:FK P w base 9 T.aB (spD [.sh,.sh,.sh,.sh] E0v):=by
 have cZ:=@C6s P w K mg base T;have de:=T.ax.b;have cI:=@D83 P w K mg base T;have cJ:=T.aq.b;refine K4 T.aB.F D5p rfl (λC cdv A outer s H E hr=>⟨_,(@E9 _ _ _ _ (@G7 _ _ _ _ _ (@F8 _ _ _ _ _ _ _ (@B3 _ _ _ _ _ _ _ _ _ _ _ _ _ _ _ _ cZ (hr.mono DD) rfl T.ax.m T.ax.F.kp de .nil A7 (@B8 _ _ _ _ _ _ (@F8 _ _ _ _ _ _ _ (@B3 _ _ _ _ _ _ _ _ _ _ _ _ _ _ _ _ cI (hr.mono DD) rfl (T.bp.trans T.aq.m) T.aq.F.kp cJ .nil A7 (B8 (A6 (pv 0)) (B8 (A6 (pv 1)) (B8 (F8 (pcF T.bI (C6r T) hr (B8 (E7 (pv 0) (E8 (cII T.g_MANY))) (B8 (A6 (pv 2)) F7 A0) B0))) F7 C6) A0) A0) DD A0 ((A9 A0 (A9 C6 A5))))) (B8 (A6 (pv 3)) F7 A0) C6) DD C6 ((A9 A0 A5)))))),λds Q hl h=>?_⟩);let⟨m,ws,st,b,g,rfl,ok,hb,hg,b0,b1,s1,q⟩:=h;have m2:=ok.m2;right;exists m,b,rfl,hb,OO;right;refine⟨m,ws,st,Z9 m b,rfl,ok,OO,s1,C6q hb b0 b1,λt ht hn=>?_⟩;right;exact⟨t,g,rfl,by rw[ht.tab.len];exact hg,q t ht hn⟩
theorem E00:FK P w base 2 T.ba (spD [.sh,.sh,.sh] E0w):=by
 refine K4 T.ba.F D5q rfl (λC cdv A outer s H E hr=>⟨_,(@E9 _ _ _ _ (@G7 _ _ _ _ _ (@n8 _ _ _ _ _ _ B2g (@K5 _ _ _ _ _ _ _ _ _ (B1z rfl) rfl T.fm A7y (@E4 _ _ _ _ _ _ (E7 (pv 1) (E8 (cII T.g_LEVEL))) (E4 (L5 Q4 Y0 (E7 (pv 2) (E8 (cII T.g_LEVEL))) (F8 (pcF T.aw (C6t T) hr (B8 (A6 (pv 0)) F7 A0)))) J5 G6) B0) DD DD B0 ((A9 G6 A5)))))),λds Q hl h=>?_⟩);let⟨m,ws,b,g,rfl,ok,q⟩:=h;right;refine⟨m,ws,rfl,ok,λM hM=>?_⟩;right;exact q M hM
theorem E01:FK P w base 10 T.bB (spD [.sh,.sh,.sh] E0x):=by
 refine K4 T.bB.F A8z rfl (λC cdv A outer s H E hr=>⟨_,(@L9 _ _ _ _ _ _ (K0 (pS (i:=3) A8z.nd (F8 (pcF T.ba (E00 T) hr (B8 (A6 (pv 0)) (B8 (A6 (pv 1)) (B8 (A6 (pv 2)) F7 A0) A0) A0))))) (@L9 _ _ _ _ _ _ (@V9 _ _ _ _ _ _ _ _ _ (A5n (A2t (F8 (pcF T.aB (E0z T) hr (B8 (A6 (pv 0)) (B8 (A6 (pv 3)) (B8 (A6 (pv 1)) (B8 (A6 (pv 2)) F7 A0) A0) A0) A0))))) (E9 (G7 P4)) X2) (@L9 _ _ _ _ _ _ (@K0 _ _ _ _ _ (pS (i:=4) A8z.nd (n8 B2g (K5 (B1z rfl) rfl T.fm A7y (E4 (E7 (pv 1) (E8 (cII T.g_LEVEL))) (E4 (E7 (pv 2) (E8 (cII T.g_LEVEL))) J5 B0) B0))))) (@L9 _ _ _ _ _ _ (@A92 _ _ _ _ (@A95 _ _ _ _ _ (@A49 _ _ _ _ _ _ T3 (P6 A2o A75 (A6 (pv 4)) (A6 (pv 3)) (F6 _)) (@L9 _ _ _ _ _ _ (K0 (pS (i:=5) A8z.nd (L5 B5c C20 (L5 Q4 Y0 (A6 (pv 4)) (A6 (pv 3))) F0))) (@E9 _ _ _ _ (@V9 _ _ _ _ _ _ _ _ _ (A2t (F8 (pcF T.aB (E0z T) hr (B8 (A6 (pv 0)) (B8 (A6 (pv 5)) (B8 (A6 (pv 1)) (B8 (A6 (pv 2)) F7 A0) A0) A0) A0)))) (E9 (K0 (pS (i:=3) A8z.nd (A6 (pv 5))))) (E9 (K0 (pS (i:=4) A8z.nd (L5 Q4 Y0 (A6 (pv 5)) F0)))))))))) (E9 (G7 (A6 (pv 4)))))))),λds Q hl h=>?_⟩);let⟨m,ws,b,g,rfl,ok,hb,hg,b0,b1,g0,g1,q⟩:=h;left;refine⟨m,ws,b,g,rfl,ok,λM hM=>?_⟩;let⟨q1,q2⟩:=q M hM;let⟨t0,t1⟩:=A9d ok hM;have hbb:b.2<=mxI b.2 (g.2+mtI m M):=by unfold mxI;split <;> omega
 have hbt:mxI b.2 (g.2+mtI m M)<=12000000000000000000:=by unfold mxI;split <;> omega
 have hlo:mxI b.2 g.2<=mxI b.2 (g.2+mtI m M):=by unfold mxI;split <;> split <;> omega
 have hbl:b.2<=mxI b.2 g.2:=by unfold mxI;split <;> omega
 generalize mxI b.2 (g.2+mtI m M)=top at *;refine go ?_;left;refine⟨m,ws,top,b,g,rfl,ok,hb,hg,b0,hbb,OO,λt ht hn=>?_⟩;cases e:enF t g with
 | false=>left;exact q1 ⟨t,ht,hn,e⟩
 | true=>
  refine G5 (go ?_);right;rw[show (if g.2>b.2 then g.2 else b.2)=mxI b.2 g.2 from rfl];generalize mxI b.2 g.2=low at *;refine go ?_
  (try unfold A02);(try unfold B2o)
  refine⟨fun ρ'=>∃(S:Int)(z:Sl),ρ'=[Sl.sh (K2 m ws),Sl.sh (Q0 b),Sl.sh (Q0 g),Sl.sh (.int S),Sl.sh (.int S),z]/\low<=S/\S<=top/\A9e m ws S b g/\(S=low\/A4x m ws (S-1) b g),?_,?_⟩
  ·unfold A8a;exists fun μ ρ=>∃(hi lo:Int)(z:Sl),ρ=[Sl.sh (K2 m ws),Sl.sh (Q0 b),Sl.sh (Q0 g),Sl.sh (.int hi),Sl.sh (.int lo),z]/\low<=lo/\lo<=hi/\hi<=top/\A9e m ws hi b g/\(lo=low\/A4x m ws (lo-1) b g)/\μ=(hi-lo).toNat,⟨_,top,low,_,rfl,A0v _,hlo,A0v _,⟨t,ht,hn,e⟩,.inl rfl,rfl⟩;rintro μ ρ ⟨hi,lo,z,rfl,h1,h2,h3,hT,hN,rfl⟩;left;by_cases c:lo<hi
   ·rw[decide_eq_true c];left
    try dsimp only[Blk]
    array_get_dec
    exists ⟨DD,DD⟩;have d1:lo<=(lo+hi)/2:=by omega
    have d2:(lo+hi)/2<hi:=by omega
    generalize (lo+hi)/2=mi at *;refine go ?_;left;refine⟨m,ws,mi,b,g,rfl,ok,hb,hg,b0,OO,OO,λu hu hun=>?_⟩;cases e2:enF u g with
    | true=>left;exact⟨(mi-lo).toNat,OO,mi,lo,_,rfl,h1,d1,OO,⟨u,hu,hun,e2⟩,hN,rfl⟩
    | false=>left;exact⟨(hi-(mi+1)).toNat,OO,hi,mi+1,_,rfl,OO,OO,h3,hT,.inr (by rw[show mi+1-1=mi by omega];exact⟨u,hu,hun,e2⟩),rfl⟩
   ·rw[decide_eq_false c];left;have:lo=hi:=by omega
    subst this;exact⟨lo,z,rfl,h1,h3,hT,hN⟩
  rintro ρ ⟨S,z,rfl,h1,h2,h3,h4⟩;refine go ?_;left;exact q2 S h1 h2 h3 h4
def A68 (f:Nat->Tb)(n:Nat):!PyData:=(U2 n).map λk=>.list (E2 (f k))
theorem C6u (f:Nat->Tb)(n:Nat):A68 f (n+1)=A68 f n++[.list (E2 (f n))]:=by unfold A68;rw[C0x,L7];rfl
def A9f (m:Nat)(ws:!Wy)(st:Int)(b g:Sp2)(most:Nat)(d:PyData):Prop:=
 (d=.tuple [.str "not",.list (A68 (skF m ws st b) (most+1))]/\∀k,k<=most->enF (skF m ws st b k) g=false)\/
 ∃(L:Nat)(ns:!Nat)(l:Int),d=.tuple [.str "through",.list (J0 ns),.list (A68 (skF m ws st b) L)]/\L<=most/\(∀k,k<L->enF (skF m ws st b k) g=false)/\enF (skF m ws st b L) g=true/\ns.length=L/\goN ws st ns b=some (g.1,l)/\g.2<=l/\∀n∈ns,n<ws.length
def E02:DSp:=λds Q=>∃(m:Nat)(ws:!Wy)(st:Int)(b g:Sp2)(most:Nat),ds=[K2 m ws,.int st,Q0 b,Q0 g,.int (most:Nat)]/\J2 m ws/\b.1<m/\g.1<m/\most<=400/\∀d,A9f m ws st b g most d->Q d
theorem E03 {t:Tb}{g:Sp2}(h:enF t g=true):∃l,gt t g.1=some l/\g.2<=l:=by
 unfold enF at h;cases e:gt t g.1 with
 | none=>rw[e] at h;cases h
 | some l=>rw[e] at h;exact⟨l,rfl,of_decide_eq_true h⟩
theorem B9v {m:Nat}{ws:!Wy}{st:Int}{b:Sp2}{n:Nat}:(srs m ws st b n).length=n:=by unfold srs;rw[B7,m5]
theorem E04 {m:Nat}{ws:!Wy}{st:Int}{b:Sp2}{n:Nat}(ok:J2 m ws):A62 m ws (srs m ws st b n):=by
 intro r hr;unfold srs at hr;let⟨k,_,rfl⟩:=L0.mp hr;exact⟨D3q ok k,λq n h=>D3r ok h⟩
theorem E05:FK P w base 4 T.cG (spD [.sh,.sh,.sh,.sh,.sh] E02):=by
 have eW:=@C5u P w K mg base T;have eX:=T.aT.b;have eG:=@C5v P w K mg base T;have eI:=T.aJ.b;refine K4 T.cG.F B3o rfl (λC cdv A outer s H E hr=>⟨_,(@L9 _ _ _ _ _ _ (K0 (pS (i:=5) B3o.nd (M7 (B2j (M7 (Y7 (E4 P4 J5 F2))) (E7 (pv 0) (E8 (cII T.g_MANY))))))) (@L9 _ _ _ _ _ _ (@A2z _ _ _ _ _ (@C7 _ _ 6 _ _ _ _ B3o.nd rfl (B6 rfl) (@Y7 _ _ _ _ _ (@E4 _ _ _ _ _ _ (@F8 _ _ _ _ _ _ _ (@B3 _ _ _ _ _ _ _ _ _ _ _ _ _ _ _ _ eW (hr.mono DD) rfl T.aT.m T.aT.F.kp eX .nil A7 (B8 (F8 (pcF T.bI (C6r T) hr (B8 (E7 (pv 0) (E8 (cII T.g_MANY))) (B8 (A6 (pv 2)) F7 A0) B0))) F7 C6) DD C6 A5)) J5 C6)) (by rfl) (by first | exact .inl rfl | exact .inr rfl | assumption))) (@L9 _ _ _ _ _ _ (@A92 _ _ _ _ (@A95 _ _ _ _ _ (@A49 _ _ _ _ _ _ T3 (PW.pt (@B5l _ _ _ _ _ _ _ _ (P6 X8 C21 (A57 (K5 V8 rfl T.aP T9 (A3 (pv 6) A4 A0))) (A6 (pv 4)) (F6 _)) (B5k (A5n (A2t (F8 (pcF T.ax (C6s T) hr (B8 (T1 (E7 (pv 6) (A0l F0)) (E8 (cII T.g_TABLE))) (B8 (A6 (pv 3)) F7 A0) B0)))))))) (@E9 _ _ _ _ (@A79 _ _ _ _ _ _ (@N7 _ _ _ _ (@L8 _ _ _ _ _ _ _ _ _ _ _ _ S9 U5 U6 T6 (pv 6) (@A3 _ _ _ _ _ (@F8 _ _ _ _ _ _ _ (@B3 _ _ _ _ _ _ _ _ _ _ _ _ _ _ _ _ eG (hr.mono DD) rfl T.aJ.m T.aJ.F.kp eI .nil A7 (B8 (A6 (pv 0)) (B8 (A6 (pv 1)) (B8 (T1 (E7 (pv 6) (A0l F0)) (E8 (cII T.g_TABLE))) (B8 (A6 (pv 5)) F7 A0) B0) A0) A0) DD A0 ((A9 A0 (A9 B0 (A9 A0 A5)))))) A4 C6) (by rfl) (by rfl) (by rfl) (by rfl) (by rfl)) (by rfl))))))) (@L9 _ _ _ _ _ _ (D2t rfl (A7w (i:=7) B3o.nd rfl (B6 rfl) (N1.new (N:=["land","store","begin","goal","most","nowhere","rows","tables"]) (osc:=B5 B3b) KK) rfl (A34 (pv 6)) (λJ=>A2y) (λJ=>(E7 (pv 8) (E8 (cII T.g_TABLE)))))) (@L9 _ _ _ _ _ _ (@V9 _ _ _ _ _ _ _ _ _ (A5n (A2t (F8 (pcF T.ax (C6s T) hr (B8 (E7 (pv 7) (A0l F0)) (B8 (A6 (pv 3)) F7 A0) B0))))) (E9 (G7 (Y6 (E4 C2y (E4 (A6 (pv 7)) J5 A0) F2)))) X2) (@E9 _ _ _ _ (@G7 _ _ _ _ _ (@Y6 _ _ _ _ _ _ (@E4 _ _ _ _ _ _ C2y (@E4 _ _ _ _ _ _ (@T1 _ _ _ _ _ _ _ (F8 (pcF T.bH (C5w T) hr (B8 (A6 (pv 0)) (B8 (A6 (pv 6)) (B8 (E7 (pv 3) (E8 (cII T.g_PLACE))) F7 B0) A0) A0))) (E8 (cII T.g_BY)) (λJ J=>rfl)) (E4 (M7 (B5q (pv 7) B2h (A77 (A0l F0)))) J5 B0) B0) F2))))))))),λds Q hl h=>?_⟩);let⟨m,ws,st,b,g,most,rfl,ok,hb,hg,hm,q⟩:=h;have m2:=ok.m2;right;exists DD,⟨OO,OO,DD⟩;rw[show ((m:Nat):Int).toNat=m by simp,C5t];refine go ?_;right;exists m,b,rfl,hb,OO;right;refine⟨Z9 m b,rfl,by rw[B2v];omega,?_⟩;rw[B2v];right;exists DD;refine go ?_;unfold A02 B2o;refine⟨fun ρ=>∃(L:Nat)(z:Sl),ρ=[Sl.sh (K2 m ws),Sl.sh (.int st),Sl.sh (Q0 b),Sl.sh (Q0 g),Sl.sh (.int (most:Nat)),Sl.sh (.list (E2 (G1 m none))),Sl.ow ((srs m ws st b (L+1)).map S2),z]/\L<=most/\(∀k,k<L->enF (skF m ws st b k) g=false)/\(L<most->enF (skF m ws st b L) g=true),?_,?_⟩
 ·unfold A8a;refine⟨fun μ ρ=>∃(L:Nat)(z:Sl),ρ=[Sl.sh (K2 m ws),Sl.sh (.int st),Sl.sh (Q0 b),Sl.sh (Q0 g),Sl.sh (.int (most:Nat)),Sl.sh (.list (E2 (G1 m none))),Sl.ow ((srs m ws st b (L+1)).map S2),z]/\L+μ=most/\∀k,k<L->enF (skF m ws st b k) g=false,
   ⟨most,0,_,rfl,OO,λk hk=>absurd hk (C00 k)⟩,?_⟩
  rintro μ ρ ⟨L,z,rfl,hL,hno⟩;have eL:(srs m ws st b (L+1)).map S2=(srs m ws st b L).map S2++[S2 (srF m ws st b L)]:=by rw[B6g,L7];rfl
  have lL:((srs m ws st b (L+1)).map S2).length=L+1:=by rw[B7,B9v]
  have aL:atI ((srs m ws st b (L+1)).map S2) (-1)=some (S2 (srF m ws st b L)):=by rw[eL];exact B14 _ _
  right;rw[lL];cases μ with
  | zero=>rw[decide_eq_false (OO)];right;refine⟨L,z,rfl,OO,hno,λh=>?_⟩;omega
  | succ μ=>
   rw[decide_eq_true (OO)];right;rw[aL];right;refine⟨_,g,rfl,by rw[show (srF m ws st b L).1.length=m from B6f ok L];exact hg,?_⟩;rw[show (srF m ws st b L).1=skF m ws st b L from rfl];cases e:enF (skF m ws st b L) g with
   | true=>right;exact⟨L,z,rfl,OO,hno,λJ=>e⟩
   | false=>
    decreasing_trivial_pre_omega
    rw[aL];right;exists m,ws,st,skF m ws st b L,G1 m none,rfl,ok,B6f ok L,d9;right;refine⟨by rw[lL];omega,μ,OO,L+1,z,?_,OO,λk hk=>?_⟩
    ·rw[B6g (L+1),L7];rfl
    ·by_cases c:k=L
     ·rw[c];exact e
     ·exact hno k (OO)
 ·rintro ρ ⟨L,z,rfl,hL,hno,hyes⟩;refine go ?_;array_mem_dec;refine⟨⟨rfl,by rw[B7,B9v];omega⟩,?_⟩;refine A21 (f:=λr:Rw=>.list (E2 r.1)) (λr hr Q' q'=>?_) ?_
  ·right;exact q'
  have eT:[]++List.map (λr:Rw=>PyData.list (E2 r.1)) (srs m ws st b (L+1))=A68 (skF m ws st b) L++[.list (E2 (skF m ws st b L))]:=by
   rw[<-C6u,T2];unfold srs A68;rw[Q8];rfl
  rw[eT];refine go ?_;right;rw[show -(1:Int)=-1 from rfl,B14];right;refine⟨_,g,rfl,by rw[B6f ok L];exact hg,?_⟩;cases e:enF (skF m ws st b L) g with
  | false=>
   have hm':L=most:=by
    by_cases c:L<most
    ·rw[hyes c] at e;cases e
    ·omega
   subst hm';right;exists DD;rw[<-C6u];refine q _ (.inl ⟨rfl,λk hk=>?_⟩);by_cases c:k=L
   ·rw[c];exact e
   ·exact hno k (OO)
  | true=>let⟨l,h1,h2⟩:=E03 e;let⟨ns,a1,a2,a3,a4⟩:=C3y ok hb h1;right;refine⟨m,ws,srs m ws st b (L+1),g.1,rfl,hg,ok,E04 ok,by rw[B9v];omega,?_⟩;rw[a1];right;rw[show -(1:Int)=-1 from rfl,D22];exists DD;exact q _ (.inr ⟨L,ns,l,rfl,hL,hno,e,a2,a3,h2,a4⟩)
structure Opn (m:Nat)(ws:!Wy)(b:Tb)(G M:Int)(t:Tb):Prop where
 ok:J2 m ws
 g0:0<=G
 hG:∀p y,gt b p=some y->0<=y/\y<=G
 len:b.length=m
 hM:A0c ws M
 ht:S1 m ws (G+mtI m M+mtI m M+1) b t
variable {m:Nat}{ws:!Wy}
section
variable {b t:Tb}{G M:Int}
theorem Opn.mt (o:Opn m ws b G M t):0<=mtI m M:=(A9d o.ok o.hM).1
theorem Opn.tb (o:Opn m ws b G M t){st:Int}(h:G<=st):F3 m st b:=⟨o.len,λp y e=>⟨(o.hG p y e).1,by have:=(o.hG p y e).2;omega⟩⟩
end
inductive OV where
 | no
 | any
 | num (x:Int)
def ovD:OV->PyData
 | .no=>.none
 | .any=>.str "any"
 | .num x=>.int x
def opV (B:Int):Option Int->OV
 | none=>.no
 | some x=>if B<x then .any else .num x
theorem E06 {B x:Int}(h:B<x):opV B (some x)=.any:=if_pos h
theorem E07 {B x:Int}(h:¬ B<x):opV B (some x)=.num x:=if_neg h
structure A3b (b:Tb)(G:Int):Prop where
 g0:0<=G
 le:∀p y,gt b p=some y->y<=G
 is:G=0\/∃p,gt b p=some G
theorem A3b.uniq {b:Tb}{G H:Int}(h:A3b b G)(k:A3b b H):G=H:=by
 have a:G<=H:=by
  rcases h.is with z | ⟨p,z⟩
  ·rw[z];exact k.g0
  ·exact k.le p G z
 have c:H<=G:=by
  rcases k.is with z | ⟨p,z⟩
  ·rw[z];exact h.g0
  ·exact h.le p H z
 omega
theorem B9w:∀b:Tb,(b.filter λo=>o.isSome).map oD=(b.filterMap id).map PyData.int
 | []=>rfl
 | none::b=>B9w b
 | some x::b=>by
  show PyData.int x::(b.filter λo=>o.isSome).map oD=PyData.int x::(b.filterMap id).map PyData.int;rw[B9w b]
theorem B9x {b:Tb}{y:Int}:y∈b.filterMap id↔∃p,gt b p=some y:=by
 constructor
 ·intro h;let⟨o,ho,e⟩:=C0h.mp h;let⟨p,hp,e2⟩:=B1a.mp ho;exists p;unfold gt;rw[M8 hp,e2];exact e
 ·rintro ⟨p,e⟩;unfold gt at e;cases z:b[p]? with
  | none=>rw[z] at e;cases e
  | some o=>rw[z] at e;exact C0h.mpr ⟨o,U4 z,e⟩
theorem E08 {b:Tb}{m:Nat}{st M:Int}(hb:F3 m st b)(h:B19 (b.filterMap id) M):A3b b M:=by
 let⟨h1,h2⟩:=h;let⟨p,e⟩:=B9x.mp h1;exact⟨(hb.bd p M e).1,λq y e=>h2 y (B9x.mpr ⟨q,e⟩),.inr ⟨p,e⟩⟩
theorem A3b.hi {b:Tb}{m:Nat}{st G:Int}(hb:F3 m st b)(h0:0<=st)(h:A3b b G):G<=st:=by
 rcases h.is with z | ⟨p,z⟩
 ·omega
 ·exact (hb.bd p G z).2
def E09:DSp:=λds Q=>∃(m:Nat)(st:Int)(b:Tb),ds=[.list (E2 b)]/\F3 m st b/\m<=900/\∀G,A3b b G->Q (.int G)
def E1a:DSp:=λds Q=>∃(m:Nat)(ws:!Wy)(b:Tb),ds=[K2 m ws,.list (E2 b)]/\J2 m ws/\F3 m ∅ b/\∀G M t,A3b b G->Opn m ws b G M t->Q (.list (t.map λo=>ovD (opV (G+mtI m M) o)))
theorem E1b:FK P w base 1 T.bA (spD [.bo] E09):=by
 refine K4 T.bA.F D5l rfl (λC cdv A outer s H E hr=>⟨_,(E9 (G7 (n8 C30 (C2v rfl rfl T.fm A7y (E4 (M7 (A20 rfl (W9 (N1.new (N:=["base"]) (osc:=B5 B25) KK) rfl (A34 (pv 0)) (λJ=>(B5a (P6 A5c A50 (A6 (pv 1)) P4 (F6 _)))) (λJ=>(A6 (pv 1)))))) J5 A0j))))),λds Q hl h=>?_⟩);let⟨m,st,b,rfl,hb,m2,q⟩:=h;have bl:=hb.len
 array_mem_dec
 refine⟨⟨rfl,by rw[A0q];omega⟩,?_⟩;rw[show E2 b=b.map oD from rfl];refine B2q (p:=λo=>o.isSome) (f:=oD) (λo ho Q' q'=>?_) (λo ho J Q' q'=>?_) ?_
 ·left;cases o with
  | none=>exact q'
  | some x=>exact q'
 ·left;exact q'
 rw[T2,B9w];left;rw[A8b];left;refine⟨λz=>?_,λM hM=>q M (E08 hb hM)⟩;refine q 0 ⟨A0v _,λp y e=>?_,.inl rfl⟩;have:=B9x.mpr ⟨p,e⟩;rw[z] at this;cases this
theorem E1c:FK P w base 9 T.bX (spD [.sh,.bo] E1a):=by
 have cI:=@B3w P w K mg base T;have cJ:=T.aq.b;refine K4 T.bX.F B9a rfl (λC cdv A outer s H E hr=>⟨_,(@L9 _ _ _ _ _ _ (@K0 _ _ _ _ _ (@C7 _ _ 2 _ _ _ _ B9a.nd rfl (Or.inr rfl) (L5 Q4 Y0 (F8 (pcF T.bA (E1b T) hr (V1 (pv 1) F7 A0))) (F8 (pcF T.aw (C6t T) hr (B8 (A6 (pv 0)) F7 A0)))) (by rfl) (by first | exact .inl rfl | exact .inr rfl | assumption))) (@L9 _ _ _ _ _ _ (@K0 _ _ _ _ _ (@C7 _ _ 3 _ _ _ _ B9a.nd rfl (B6 rfl) (@F8 _ _ _ _ _ _ _ (@B3 _ _ _ _ _ _ _ _ _ _ _ _ _ _ _ _ cI (hr.mono DD) rfl (T.bp.trans T.aq.m) T.aq.F.kp cJ .nil A7 (B8 (A6 (pv 0)) (B8 (L5 Q4 Y0 (L5 Q4 Y0 (A6 (pv 2)) (F8 (pcF T.aw (C6t T) hr (B8 (A6 (pv 0)) F7 A0)))) F0) (V1 (pv 1) F7 A0) G6) A0) DD A0 ((A9 G6 (A9 A0 A5))))) (by rfl) (by first | exact .inl rfl | exact .inr rfl | assumption))) (@E9 _ _ _ _ (@G7 _ _ _ _ _ (@M7 _ _ _ _ (@A20 _ _ _ _ _ _ _ _ rfl (W9 (N1.new (N:=["land","base","bound","told"]) (osc:=B5 B26) KK) rfl (A34 (pv 3)) (λJ=>A2y) (λJ=>(C2z (PW.pt (B5l (P6 A5c A50 (A6 (pv 4)) P4 (F6 _)) (B5k (P6 A3r A76 (A6 (pv 4)) (A6 (pv 2)) (F6 _))))) (D1x (D0 (v:=V.str "any") rfl T.g_ANY.m ⟨_,rfl⟩)) (A6 (pv 4))))))))))),λds Q hl h=>?_⟩);let⟨m,ws,b,rfl,ok,hb,q⟩:=h;have m2:=ok.m2;left;refine⟨rfl,m,_,b,rfl,hb,OO,λG hG=>?_⟩;left;refine⟨m,ws,rfl,ok,λM hM=>?_⟩;let⟨t0,t1⟩:=A9d ok hM;have g0:=hG.g0;have g1:=hG.hi hb (DD);refine go ?_;left;refine⟨m,ws,rfl,ok,λM' hM'=>?_⟩;cases hM.uniq hM';left;refine⟨rfl,m,ws,G+mtI m M+mtI m M+1,b,rfl,ok,OO,OO,⟨hb.len,λp y e=>⟨(hb.bd p y e).1,by have:=hG.le p y e;omega⟩⟩,λt ht hn=>?_⟩;have o:Opn m ws b G M t:=⟨ok,g0,λp y e=>⟨(hb.bd p y e).1,hG.le p y e⟩,hb.len,hM,ht⟩;have tl:=ht.tab.len;refine go ?_;array_mem_dec;refine⟨⟨rfl,by rw[A0q];omega⟩,?_⟩;rw[show E2 t=t.map oD from rfl];refine A21 (f:=λo=>ovD (opV (G+mtI m M) o)) (λo ho Q' q'=>?_) ?_
 ·cases o with
  | none=>right;exact q'
  | some x=>
   right;unfold opV at q';dsimp only at q';by_cases c:G+mtI m M<x
   ·rw[decide_eq_true c];rw[if_pos c] at q';right;exact q'
   ·rw[decide_eq_false c];rw[if_neg c] at q';right;exact q'
 ·rw[T2];exact q G M t hG o
def kwD (x:Int)(w:Wy):PyData:=.tuple [.int x,.int ((w.1:Nat):Int),.int ((w.2.1:Nat):Int),.int w.2.2]
def A3c (kws:Kw):!PyData:=(srt (F4 kws)).map λk=>kwD k ((J7 kws k).getD (0,0,0))
def E1d (k:Kst)(ds:!PyData):Prop:=ds=[]/\(F4 k.kws).length<64
def E1e (k:Kst)(_:!PyData)(r:PyData)(k':Kst):Prop:=r=.list (A3c k.kws)/\k'=k
def E1f (k:Kst)(_:!PyData)(r:PyData)(k':Kst):Prop:=r=.int k.st/\k'=k
theorem B9y {F:Addr->Prop}{H:Hp}{vs:!V}{d1 d2 d3:PyData}(t:C3 F H vs [d1,d2,d3]):∃v1 v2 v3,vs=[v1,v2,v3]/\ThV F H v1 d1/\ThV F H v2 d2/\ThV F H v3 d3:=by
 cases t with
 | cons x1 t=>
 let⟨v2,v3,rfl,t2,t3⟩:=g6 t;exact⟨_,v2,v3,rfl,x1,t2,t3⟩
theorem C6v:FM P w mg base 1 T.bQ (A08 T.ac C6k E1f):=by
 refine T.bQ.F.ok D5z (λJ H J J h=>?_) (λJ J J J H J Q J hr h=>?_)
 ·let⟨F,p,d,k,us,ds,rfl,_,_,tus,rfl,_⟩:=h;cases tus;rfl
 ·let⟨F,p,d,k,us,ds,rfl,hF,kp,tus,rfl,told⟩:=h;cases tus;have kp0:=kp;let⟨⟨dx,g,l,ug,ul,e1,g1,e2,t2,g3,e3,t3⟩,kvs,e4,kv⟩:=kp;exists _,(C9 (G0 (Q9 (pv 0) rfl)));exists _,rfl,p,_,dx,_,_,rfl,e1,T.ae,T.dh,B3z;exact told _ _ k _ ⟨rfl,rfl⟩ kp0 (.int _) (λb o e J J=>e) (D9t kp0)
theorem E1g:FM P w mg base 1 T.dt (A08 T.ac E1d E1e):=by
 refine T.dt.F.ok B3n (λJ H J J h=>?_) (λJ J J J H J Q J hr h=>?_)
 ·let⟨F,p,d,k,us,ds,rfl,_,_,tus,⟨rfl,_⟩,_⟩:=h;cases tus;rfl
 ·let⟨F,p,d,k,us,ds,rfl,hF,kp,tus,⟨rfl,hk⟩,told⟩:=h;cases tus;have kp0:=kp;let⟨⟨dx,g,l,ug,ul,e1,g1,e2,t2,g3,e3,t3⟩,kvs,e4,kv⟩:=kp;refine⟨_,(C0 (pS (i:=1) B3n.nd (T0 A4))
   (C0 (X6 T3 rfl (U9 (K5 (C39 rfl) rfl T.gh C2m (A3 (Q9 (pv 0) rfl) A4 P2))) (N8 (i:=2) B3n.nd)
   (C0 (pS (i:=3) B3n.nd (B6l (u1 (b6 hr)) (Q9 (pv 0) rfl) (pv 2) (λJ J=>rfl)))
   (C9 (N7 (L8 S9 U5 U6 T6 (pv 1) (A3 (w5 (A3 (pv 2) (A3 (E6 A3u (pv 3) (cII T.g_START)) (A3 (E6 A3u (pv 3) (cII T.g_END)) (A3 (E6 A3u (pv 3) (cII T.g_CHANGE)) A4 B0) B0) B0) A0)) A4 g4))))))
   (C9 (G0 (pv 1))))),?_⟩
  ac_nf
  refine A26 λW hW=>?_;refine⟨SZ (n:=0),λtl htl=>?_⟩;have s1:Same H (upd H tl (.lst [])):=Same.upd htl;refine N6 W hW λW hW=>?_;refine⟨_,rfl,p,_,dx,_,_,rfl,s1 _ _ e1,T.ae,T.bK,A1n,d,kvs,_,rfl,s1 _ _ e4,kv.keys,hk,λl1 ms hl1 hp hs=>?_⟩;have ems:=B3x hp hs;subst ems;obtain⟨H2,hH2⟩:∃H2,H2=upd (upd H tl (.lst [])) l1 (.lst ((srt (F4 k.kws)).map V.int)):=⟨_,rfl⟩;rw[<-hH2];have s2:Same H H2:=by rw[hH2];exact s1.tr (Same.upd hl1)
  have el1:H2 l1=some (.lst ((srt (F4 k.kws)).map V.int)):=by rw[hH2];exact B9
  have etl:H2 tl=some (.lst []):=by rw[hH2];exact Same.upd hl1 _ _ B9
  have nlt:l1≠tl:=λz=>by rw[z,B9] at hl1;cases hl1
  have lsr:(srt (F4 k.kws)).length<64:=by rw[(A0s _).length_eq];exact hk
  have lkw:(A3c k.kws).length=(srt (F4 k.kws)).length:=by unfold A3c;rw[B7]
  clear hH2;exists l1,rfl,⟨_,SqL.of el1⟩;refine A5a (xs:=(srt (F4 k.kws)).map V.int) (λi σ' H'=>∃ys x2 x3,σ'=[some (.ref p),some (.ref tl),x2,x3]/\Same H H'/\H' tl=some (.lst ys)/\H' l1=some (.lst ((srt (F4 k.kws)).map V.int))/\C3 (λb=>S3 H b/\b≠tl) H' ys ((A3c k.kws).take i)) ⟨[],none,none,rfl,s2,etl,el1,.nil⟩ ?_ ?_ ?_
  ·rintro i σ' H' hi ⟨ys,x2,x3,rfl,sH,et,el,ty⟩;exact SqL.of el
  ·rintro i x σ' H' hx ⟨ys,x2,x3,rfl,sH,et,el,ty⟩;rw[M2] at hx;let⟨n,hn,rfl⟩:=A1e.mp hx;let⟨w0,hw0⟩:=A64 ((A0s _).mem_iff.mp (U4 hn));have hwi:(A3c k.kws)[i]?=some (kwD n w0):=by
    unfold A3c;rw[M2,hn,A7o,hw0];rfl
   rcases kv.val n with ⟨_,z⟩ | ⟨v0,w1,hv,hw1,tv⟩
   ·rw[hw0] at z;cases z
   rw[hw0] at hw1;cases hw1;let⟨tw,uw,rfl,_,ew,tuw⟩:=y8 (show ThV TT0 H v0 (.tuple [.int ((w0.1:Nat):Int),.int ((w0.2.1:Nat):Int),.int w0.2.2]) from tv);let⟨v1,v2,v3,rfl,tv1,tv2,tv3⟩:=B9y tuw;cases tv1;cases tv2;cases tv3;have ew':=sH _ _ ew;refine⟨_,rfl,p,_,dx,_,_,rfl,sH _ _ e1,T.ae,T.bK,A1n,_,rfl,d,_,rfl,by rw[<-hv];exact z4.k (k:=Sum.inl n) (sH _ _ e4),?_⟩;refine⟨_,rfl,.inl ⟨rfl,_,SqL.of et⟩,_,rfl,_,rfl,.inr (.inl ⟨tw,_,0,_,rfl,rfl,SqT.of ew',rfl,_,rfl,.inr (.inl ⟨tw,_,1,_,rfl,rfl,SqT.of ew',rfl,_,rfl,.inr (.inl ⟨tw,_,2,_,rfl,rfl,SqT.of ew',rfl,SZ (n:=4),λq hq=>?_⟩)⟩)⟩)⟩;have s3:Same H' (upd H' q (.tup [.int n,.int ((w0.1:Nat):Int),.int ((w0.2.1:Nat):Int),.int w0.2.2])):=Same.upd hq;have nq:q≠tl:=λz=>by rw[z,et] at hq;cases hq
   have lys:ys.length<=63:=by rw[ty.len,X5,lkw];omega
   refine⟨tl,ys,_,rfl,rfl,s3 _ _ et,by rw[sizeLine_eq];omega,?_⟩;have k4:∀b o,upd H' q (.tup [.int n,.int ((w0.1:Nat):Int),.int ((w0.2.1:Nat):Int),.int w0.2.2]) b=some o->b≠tl->upd (upd H' q (.tup [.int n,.int ((w0.1:Nat):Int),.int ((w0.2.1:Nat):Int),.int w0.2.2])) tl (.lst (ys++[.ref q])) b=some o:=λb o e n=>by rw[C4 n];exact e
   exists _,_,_,rfl,λb o e=>k4 _ _ (s3 _ _ (sH _ _ e)) (λz=>by rw[z,htl] at e;cases e),B9,k4 _ _ (s3 _ _ el) nlt;rw[A1t,hwi];refine (ty.mv λb o z e=>⟨z,k4 _ _ (s3 _ _ e) z.2⟩).append (.cons (.tup ⟨.inl (sH.early hq),nq⟩ (k4 _ _ B9 nq) (.cons (.int _) (.cons (.int _) (.cons (.int _) (.cons (.int _) .nil))))) .nil)
  ·rintro σ' H' ⟨ys,x2,x3,rfl,sH,et,el,ty⟩;rw[B7,<-lkw,A1v] at ty;subst hW;exists _,rfl;exact told _ _ k _ ⟨rfl,rfl⟩ (kp0.same sH) (.lst (.inl htl) et (ty.mv λb o z e=>⟨z.1,e⟩)) (λb o e J J=>sH _ _ e) (C6j (kp0.ex.same sH) htl et)
abbrev Frp (p d:Addr)(H H':Hp):Prop:=∀b o,H b=some o->b≠p->b≠d->H' b=some o
theorem A2b {F:Addr->Prop}{C:Addr}{H H':Hp}{p d:Addr}{k:Kst}(kp:J1 F C H' p d k)(fr:Frp p d H H'){b:Addr}(hb:H' b=none):H b=none:=by
 cases z:H b with
 | none=>rfl
 | some o=>
  have pd:=A4q kp;by_cases c1:b=p
  ·rw[c1] at hb;exact absurd hb pd.2.1
  ·by_cases c2:b=d
   ·rw[c2] at hb;exact absurd hb pd.2.2
   ·rw[fr _ _ z c1 c2] at hb;cases hb
theorem E1h {F:Addr->Prop}{ms:!Md}{sp:DSp}{vs:!V}{ds:!PyData}{H:Hp}{Q:VK}{E:XK}(hF:(∀b,H b=none->F b)/\∀b xs,H b=some (.tup xs)->F b)(Qd:PyData->Prop)(ar:y7 F none H ms vs ds)(h:sp ds Qd)(k:∀d v H',Qd d->ThV F H' v d->Same H H'->Q v H'):spD ms sp vs H Q E:=
 ⟨F,none,ds,Qd,hF,λq hq=>(nomatch hq),λq hq=>(nomatch hq),ar,h,λd v H' a b c J=>k d v H' a b (C5j c)⟩
def E1i (C:Addr)(pre:Kst->!PyData->Prop)(post:Kst->!PyData->PyData->Prop):Sp:=λvs H Q J=>∃(F:Addr->Prop)(p d:Addr)(k:Kst)(us:!V)(ds:!PyData),vs=.ref p::us/\(∀b,H b=none->F b)/\J1 F C H p d k/\C3 TT0 H us ds/\pre k ds/\
 ∀r v H',post k ds r->J1 F C H' p d k->ThV TT0 H' v r->Frp p d H H'->Q v H'
def E1j (k:Kst)(ds:!PyData):Prop:=∃b:Tb,ds=[.list (E2 b)]/\F3 k.m k.st b/\KOk k.m k.st k.g k.kws
def E1k (k:Kst)(ds:!PyData)(r:PyData)(k':Kst):Prop:=k'=k/\∃b t:Tb,ds=[.list (E2 b)]/\S1 k.m (wsF k.kws) k.st b t/\r=.list (E2 t)
def A0d (m:Nat)(b:Sp2):Prop:=b.1<m/\0<=b.2/\b.2<=∅
def A69 (m:Nat)(ws:!Wy)(b g:Sp2)(o:Option Int):Prop:=∃M,A0c ws M/\((o=none/\A4x m ws (mxI b.2 (g.2+mtI m M)) b g)\/∃S,o=some S/\mxI b.2 g.2<=S/\S<=mxI b.2 (g.2+mtI m M)/\A9e m ws S b g/\(S=mxI b.2 g.2\/A4x m ws (S-1) b g))
def E1l (k:Kst)(ds:!PyData):Prop:=∃b g:Sp2,ds=[Q0 b,Q0 g]/\A0d k.m b/\A0d k.m g/\KOk k.m k.st k.g k.kws
def E1m (k:Kst)(ds:!PyData)(r:PyData):Prop:=∃(b g:Sp2)(o:Option Int),ds=[Q0 b,Q0 g]/\A69 k.m (wsF k.kws) b g o/\r=oD o
theorem E1n {F G:Addr->Prop}{C:Addr}{H H':Hp}{p d:Addr}{k:Kst}(kp:J1 F C H p d k)(kp':J1 G C H' p d k)(fr:Frp p d H H'):(∀b,H' b=none->S3 H b)/\∀b xs,H' b=some (.tup xs)->S3 H b:=by
 refine⟨λb hb=>.inl (A2b kp' fr hb),λb xs hb=>?_⟩;cases z:H b with
 | none=>exact .inl z
 | some o=>have n:=W3 kp' hb;have:=fr _ _ z n.1 n.2;rw[hb] at this;cases this;exact .inr ⟨xs,z⟩
theorem C6w {F G:Addr->Prop}{H:Hp}(f:∀b xs,H b=some (.tup xs)->F b):∀{ws:!Wy}{us:!V},C3 G H us (ws.map N5)->C3 F H us (ws.map N5)
 | [],_,h=>by cases h;exact .nil
 | w::ws,_,h=>by
  cases h with
  | cons x r=>exact .cons (B0p x (λJ J e=>e) f) (C6w f r)
theorem E1o {F G:Addr->Prop}{H:Hp}{v:V}{m:Nat}{ws:!Wy}(t:ThV G H v (K2 m ws))(f:∀b xs,H b=some (.tup xs)->F b)(fl:∀b xs,G b->TL H v b->H b=some (.lst xs)->F b):ThV F H v (K2 m ws):=by
 let⟨a,us,rfl,_,e,tu⟩:=y8 t;let⟨v1,v2,rfl,t1,t2⟩:=g6 tu;cases t1;let⟨l,ul,rfl,gl,el,tl⟩:=P7 t2;exact .tup (f _ _ e) e (.cons (.int _) (.cons (.lst (fl _ _ gl (.inr ⟨a,_,rfl,e,by simp⟩) el) el (C6w f tl)) .nil))
theorem E1p:FM P w mg base 9 T.cA (A08 T.ac E1j E1k):=by
 have cI:=@B3w P w K mg base T;have cJ:=T.aq.b;refine T.cA.F.ok D52 (λJ H J J h=>?_) (λJ J J J H J Q J hr h=>?_)
 ·let⟨F,p,d,k,us,ds,rfl,_,_,tus,⟨b,rfl,_⟩,_⟩:=h;let⟨u1,rfl,_⟩:=A67 tus;rfl
 ·let⟨F,p,d,k,us,ds,rfl,hF,kp,tus,⟨b,rfl,hb,ok⟩,told⟩:=h;let⟨u1,rfl,tu1⟩:=A67 tus;let⟨ab,ub,rfl,_,eb,tub⟩:=P7 tu1;have kp0:=kp;let⟨⟨dx,g,l,ug,ul,e1,g1,e2,t2,g3,e3,t3⟩,kvs,e4,kv⟩:=kp;have fk:=ok.few;have s1k:=ok.s1;have lk:(F4 k.kws).length<64:=by unfold F4;rw[B7];omega
  exists _,(C9 (G0 (B3 cI (hr.mono DD) rfl (T.bp.trans T.aq.m) T.aq.F.kp cJ .nil A7 (A3 (pmG (pv 0) T.ae T.aA (A65 T) hr) (A3 (Q9 (pv 0) rfl) (A3 (pv 1) A4 A0) P2) C6))))
  ac_nf
  refine⟨_,rfl,p,dx,_,rfl,e1,S4 KK,F,p,d,k,[],[],rfl,hF,kp0,.nil,⟨rfl,lk⟩,λr v k' H1 po kp1 tv fr ap=>?_⟩;let⟨rfl,rfl⟩:=po;have kp1':=kp1;let⟨⟨dx1,g',l',ug',ul',f1,gg1,f2,tt2,gg3,f3,tt3⟩,kvs',f4,kv'⟩:=kp1;have nb:=X3 kp0 eb;let⟨⟨dx2,g2',l2',ug2,ul2,q1,qg,q2,_,ql,q3,_⟩,_⟩:=ap.2;rw[f1] at q1;unfold kfs at q1;cases q1;have hn:=E1n kp0 kp1' fr;have fT:∀b xs,H1 b=some (.tup xs)->S3 H b/\b≠g'/\b≠l':=λb xs e=>⟨hn.2 b xs e,(λz=>by rw[z,f2] at e;cases e),λz=>by rw[z,f3] at e;cases e⟩;have tvF:ThV (λb=>S3 H b/\b≠g'/\b≠l') H1 v (K2 k'.m (wsF k'.kws)):=E1o tv fT λb xs gb z e=>⟨gb,(λy=>qg (by rw[<-y];exact z)),λy=>ql (by rw[<-y];exact z)⟩;exists _,rfl,p,_,dx1,_,_,rfl,f1,T.ae,T.dh,B3z,_,rfl;refine E1h (F:=λb=>S3 H b/\b≠g'/\b≠l') (E:=E0) ⟨λb hb=>⟨hn.1 b hb,(λz=>by rw[z,f2] at hb;cases hb),λz=>by rw[z,f3] at hb;cases hb⟩,fT⟩ (λd=>∃t,S1 k'.m (wsF k'.kws) k'.st b t/\d=.list (E2 t)) (.cons tvF (.cons (.int _) (.cons ⟨ab,ub,E2 b,rfl,rfl,(λq hq=>nomatch hq),fr _ _ eb nb.1 nb.2,M4 tub⟩ .nil))) ⟨k'.m,wsF k'.kws,k'.st,b,rfl,ok.land,ok.s0,OO,hb,λt a J=>⟨t,a,rfl⟩⟩ λd2 v2 H2 hd2 tv2 s2=>?_;let⟨t,ht,rfl⟩:=hd2;have kp2:=kp1'.same s2;have fr2:Frp p d H H2:=λb o e n1 n2=>s2 _ _ (fr _ _ e n1 n2);let⟨l2,u2,rfl,gl2,el2,tu2⟩:=P7 tv2;have tln:∀b xs,TL H2 (.ref l2) b->H2 b=some (.lst xs)->b=l2:=λb xs z e=>by
   rcases z with z | ⟨a,ys,z,z2,_⟩
   ·cases z;rfl
   ·cases z;rw[el2] at z2;cases z2
  refine told _ _ k' _ ⟨rfl,b,t,rfl,ht,rfl⟩ kp2 (.lst gl2.1 el2 (M4 tu2)) fr2 ⟨(λa x y e1 e2=>by cases e1;rw[el2] at e2;cases e2),?_⟩;exact⟨⟨dx1,g',l',ug',ul',s2 _ _ f1,(λz=>gl2.2.1 (tln _ _ z (s2 _ _ f2)).symm),s2 _ _ f2,M4 tt2,(λz=>gl2.2.2 (tln _ _ z (s2 _ _ f3)).symm),s2 _ _ f3,M4 tt3⟩,kvs',s2 _ _ f4,kv'.mv λb xs e=>s2 _ _ e⟩
theorem E1q:FM P w mg base 11 T.br (E1i T.ac E1l E1m):=by
 have il:=@E01 P w K mg base T;have im:=T.bB.b;refine T.br.F.ok D53 (λJ H J J h=>?_) (λJ J J J H J Q J hr h=>?_)
 ·let⟨F,p,d,k,us,ds,rfl,_,_,tus,⟨b,g,rfl,_⟩,_⟩:=h;let⟨u1,u2,rfl,_,_⟩:=g6 tus;rfl
 ·let⟨F,p,d,k,us,ds,rfl,hF,kp,tus,⟨b,g,rfl,hb,hg,ok⟩,told⟩:=h;let⟨u1,u2,rfl,tu1,tu2⟩:=g6 tus;have kp0:=kp;let⟨⟨dx,gg,l,ug,ul,e1,g1,e2,t2,g3,e3,t3⟩,kvs,e4,kv⟩:=kp;have fk:=ok.few;have lk:(F4 k.kws).length<64:=by unfold F4;rw[B7];omega
  exists _,(C9 (G0 (B3 il (hr.mono DD) rfl (T.cY.trans T.bB.m) T.bB.F.kp im .nil A7 (A3 (pmG (pv 0) T.ae T.aA (A65 T) hr) (A3 (pv 1) (A3 (pv 2) A4 A0) A0) C6))))
  ac_nf
  refine⟨_,rfl,p,dx,_,rfl,e1,S4 KK,F,p,d,k,[],[],rfl,hF,kp0,.nil,⟨rfl,lk⟩,λr v k' H1 po kp1 tv fr J=>?_⟩;let⟨rfl,rfl⟩:=po;have sp1:∀{u:V}{c:Sp2},ThV TT0 H u (Q0 c)->ThV TT0 H1 u (Q0 c):=λ{u c} tc=>by
   let⟨a,us,rfl,_,e,tu⟩:=y8 (show ThV TT0 H u (.tuple ([((c.1:Nat):Int),c.2].map PyData.int)) from tc);exact .tup trivial (fr _ _ e (W3 kp0 e).1 (W3 kp0 e).2) (B9t tu)
  refine⟨_,rfl,_,rfl,Z1 (E:=E0) (λd=>∃o,A69 k'.m (wsF k'.kws) b g o/\d=oD o) (.cons tv.any (.cons (sp1 tu1) (.cons (sp1 tu2) .nil))) ⟨k'.m,wsF k'.kws,b,g,rfl,ok.land,hb.1,hg.1,hb.2.1,hb.2.2,hg.2.1,hg.2.2,λM hM=>⟨λhn=>⟨none,⟨M,hM,.inl ⟨rfl,hn⟩⟩,rfl⟩,λS a1 a2 a3 a4=>⟨some S,⟨M,hM,.inr ⟨S,rfl,a1,a2,a3,a4⟩⟩,rfl⟩⟩⟩ λd2 v2 H2 hd2 tv2 s2=>?_⟩;let⟨o,ho,rfl⟩:=hd2;exact told _ _ _ ⟨b,g,o,rfl,ho,rfl⟩ (kp1.same s2) tv2 λb o e n1 n2=>s2 _ _ (fr _ _ e n1 n2)
def oV:Option Int->V
 | none=>.non
 | some n=>.int n
theorem E1r {F:Addr->Prop}{H:Hp}:∀o:Option Int,ThV F H (oV o) (oD o)
 | none=>.non
 | some n=>.int n
theorem A7a {F:Addr->Prop}{H:Hp}:∀t:Tb,C3 F H (t.map oV) (E2 t)
 | []=>.nil
 | o::t=>.cons (E1r o) (A7a t)
theorem B0u {F:Addr->Prop}{H:Hp}:∀{t:Tb}{us:!V},C3 F H us (E2 t)->us=t.map oV
 | [],_,h=>by cases h;rfl
 | o::t,_,h=>by
  cases h with
  | cons x r=>
   rw[B0u r,K9];cases o with
   | none=>cases x;rfl
   | some n=>cases x;rfl
theorem B9z:∀{a b:Tb},E2 a=E2 b->a=b
 | [],[],_=>rfl
 | [],_::_,h=>by cases h
 | _::_,[],h=>by cases h
 | x::a,y::b,h=>by
  injection h with h1 h2
  have e:x=y:=by
   cases x with
   | none=>cases y with
    | none=>rfl
    | some _=>cases h1
   | some u=>cases y with
    | none=>cases h1
    | some v=>cases h1;rfl
  rw[e,B9z h2]
theorem E1s {x x':Int}{w w':Wy}(h:R8.args (.lay x w)=R8.args (.lay x' w')):x=x'/\w=w':=by
 let⟨a,b,c⟩:=w;let⟨a',b',c'⟩:=w';injection h with h1 h
 injection h with h2 h
 injection h with h3 h
 injection h with h4 h
 have h1:=PyData.int.inj h1;have h2:((a:Nat):Int)=((a':Nat):Int):=PyData.int.inj h2;have h3:((b:Nat):Int)=((b':Nat):Int):=PyData.int.inj h3;have h4:c=c':=PyData.int.inj h4;have h2:a=a':=by omega
 have h3:b=b':=by omega
 exact⟨h1,by rw[h2,h3,h4]⟩
def R8.os:R8->!(Option Int)
 | .lay x w=>[some x,some ((w.1:Nat):Int),some ((w.2.1:Nat):Int),some w.2.2]
 | .lift x=>[some x]
 | .turn x c=>[some x,some c]
 | .refill s=>[some s]
 | .aim g=>g
def E1t (k:Kst)(dd:R8)(k':Kst)(t:Str):Prop:=∃b,b9 (Q1 k dd).m (Q1 k dd).st (Q1 k dd).g (Q1 k dd).kws b/\k'={ Q1 k dd with low:=b }/\t=mvW (A1m b k.low) (A1m k.low b)
def A09 (C:Addr)(pre:Kst->!(Option Int)->Prop)(post:Kst->!(Option Int)->Kst->Str->Prop):Sp:=λvs H Q J=>∃(F:Addr->Prop)(p d l:Addr)(k:Kst)(os:!(Option Int)),vs=[.ref p,.ref l]/\(∀b,H b=none->F b)/\J1 F C H p d k/\H l=some (.lst (os.map oV))/\pre k os/\
 ∀k' t H',post k os k' t->J1 F C H' p d k'->(∀b o,H b=some o->b≠p->b≠d->H' b=some o)->Q (.str t) H'
def A1o (D:R8->Prop)(k:Kst)(os:!(Option Int)):Prop:=∃dd,D dd/\os=dd.os/\KOk k.m k.st k.g k.kws/\b9 k.m k.st k.g k.kws k.low/\A66 k dd
def j0 (D:R8->Prop)(k:Kst)(os:!(Option Int))(k':Kst)(t:Str):Prop:=∃dd,D dd/\os=dd.os/\E1t k dd k' t
theorem C6x {t o:Tb}(h:t.length<=12):(∀n∈A1m t o,n<12)/\(A1m t o).length<=12:=by
 constructor
 ·intro n hn;have:=A2d.mp (B05.mp hn).1;omega
 ·have:=C0y (λp=>not (A89 (gt o p) (gt t p))) (U2 t.length);rw[m5] at this;exact M0 this h
theorem B0v {F:Addr->Prop}{C:Addr}{H H1:Hp}{p d:Addr}{k k1 k':Kst}{v:V}{r:PyData}{Q:VK}{post:Kst->Str->Prop}(hm:k1.m<=12)(l0:k.low.length=k1.m)(mo:B9u k1 k.low r k')(kp:J1 F C H1 p d k')(tv:ThV TT0 H1 v r)(fr:∀b o,H b=some o->b≠p->b≠d->H1 b=some o)
  (hp:∀b,b9 k1.m k1.st k1.g k1.kws b->k'={ k1 with low:=b }->post k' (mvW (A1m b k.low) (A1m k.low b))) (told:∀t H',post k' t->J1 F C H' p d k'->(∀b o,H b=some o->b≠p->b≠d->H' b=some o)->Q (.str t) H'):C5q [v] H1 Q E0:=by
 let⟨b,lr,rfl,rfl⟩:=mo;have lb:=lr.tab.len;let⟨a1,a2⟩:=C6x (t:=b) (o:=k.low) (OO);let⟨b1,b2⟩:=C6x (t:=k.low) (o:=b) (OO);exact⟨v,_,_,rfl,tv,a1,b1,a2,b2,λH' s=>told _ H' (hp b lr rfl) (kp.same s) λb' o e n1 n2=>s _ _ (fr b' o e n1 n2)⟩
theorem E1u:FK P w base 12 T.dI (A09 T.ac (A1o A4r) (j0 A4r)):=by
 refine T.dI.F.ok D6f (λJ H J J h=>?_) (λJ J J J H J Q J hr h=>?_)
 ·let⟨F,p,d,l,k,os,rfl,_⟩:=h;rfl
 ·let⟨F,p,d,l,k,os,rfl,hF,kp,el,⟨dd,⟨x,w0,rfl⟩,rfl,ok,lr,dok⟩,told⟩:=h;have kp0:=kp;let⟨⟨dx,g,l1,ug,ul,e1,g1,e2,t2,g3,e3,t3⟩,kvs,e4,kv⟩:=kp;exists _,(C9 (G0 (pcF T.ai (B0m T) hr (A3 (pmF (pv 0) T.ae T.dS (D96 T) hr (A3 (E6 G8 (pv 1) B4) (A3 (E6 G8 (pv 1) B4) (A3 (E6 G8 (pv 1) B4) (A3 (E6 G8 (pv 1) B4) A4 B0) B0) B0) B0) (hst:=B0)) A4 C6))))
  ac_nf
  refine⟨_,rfl,p,dx,_,rfl,e1,S4 KK,_,rfl,l,_,0,_,rfl,rfl,SqL.of el,rfl,_,rfl,l,_,1,_,rfl,rfl,SqL.of el,rfl,_,rfl,l,_,2,_,rfl,rfl,SqL.of el,rfl,_,rfl,l,_,3,_,rfl,rfl,SqL.of el,rfl,F,p,d,k,_,_,rfl,hF,kp0,.cons (.int _) (.cons (.int _) (.cons (.int _) (.cons (.int _) .nil))),⟨_,⟨_,_,rfl⟩,rfl,ok,lr.tab.len,dok⟩,λr v k' H1 po kp1 tv fr ap=>?_⟩;let⟨_,⟨x',w0',rfl⟩,e0,mo⟩:=po;let⟨rfl,rfl⟩:=E1s e0;exact B0v (post:=λk' t=>j0 A4r k _ k' t) (show (Q1 k (.lay x w0)).m<=12 from ok.m2) lr.tab.len mo kp1 tv.any fr (λb hb e=>⟨_,⟨_,_,rfl⟩,rfl,b,hb,e,rfl⟩) λt H' po kp' fr'=>told _ t H' po kp' fr'
theorem E1v:FK P w base 12 T.cN (A09 T.ac (A1o A4s) (j0 A4s)):=by
 refine T.cN.F.ok D6g (λJ H J J h=>?_) (λJ J J J H J Q J hr h=>?_)
 ·let⟨F,p,d,l,k,os,rfl,_⟩:=h;rfl
 ·let⟨F,p,d,l,k,os,rfl,hF,kp,el,⟨dd,⟨x,rfl⟩,rfl,ok,lr,dok⟩,told⟩:=h;have kp0:=kp;let⟨⟨dx,g,l1,ug,ul,e1,g1,e2,t2,g3,e3,t3⟩,kvs,e4,kv⟩:=kp;exists _,(C9 (G0 (pcF T.ai (B0m T) hr (A3 (pmF (pv 0) T.ae T.dl (D97 T) hr (A3 (E6 G8 (pv 1) B4) A4 B0) (hst:=B0)) A4 C6))))
  ac_nf
  refine⟨_,rfl,p,dx,_,rfl,e1,S4 KK,_,rfl,l,_,0,_,rfl,rfl,SqL.of el,rfl,F,p,d,k,_,_,rfl,hF,kp0,.cons (.int _) .nil,⟨_,⟨_,rfl⟩,rfl,ok,lr.tab.len,dok⟩,λr v k' H1 po kp1 tv fr ap=>?_⟩;let⟨_,⟨x',rfl⟩,e0,mo⟩:=po;cases e0;exact B0v (post:=λk' t=>j0 A4s k _ k' t) (show (Q1 k (.lift x)).m<=12 from ok.m2) lr.tab.len mo kp1 tv.any fr (λb hb e=>⟨_,⟨_,rfl⟩,rfl,b,hb,e,rfl⟩) λt H' po kp' fr'=>told _ t H' po kp' fr'
theorem E1w:FK P w base 12 T.cO (A09 T.ac (A1o A4t) (j0 A4t)):=by
 refine T.cO.F.ok D6h (λJ H J J h=>?_) (λJ J J J H J Q J hr h=>?_)
 ·let⟨F,p,d,l,k,os,rfl,_⟩:=h;rfl
 ·let⟨F,p,d,l,k,os,rfl,hF,kp,el,⟨dd,⟨x,c,rfl⟩,rfl,ok,lr,dok⟩,told⟩:=h;have kp0:=kp;let⟨⟨dx,g,l1,ug,ul,e1,g1,e2,t2,g3,e3,t3⟩,kvs,e4,kv⟩:=kp;exists _,(C9 (G0 (pcF T.ai (B0m T) hr (A3 (pmF (pv 0) T.ae T.dr (D98 T) hr (A3 (E6 G8 (pv 1) B4) (A3 (E6 G8 (pv 1) B4) A4 B0) B0) (hst:=B0)) A4 C6))))
  ac_nf
  refine⟨_,rfl,p,dx,_,rfl,e1,S4 KK,_,rfl,l,_,0,_,rfl,rfl,SqL.of el,rfl,_,rfl,l,_,1,_,rfl,rfl,SqL.of el,rfl,F,p,d,k,_,_,rfl,hF,kp0,.cons (.int _) (.cons (.int _) .nil),⟨_,⟨_,_,rfl⟩,rfl,ok,lr.tab.len,dok⟩,λr v k' H1 po kp1 tv fr ap=>?_⟩;let⟨_,⟨x',c',rfl⟩,e0,mo⟩:=po;cases e0;exact B0v (post:=λk' t=>j0 A4t k _ k' t) (show (Q1 k (.turn x c)).m<=12 from ok.m2) lr.tab.len mo kp1 tv.any fr (λb hb e=>⟨_,⟨_,_,rfl⟩,rfl,b,hb,e,rfl⟩) λt H' po kp' fr'=>told _ t H' po kp' fr'
theorem E1x:FK P w base 12 T.cg (A09 T.ac (A1o A4u) (j0 A4u)):=by
 refine T.cg.F.ok D6i (λJ H J J h=>?_) (λJ J J J H J Q J hr h=>?_)
 ·let⟨F,p,d,l,k,os,rfl,_⟩:=h;rfl
 ·let⟨F,p,d,l,k,os,rfl,hF,kp,el,⟨dd,⟨x,rfl⟩,rfl,ok,lr,dok⟩,told⟩:=h;have kp0:=kp;let⟨⟨dx,g,l1,ug,ul,e1,g1,e2,t2,g3,e3,t3⟩,kvs,e4,kv⟩:=kp;exists _,(C9 (G0 (pcF T.ai (B0m T) hr (A3 (pmF (pv 0) T.ae T.cK (E0a T) hr (A3 (E6 G8 (pv 1) B4) A4 B0) (hst:=B0)) A4 C6))))
  ac_nf
  refine⟨_,rfl,p,dx,_,rfl,e1,S4 KK,_,rfl,l,_,0,_,rfl,rfl,SqL.of el,rfl,F,p,d,k,_,_,rfl,hF,kp0,.cons (.int _) .nil,⟨_,⟨_,rfl⟩,rfl,ok,lr.tab.len,dok⟩,λr v k' H1 po kp1 tv fr ap=>?_⟩;let⟨_,⟨x',rfl⟩,e0,mo⟩:=po;cases e0;exact B0v (post:=λk' t=>j0 A4u k _ k' t) (show (Q1 k (.refill x)).m<=12 from ok.m2) lr.tab.len mo kp1 tv.any fr (λb hb e=>⟨_,⟨_,rfl⟩,rfl,b,hb,e,rfl⟩) λt H' po kp' fr'=>told _ t H' po kp' fr'
theorem E1y:FK P w base 12 T.dJ (A09 T.ac (A1o A4v) (j0 A4v)):=by
 refine T.dJ.F.ok D6j (λJ H J J h=>?_) (λJ J J J H J Q J hr h=>?_)
 ·let⟨F,p,d,l,k,os,rfl,_⟩:=h;rfl
 ·let⟨F,p,d,l,k,os,rfl,hF,kp,el,⟨dd,⟨g0,rfl⟩,rfl,ok,lr,dok⟩,told⟩:=h;have kp0:=kp;let⟨⟨dx,g,l1,ug,ul,e1,g1,e2,t2,g3,e3,t3⟩,kvs,e4,kv⟩:=kp;exists _,(C9 (G0 (pcF T.ai (B0m T) hr (A3 (pmF (pv 0) T.ae T.dU (E0b T) hr (A3 (pv 1) A4 A0) (hst:=A0)) A4 C6))))
  ac_nf
  refine⟨_,rfl,p,dx,_,rfl,e1,S4 KK,_,rfl,F,p,d,k,_,_,rfl,hF,kp0,.cons (.lst trivial el (A7a os)) .nil,⟨_,⟨_,rfl⟩,rfl,ok,lr.tab.len,dok⟩,λr v k' H1 po kp1 tv fr ap=>?_⟩;let⟨_,⟨g0',rfl⟩,e0,mo⟩:=po;cases B9z (PyData.list.inj (A1f.inj e0).1);exact B0v (post:=λk' t=>j0 A4v k _ k' t) (show (Q1 k (.aim os)).m<=12 from ok.m2) lr.tab.len mo kp1 tv.any fr (λb hb e=>⟨_,⟨_,rfl⟩,rfl,b,hb,e,rfl⟩) λt H' po kp' fr'=>told _ t H' po kp' fr'
def tbW (t:Tb):Str:=L1 (t.map lvW)
theorem E1z:∀o:Option Int,wrT (oV o)=lvW o
 | none=>rfl
 | some _=>rfl
theorem B0w (t:Tb):L1 ((t.map oV).map wrT)=tbW t:=by
 unfold tbW;rw[Q8];congr 1;exact B1m λo J=>E1z o
theorem B0x {m:Nat}{st:Int}{t:Tb}(h:F3 m st t)(h1:st<=100000000000000000000):∀u∈t.map oV,A85 u:=by
 intro u hu;let⟨o,ho,rfl⟩:=L0.mp hu;cases o with
 | none=>trivial
 | some n=>let⟨p,hp⟩:=C8p ho;have:=h.bd p n (by unfold gt;rw[hp];rfl);show n.natAbs<10^60;exact A2f (show n.natAbs<=100000000000000000000 by omega) (DD)
def A1a (kws:Kw):Str:=L1 (("ways" : Str)::(srt (F4 kws)).map λx=>A27 x ((((J7 kws x).getD (0,0,0)).1:Nat):Int) ((((J7 kws x).getD (0,0,0)).2.1:Nat):Int) ((J7 kws x).getD (0,0,0)).2.2)
def B35 (k:Kst)(os:!(Option Int)):Prop:=os=[]/\KOk k.m k.st k.g k.kws/\b9 k.m k.st k.g k.kws k.low
def C6y (k:Kst)(_:!(Option Int))(k':Kst)(t:Str):Prop:=k'=k/\t=tbW k.low
def C6z (k:Kst)(_:!(Option Int))(k':Kst)(t:Str):Prop:=k'=k/\t=A1a k.kws
theorem E10 {K:A8}{a0:Addr}{xs:!V}{nn j:Nat}{σ:Lake.St}{te:CA->TE}{H1:Hp}{Q:!V->Hp->Prop}(ws:!Str)(hl:xs.length=ws.length)(hz:xs.length<sizeLine)(hk:∀H,Same H1 H->SqL K H a0 xs)
  (hs:∀(i:Nat)(x:V)(w:Str),xs[i]?=some x->ws[i]?=some w->∀H,Same H1 H->∀(a:CA)(R:V->Hp->Prop),(∀H',Same H H'->R (.str w) H')->te a ((T7 nn j σ).set j (some x)) H R)
  (hd:∀H,Same H1 H->Q (ws.map V.str) H):A2s σ nn j (λJ=>A00) te (Itl K a0) H1 Q:=by
 refine A7x (λi ys Hn=>Same H1 Hn/\ys=(ws.take i).map V.str) hz ⟨λJ J z=>z,rfl⟩ ?_ ?_ ?_
 ·rintro i ys Hn _ ⟨s,rfl⟩;exact⟨by rw[B7,X5];exact B1j _ _,hk _ s⟩
 ·rintro i x ys Hn hx ⟨s,rfl⟩ ca;let⟨hi,_⟩:=X4.mp hx;obtain⟨w,hw⟩:∃w,ws[i]?=some w:=⟨_,M8 OO⟩;unfold A00;refine L4 (hs i x w hx hw Hn s ca _ λH' s'=>⟨s.tr s',?_⟩);rw[A1t,hw,L7];rfl
 ·rintro ys Hn ⟨s,rfl⟩;rw[hl,A1v];exact hd Hn s
theorem C60 {x a b c:Int}(hx:x.natAbs<10^60)(ha:a.natAbs<10^60)(hb:b.natAbs<10^60)(hc:c.natAbs<10^60):(A27 x a b c).length<=400:=by
 have l0:Str.length Str.empty=0:=rfl;have l1:Str.length (Str.ofString ":")=1:=by decide
 have l2:Str.length (Str.ofString ">")=1:=by decide
 have l3:=R6 hx;have l4:=R6 ha;have l5:=R6 hb;have l6:=R6 hc;unfold A27;simp only[b8,l0,l1,l2];omega
theorem C61 {m:Nat}{st:Int}{g:Tb}{kws:Kw}(ok:KOk m st g kws){x:Int}(hx:x∈F4 kws):∃w,J7 kws x=some w/\x.natAbs<10^60/\((w.1:Nat):Int).natAbs<10^60/\((w.2.1:Nat):Int).natAbs<10^60/\w.2.2.natAbs<10^60:=by
 let⟨w,hw⟩:=A64 hx;let⟨⟨a,b⟩,c⟩:=ok.way _ (A63 hw);have h1:w.1<m:=c.st;have h2:w.2.1<m:=c.en;have h3:-∅<=w.2.2:=c.lo;have h4:w.2.2<=∅:=c.hi;have h5:=ok.m2;have key:∀{n:Int},n.natAbs<=∅->n.natAbs<10^60:=λh=>A2f h (DD);exact⟨w,hw,key OO,key OO,key OO,key OO⟩
theorem E11:FK P w base 3 T.aK (A09 T.ac B35 C6y):=by
 refine T.aK.F.ok D6k (λJ H J J h=>?_) (λJ J J J H J Q J hr h=>?_)
 ·let⟨F,p,d,l,k,os,rfl,_⟩:=h;rfl
 ·let⟨F,p,d,l,k,os,rfl,hF,kp,el,⟨rfl,ok,lr⟩,told⟩:=h;have kp0:=kp;let⟨⟨dx,g,l1,ug,ul,e1,g1,e2,t2,g3,e3,t3⟩,kvs,e4,kv⟩:=kp;exists _,(C9 (G0 (pcF T.ay (B9j T) hr (A3 (pmG (pv 0) T.ae T.cX (D92 T) hr) A4 C6))))
  ac_nf
  refine⟨_,rfl,p,dx,_,rfl,e1,S4 KK,F,p,d,k,[],[],rfl,hF,kp0,.nil,rfl,λr v k' H1 po kp1 tv fr ap=>?_⟩;let⟨rfl,rfl⟩:=po;let⟨l2,u2,rfl,_,el2,tu⟩:=P7 tv;cases B0u tu;have tb:=lr.tab;have ll:=tb.len;refine⟨l2,_,rfl,el2,B0x tb ok.s1,by rw[B7];have:=ok.m2;omega,λH' s'=>told _ _ H' ⟨rfl,B0w _⟩ (kp1.same s') λb o e n1 n2=>s' _ _ (fr _ _ e n1 n2)⟩
theorem E12:FK P w base 3 T.aW (A09 T.ac B35 C6z):=by
 refine T.aW.F.ok D6m (λJ H J J h=>?_) (λJ J J s H J Q J hr h=>?_)
 ·let⟨F,p,d,l,k,os,rfl,_⟩:=h;rfl
 ·let⟨F,p,d,l,k,os,rfl,hF,kp,el,⟨rfl,ok,lr⟩,told⟩:=h;have kp0:=kp;let⟨⟨dx,g,l1,ug,ul,e1,g1,e2,t2,g3,e3,t3⟩,kvs,e4,kv⟩:=kp;have fk:=ok.few;have lk:(F4 k.kws).length<64:=by unfold F4;rw[B7];omega
  refine⟨_,(C9 (G0 (pcF T.bb (B9i T) hr (A3 (F5 A5j (T0 (A3 F9 A4 F2)) (W9 (N1.new (N:=["keeper","values"]) (osc:=B5 B3e) KK) rfl (U9 (pmG (pv 0) T.ae T.dt (E1g T) hr)) (λJ=>m9) (λJ=>(pcF T.cu (D7s T) hr (A3 (pv 2) A4 A0))))) A4 G6)))),?_⟩
  ac_nf
  refine⟨SZ (n:=1),λp1 n1=>?_⟩;have s1:=Same.upd (o:=.lst [V.str (Str.ofString "ways")]) n1;have e5:upd H p1 (.lst [V.str (Str.ofString "ways")]) p1=some (.lst [V.str (Str.ofString "ways")]):=B9;obtain⟨H1,hH1⟩:∃H1,H1=upd H p1 (.lst [V.str (Str.ofString "ways")]):=⟨_,rfl⟩;rw[<-hH1] at s1 e5 ⊢;refine⟨_,rfl,p,dx,_,rfl,s1 _ _ e1,S4 KK,F,p,d,k,[],[],rfl,(λb hb=>hF b (s1.early hb)),kp0.same s1,.nil,⟨rfl,lk⟩,λr v k' H2 po kp2 tv fr ap=>?_⟩;let⟨rfl,rfl⟩:=po;let⟨l2,u2,rfl,_,el2,tu⟩:=P7 tv;have tl:=tu.len;have fr1:=fr _ _ e5 (X3 (kp0.same s1) e5).1 (X3 (kp0.same s1) e5).2;exists l2,rfl,⟨_,SqL.of el2⟩;have hsl:(srt (F4 k'.kws)).length<64:=by rw[(A0s _).length_eq];exact lk
  refine E10 ((srt (F4 k'.kws)).map λx=>A27 x ((((J7 k'.kws x).getD (0,0,0)).1:Nat):Int) ((((J7 k'.kws x).getD (0,0,0)).2.1:Nat):Int) ((J7 k'.kws x).getD (0,0,0)).2.2) (by rw[tl,B7];unfold A3c;rw[B7]) (by rw[tl];unfold A3c;rw[B7,sizeLine_eq];omega) (λHx s=>SqL.of (s _ _ el2)) (λi x w hx hw Hx s ca R hR=>?_) λH3 s3 p2 n2=>?_
  ·rw[M2] at hw;let⟨y,hy,rfl⟩:=A1e.mp hw;let⟨dd,hdd,tx⟩:=B3s tu hx;unfold A3c at hdd;rw[M2,hy] at hdd;cases hdd;let⟨w0,hw0,b1,b2,b3,b4⟩:=C61 ok ((A0s _).mem_iff.mp (U4 hy));dsimp only at tx hR;rw[hw0] at tx hR;let⟨a,us,rfl,_,ea,tus⟩:=y8 tx;let⟨v1,v2,v3,v4,rfl,t1,t2,t3,t4⟩:=C6l tus;cases t1;cases t2;cases t3;cases t4;exact⟨_,rfl,a,_,_,_,_,rfl,s _ _ ea,b1,b2,b3,b4,hR⟩
  have k3:=s3.tr (Same.upd (o:=.lst (((srt (F4 k'.kws)).map λx=>A27 x ((((J7 k'.kws x).getD (0,0,0)).1:Nat):Int) ((((J7 k'.kws x).getD (0,0,0)).2.1:Nat):Int) ((J7 k'.kws x).getD (0,0,0)).2.2).map V.str)) n2);refine⟨p1,p2,_,_,rfl,rfl,k3 _ _ fr1,B9,M0 (by simp;omega) (show 100<=sizeLine by rw[sizeLine_eq];decide),λp3 n3=>?_⟩;refine⟨p3,("ways" : Str)::(srt (F4 k'.kws)).map λx=>A27 x ((((J7 k'.kws x).getD (0,0,0)).1:Nat):Int) ((((J7 k'.kws x).getD (0,0,0)).2.1:Nat):Int) ((J7 k'.kws x).getD (0,0,0)).2.2,rfl,B9,λw hw=>?_,by simp;omega,λH' s'=>?_⟩
  ·rcases K7.mp hw with rfl | hw
   ·decide
   ·let⟨x,hx,rfl⟩:=L0.mp hw;let⟨w0,hw0,b1,b2,b3,b4⟩:=C61 ok ((A0s _).mem_iff.mp hx);rw[hw0];exact C60 b1 b2 b3 b4
  ·have sA:=k3.tr ((Same.upd n3).tr s');exact told _ _ H' ⟨rfl,rfl⟩ (kp2.same sA) λb o e m1 m2=>sA _ _ (fr _ _ (s1 _ _ e) m1 m2)
def E13 (C:Addr):Sp:=λvs H Q J=>∃(F:Addr->Prop)(p d l:Addr)(k:Kst)(os:Tb),vs=[.ref p,.ref l]/\(∀b,H b=none->F b)/\J1 F C H p d k/\H l=some (.lst (os.map oV))/\KOk k.m k.st k.g k.kws/\F3 k.m k.st os/\∀H',J1 F C H' p d k->Frp p d H H'->Q (.ref l) H'
theorem C62:FK P w base 4 T.bJ (E13 T.ac):=by
 refine T.bJ.F.ok D6d (λJ H J J h=>?_) (λJ J J J H J Q J hr h=>?_)
 ·let⟨F,p,d,l,k,os,rfl,_⟩:=h;rfl
 ·let⟨F,p,d,l,k,os,rfl,hF,kp,el,ok,tb,told⟩:=h;have kp0:=kp;let⟨⟨dx,g,l1,ug,ul,e1,g1,e2,t2,g3,e3,t3⟩,kvs,e4,kv⟩:=kp;have fk:=ok.few;have lk:(F4 k.kws).length<64:=by unfold F4;rw[B7];omega
  refine⟨_,(C0 (N9 (M5 (U8 (W6 (pcF T.au (B31 T) hr (A3 (E6 T5 (pmG (pv 0) T.ae T.aA (A65 T) hr) (cII T.g_MANY)) (A3 (pmG (pv 0) T.ae T.bQ (C6v T) hr) (A3 (pv 1) A4 A0) C6) B0))))
   (C9 Y5)
   M9))
   (C9 (G0 (pv 1)))),?_⟩
  ac_nf
  refine⟨fun σ' H'=>σ'=[some (.ref p),some (.ref l)]/\J1 F T.ac H' p d k/\Frp p d H H',?_,?_⟩
  ·refine⟨_,rfl,p,dx,_,rfl,e1,S4 KK,F,p,d,k,[],[],rfl,hF,kp0,.nil,⟨rfl,lk⟩,λr v k1 H1 po kp1 tv fr ap=>?_⟩;let⟨rfl,rfl⟩:=po;let⟨a,us,rfl,_,ea,tu⟩:=y8 tv;let⟨v1,v2,rfl,t1,t2⟩:=g6 tu;cases t1;have kp1':=kp1;let⟨⟨dx1,g',l',ug',ul',f1,_⟩,_⟩:=kp1;refine⟨a,_,_,_,rfl,rfl,SqT.of ea,rfl,_,rfl,p,dx1,_,rfl,f1,S4 KK,F,p,d,k1,[],[],rfl,(λb hb=>hF b (A2b kp1' fr hb)),kp1',.nil,rfl,λr v k2 H2 po kp2 tv2 fr2 ap2=>?_⟩;let⟨rfl,rfl⟩:=po;cases tv2;have nl:=X3 kp0 el;have el2:=fr2 _ _ (fr _ _ el nl.1 nl.2) nl.1 nl.2;have m2:=ok.m2;refine⟨_,rfl,Z1 (E:=E0) (λd=>d=.bool true) (.cons (.int _) (.cons (.int _) (.cons (.lst trivial el2 (A7a os)) .nil))) ⟨os,k2.m,k2.st,rfl,OO,tb,rfl⟩ λd' v1 H3 hd t5 s3=>?_⟩;subst hd;cases t5;exact⟨_,rfl,G5 ⟨rfl,kp2.same s3,λb o e n1 n2=>s3 _ _ (fr2 _ _ (fr _ _ e n1 n2) n1 n2)⟩⟩
  ·rintro σ' H' ⟨rfl,kp',fr'⟩;exact⟨_,rfl,told H' kp' fr'⟩
def C63 (k:Kst)(os:!(Option Int)):Prop:=KOk k.m k.st k.g k.kws/\F3 k.m k.st os
def C64 (k:Kst)(os:!(Option Int))(k':Kst)(t:Str):Prop:=k'=k/\∃t0,S1 k.m (wsF k.kws) k.st os t0/\t=tbW t0
theorem E14:FK P w base 10 T.az (A09 T.ac C63 C64):=by
 refine T.az.F.ok D6l (λJ H J J h=>?_) (λJ J J J H J Q J hr h=>?_)
 ·let⟨F,p,d,l,k,os,rfl,_⟩:=h;rfl
 ·let⟨F,p,d,l,k,os,rfl,hF,kp,el,⟨ok,tb⟩,told⟩:=h;have kp0:=kp;let⟨⟨dx,g,l1,ug,ul,e1,g1,e2,t2,g3,e3,t3⟩,kvs,e4,kv⟩:=kp;have nl:=X3 kp0 el;exists _,(C9 (G0 (pcF T.ay (B9j T) hr (A3 (pmF (pv 0) T.ae T.cA (E1p T) hr (A3 (pcF T.bJ (C62 T) hr (A3 (pv 0) (A3 (pv 1) A4 A0) A0)) A4 C6) (hst:=C6)) A4 C6))))
  ac_nf
  refine⟨_,rfl,p,dx,_,rfl,e1,S4 KK,_,rfl,_,rfl,F,p,d,l,k,os,rfl,hF,kp0,el,ok,tb,λH1 kp1 fr=>?_⟩;have el1:=fr _ _ el nl.1 nl.2;refine⟨F,p,d,k,_,_,rfl,(λb hb=>hF b (A2b kp1 fr hb)),kp1,.cons (.lst trivial el1 (A7a os)) .nil,⟨os,rfl,tb,ok⟩,λr v k2 H2 po kp2 tv fr2 ap=>?_⟩;let⟨rfl,b0,t0,hb0,ht,rfl⟩:=po;cases B9z (PyData.list.inj (A1f.inj hb0).1);let⟨l2,u2,rfl,_,el2,tu⟩:=P7 tv;cases B0u tu;have m2:=ok.m2;have tl:=ht.tab.len;refine⟨l2,_,rfl,el2,B0x ht.tab ok.s1,by rw[B7];omega,λH' s'=>told _ _ H' ⟨rfl,t0,ht,B0w _⟩ (kp2.same s') λb o e n1 n2=>s' _ _ (fr2 _ _ (fr _ _ e n1 n2) n1 n2)⟩
def C65 (k:Kst)(os:!(Option Int)):Prop:=KOk k.m k.st k.g k.kws/\F3 k.m k.st os/\F3 k.m ∅ os
def ovW:OV->Str
 | .no=> "-"
 | .any=> "any"
 | .num x=>itx x
def ovV:OV->V
 | .no=>.non
 | .any=>.str "any"
 | .num x=>.int x
theorem E15:∀o:OV,wrT (ovV o)=ovW o
 | .no=>rfl
 | .any=>rfl
 | .num _=>rfl
theorem C66 {F:Addr->Prop}{H:Hp}:∀{t:!OV}{us:!V},C3 F H us (t.map ovD)->us=t.map ovV
 | [],_,h=>by cases h;rfl
 | o::t,_,h=>by
  cases h with
  | cons x r=>
   rw[C66 r,K9];cases o with
   | no=>cases x;rfl
   | any=>cases x;rfl
   | num n=>cases x;rfl
theorem E16 {m:Nat}{ws:!Wy}{b t:Tb}{G M:Int}(o:Opn m ws b G M t)(hG:G<=∅)(ok:J2 m ws):∀u∈(t.map λo=>opV (G+mtI m M) o).map ovV,A85 u:=by
 intro u hu;rw[Q8] at hu;let⟨q,hq,rfl⟩:=L0.mp hu;have m1:=(A9d ok o.hM).2;have m0:=(A9d ok o.hM).1;have g0:=o.g0;cases q with
 | none=>trivial
 | some n=>
  let⟨p,hp⟩:=C8p hq;have:=o.ht.tab.bd p n (by unfold gt;rw[hp];rfl);show A85 (ovV (opV (G+mtI m M) (some n)));by_cases c:G+mtI m M<n
  ·rw[E06 c];show Str.length "any" <=60;decide
  ·rw[E07 c];show n.natAbs<10^60;exact A2f (show n.natAbs<=100000000000000000000 by omega) (DD)
def B0y (m:Nat)(ws:!Wy)(b:Tb)(vs:!OV):Prop:=∃G M t0,A3b b G/\Opn m ws b G M t0/\vs=t0.map λo=>opV (G+mtI m M) o
def C67 (k:Kst)(os:!(Option Int))(k':Kst)(t:Str):Prop:=k'=k/\∃vs,B0y k.m (wsF k.kws) os vs/\t=L1 (vs.map ovW)
theorem E17:FK P w base 10 T.bj (A09 T.ac C65 C67):=by
 refine T.bj.F.ok C5a (λvs H J J h=>?_) (λJ J J J H vs Q J hr h=>?_)
 ·let⟨F,p,d,l,k,os,rfl,_⟩:=h;rfl
 ·let⟨F,p,d,l,k,os,rfl,hF,kp,el,⟨ok,tb,tb18⟩,told⟩:=h;have kp0:=kp;let⟨⟨dx,g,l1,ug,ul,e1,g1,e2,t2,g3,e3,t3⟩,kvs,e4,kv⟩:=kp;have nl:=X3 kp0 el;have fk:=ok.few;have lk:(F4 k.kws).length<64:=by unfold F4;rw[B7];omega
  refine⟨_,(C0 (pS (i:=2) C5a.nd (pcF T.bJ (C62 T) hr (A3 (pv 0) (A3 (pv 1) A4 A0) A0)))
   (C0 (N9 (M5 (U8 (W6 (pcF T.au (B31 T) hr (A3 (K5 V8 rfl T.aP T9 (A3 (pv 2) A4 A0)) (A3 (F5 V7 B4 B4) (A3 (pv 2) A4 A0) G6) C6))))
   (C9 Y5)
   M9))
   (C9 (G0 (pcF T.ay (B9j T) hr (A3 (pcF T.bX (E1c T) hr (A3 (pmG (pv 0) T.ae T.aA (A65 T) hr) (A3 (pv 2) A4 A0) C6)) A4 C6)))))),?_⟩
  ac_nf
  refine⟨_,rfl,_,rfl,F,p,d,l,k,os,rfl,hF,kp0,el,ok,tb,λH1 kp1 fr=>?_⟩;have el1:=fr _ _ el nl.1 nl.2;dsimp only[K1,K6];have m2:=ok.m2;have tl:=tb.len;refine⟨fun σ' H'=>σ'=[some (.ref p),some (.ref l),some (.ref l)]/\Same H1 H',?_,?_⟩
  ·exists _,rfl,l,_,rfl,.inl (SqL.of el1),_,_,rfl,rfl,⟨DD,DD,DD⟩,_,rfl;refine Z1 (E:=E0) (λd=>d=.bool true) (.cons (.int _) (.cons (.int _) (.cons (.lst trivial el1 (A7a os)) .nil))) ⟨os,k.m,∅,by rw[B7,tl];rfl,OO,tb18,rfl⟩ λd' v1 H3 hd t5 s3=>?_;subst hd;cases t5;exact⟨_,rfl,G5 ⟨rfl,s3⟩⟩
  ·rintro σ' H2 ⟨rfl,s2⟩;have kp2:=kp1.same s2;have kp2':=kp2;let⟨⟨dx1,g',l',ug',ul',f1,_⟩,_⟩:=kp2;have fr2:Frp p d H H2:=λb o e n1 n2=>s2 _ _ (fr _ _ e n1 n2);refine⟨_,rfl,p,dx1,_,rfl,f1,S4 KK,F,p,d,k,[],[],rfl,(λb hb=>hF b (A2b kp2' fr2 hb)),kp2',.nil,⟨rfl,lk⟩,λr v k3 H3 po kp3 tv fr3 ap=>?_⟩;let⟨rfl,rfl⟩:=po;have el3:=fr3 _ _ (s2 _ _ el1) nl.1 nl.2;refine⟨_,rfl,Z1 (E:=E0) (λd=>∃vs,B0y k3.m (wsF k3.kws) os vs/\d=.list (vs.map ovD)) (.cons tv.any (.cons (C58 (.lst trivial el3 (A7a os))) .nil)) ⟨k3.m,wsF k3.kws,os,rfl,ok.land,tb18,λG M t0 hG ho=>⟨_,⟨G,M,t0,hG,ho,rfl⟩,by rw[Q8];rfl⟩⟩ λd' v1 H4 hd t5 s4=>?_⟩;let⟨vs,hv,rfl⟩:=hd;let⟨l2,u2,rfl,_,el2,tu⟩:=P7 t5;cases C66 tu;let⟨G,M,t0,hG,ho,rfl⟩:=id hv;refine⟨l2,_,rfl,el2,E16 ho (hG.hi tb18 DD) ok.land,by rw[B7,B7,ho.ht.tab.len];omega,λH' s'=>told _ _ H' ⟨rfl,_,hv,?_⟩ ((kp3.same s4).same s') λb o e n1 n2=>s' _ _ (s4 _ _ (fr3 _ _ (fr2 _ _ e n1 n2) n1 n2))⟩;rw[Q8];congr 1;exact B1m λo J=>E15 o
def E18 (C:Addr):Sp:=λvs H Q J=>∃(F:Addr->Prop)(p d:Addr)(k:Kst)(b:Sp2)(most:Int),vs=[.ref p,.int ((b.1:Nat):Int),.int b.2,.int most]/\(∀b,H b=none->F b)/\J1 F C H p d k/\KOk k.m k.st k.g k.kws/\b.1<k.m/\0<=b.2/\b.2<=most/\
 ∀t H',H' t=some (.tup [.int ((b.1:Nat):Int),.int b.2])->J1 F C H' p d k->Frp p d H H'->Q (.ref t) H'
theorem C68:FK P w base 4 T.aH (E18 T.ac):=by
 refine T.aH.F.ok D6e (λJ H J J h=>?_) (λJ J J s H J Q J hr h=>?_)
 ·let⟨F,p,d,k,b,most,rfl,_⟩:=h;rfl
 ·let⟨F,p,d,k,b,most,rfl,hF,kp,ok,hb,b0,b1,told⟩:=h;have kp0:=kp;let⟨⟨dx,g,l1,ug,ul,e1,g1,e2,t2,g3,e3,t3⟩,kvs,e4,kv⟩:=kp;have fk:=ok.few;have lk:(F4 k.kws).length<64:=by unfold F4;rw[B7];omega
  refine⟨_,(C0 (N9 (M5 (PW.pt (A3p (U8 (W6 (pcF T.av (B9h T) hr (A3 (E6 T5 (pmG (pv 0) T.ae T.aA (A65 T) hr) (cII T.g_MANY)) (A3 (pv 1) A4 A0) B0)))) (A3o (U8 (W6 (pcF T.bg (C6i T) hr (A3 (pv 3) (A3 (pv 2) A4 A0) A0)))))))
   (C9 Y5)
   M9))
   (C9 (G0 (w5 (A3 (pv 1) (A3 (pv 2) A4 A0) A0))))),?_⟩
  ac_nf
  refine⟨fun σ' H'=>σ'=[some (.ref p),some (.int ((b.1:Nat):Int)),some (.int b.2),some (.int most)]/\J1 F T.ac H' p d k/\Frp p d H H',?_,?_⟩
  ·refine⟨_,rfl,p,dx,_,rfl,e1,S4 KK,F,p,d,k,[],[],rfl,hF,kp0,.nil,⟨rfl,lk⟩,λr v k1 H1 po kp1 tv fr ap=>?_⟩;let⟨rfl,rfl⟩:=po;let⟨a,us,rfl,_,ea,tu⟩:=y8 tv;let⟨v1,v2,rfl,t1,t2⟩:=g6 tu;cases t1;exists a,_,_,_,rfl,rfl,SqT.of ea,rfl,_,rfl;refine Z1 (E:=E0) (λd=>d=.bool true) (.cons (.int _) (.cons (.int _) .nil)) ⟨_,_,rfl,by rw[decide_eq_true (show (0:Int)<=((b.1:Nat):Int)/\((b.1:Nat):Int)<((k1.m:Nat):Int) by omega)]⟩ λd' v3 H3 hd t5 s3=>?_;subst hd;cases t5;exists _,rfl;refine G5 ⟨_,rfl,_,rfl,Z1 (E:=E0) (λd=>d=.bool true) (.cons (.int _) (.cons (.int _) .nil)) ⟨_,_,rfl,b0,b1,rfl⟩ λd' v4 H4 hd t6 s4=>?_⟩;subst hd;cases t6;exact⟨_,rfl,G5 ⟨rfl,(kp1.same s3).same s4,λb' o e n1 n2=>s4 _ _ (s3 _ _ (fr _ _ e n1 n2))⟩⟩
  ·rintro σ' H' ⟨rfl,kp',fr'⟩;refine⟨_,rfl,_,rfl,SZ (n:=2),λt ht=>?_⟩;have s:=Same.upd (o:=.tup [.int ((b.1:Nat):Int),.int b.2]) ht;exact told t _ B9 (kp'.same s) λb' o e n1 n2=>s _ _ (fr' _ _ e n1 n2)
theorem C69 {a b:Sp2}(h:Q0 a=Q0 b):a=b:=by
 let⟨x,y⟩:=a;let⟨x',y'⟩:=b;have h:=PyData.tuple.inj h;let⟨h1,h⟩:=A1f.inj h;have h2:=PyData.int.inj (A1f.inj h).1;have h1:((x:Nat):Int)=((x':Nat):Int):=PyData.int.inj h1;rw[show x=x' by omega,show y=y' from h2]
theorem E19 {m:Nat}{ws:!Wy}{b g:Sp2}{n:Int}(ok:J2 m ws)(ob:A0d m b)(og:A0d m g)(h:A69 m ws b g (some n)):n.natAbs<10^60:=by
 let⟨M,hM,h⟩:=h;rcases h with ⟨z,_⟩ | ⟨S,e,s0,s1,_⟩
 ·cases z
 ·cases e;have:=A9d ok hM;have b0:=ob.2;have g0:=og.2;have h1:0<=n:=A0w b0.1 (A0w (by unfold mxI;split <;> omega) s0);have h2:n<=100000000000000000000:=A0w s1 (by unfold mxI;split <;> omega);exact A2f (show n.natAbs<=100000000000000000000 by omega) (DD)
theorem C7a {F:Addr->Prop}{C:Addr}{H:Hp}{p d b:Addr}{k:Kst}(kp:J1 F C H p d k)(h:S3 H b):b≠p/\b≠d:=by
 let⟨⟨dx,g,l,ug,ul,e1,_⟩,kvs,e4,_⟩:=kp;constructor
 ·intro z;subst z;rcases h with h | ⟨xs,h⟩ <;> rw[h] at e1 <;> cases e1
 ·intro z;subst z;rcases h with h | ⟨xs,h⟩ <;> rw[h] at e4 <;> cases e4
def lsW:Option Int->Str
 | none=> "none"
 | some n=>itx n
def C7b (k:Kst)(os:!(Option Int)):Prop:=KOk k.m k.st k.g k.kws/\∃b g:Sp2,os=[some ((b.1:Nat):Int),some b.2,some ((g.1:Nat):Int),some g.2]/\A0d k.m b/\A0d k.m g
def C7c (k:Kst)(os:!(Option Int))(k':Kst)(t:Str):Prop:=k'=k/\∃(b g:Sp2)(o:Option Int),os=[some ((b.1:Nat):Int),some b.2,some ((g.1:Nat):Int),some g.2]/\A69 k.m (wsF k.kws) b g o/\t=lsW o
theorem E2a:FK P w base 12 T.aM (A09 T.ac C7b C7c):=by
 refine T.aM.F.ok B3p (λJ H Q J h=>?_) (λJ J J J H J Q J hr h=>?_)
 ·let⟨F,p,d,l,k,os,rfl,_⟩:=h;rfl
 ·let⟨F,p,d,l,k,os,rfl,hF,kp,el,⟨ok,b,g,rfl,ob,og⟩,told⟩:=h;have kp0:=kp;have nl:=X3 kp0 el;refine⟨_,(C0 (pS (i:=2) B3p.nd (pcF T.aH (C68 T) hr (A3 (pv 0) (A3 (E6 G8 (pv 1) B4) (A3 (E6 G8 (pv 1) B4) (A3 (F5 V7 B4 B4) A4 G6) B0) B0) A0)))
   (C0 (pS (i:=3) B3p.nd (pcF T.aH (C68 T) hr (A3 (pv 0) (A3 (E6 G8 (pv 1) B4) (A3 (E6 G8 (pv 1) B4) (A3 (F5 V7 B4 B4) A4 G6) B0) B0) A0)))
   (C0 (pS (i:=4) B3p.nd (pmF (pv 0) T.ae T.br (E1q T) hr (A3 (pv 2) (A3 (pv 3) A4 A0) A0) (hst:=A0)))
   (C9 (G0 (A7q (P9 t9 (pv 4) A1x (F6 _)) F9 (M6 W7 rfl T.aQ U0 (A3 (pv 4) A4 A0)))))))),?_⟩
  ac_nf
  refine⟨_,rfl,_,rfl,l,_,0,_,rfl,rfl,SqL.of el,rfl,_,rfl,l,_,1,_,rfl,rfl,SqL.of el,rfl,_,_,rfl,rfl,⟨DD,DD,DD⟩,F,p,d,k,b,_,rfl,hF,kp0,ok,ob.1,ob.2.1,A0w ob.2.2 DD,λt1 H1 et1 kp1 fr1=>?_⟩;dsimp only[K1,K6];have el1:=fr1 _ _ el nl.1 nl.2;refine⟨_,rfl,_,rfl,l,_,2,_,rfl,rfl,SqL.of el1,rfl,_,rfl,l,_,3,_,rfl,rfl,SqL.of el1,rfl,_,_,rfl,rfl,⟨DD,DD,DD⟩,F,p,d,k,g,_,rfl,(λb hb=>hF b (A2b kp1 fr1 hb)),kp1,ok,og.1,og.2.1,A0w og.2.2 DD,λt2 H2 et2 kp2 fr2=>?_⟩;dsimp only[K1,K6];have et1':=fr2 _ _ et1 (W3 kp1 et1).1 (W3 kp1 et1).2;have fr12:Frp p d H H2:=λb o e n1 n2=>fr2 _ _ (fr1 _ _ e n1 n2) n1 n2;have kp2':=kp2;let⟨⟨dx1,g',l',ug',ul',f1,_⟩,_⟩:=kp2;refine⟨_,rfl,p,dx1,_,rfl,f1,S4 KK,_,rfl,_,rfl,F,p,d,k,_,_,rfl,(λb hb=>hF b (A2b kp2' fr12 hb)),kp2',.cons (.tup trivial et1' (.cons (.int _) (.cons (.int _) .nil))) (.cons (.tup trivial et2 (.cons (.int _) (.cons (.int _) .nil))) .nil),⟨b,g,rfl,ob,og,ok⟩,λr v H3 po kp3 tv fr3=>?_⟩;dsimp only[K1,K6];let⟨b',g2,o,e,ls,rfl⟩:=po;let⟨eb,e⟩:=A1f.inj e;have eg:=C69 (A1f.inj e).1;have eb:=C69 eb;rw[<-eb,<-eg] at ls;have tl:∀t,t=lsW o->Q (.str t) H3:=λt e=>told k t H3 ⟨rfl,b,g,o,rfl,ls,e⟩ kp3 λb o e n1 n2=>fr3 _ _ (fr12 _ _ e n1 n2) n1 n2;exists _,rfl,rfl;cases o with
  | none=>cases tv;exact⟨_,rfl,L4 (tl _ rfl)⟩
  | some n=>cases tv;exact⟨_,rfl,G5 ⟨_,rfl,n,rfl,V4 (E19 ok.land ob og ls),tl _ rfl⟩⟩
def PrS (k:Kst)(os:!(Option Int))(b g:Sp2)(most:Nat):Prop:=os=[some ((b.1:Nat):Int),some b.2,some ((g.1:Nat):Int),some g.2,some ((most:Nat):Int)]
def C7d (k:Kst)(os:!(Option Int)):Prop:=KOk k.m k.st k.g k.kws/\∃(b g:Sp2)(most:Nat),PrS k os b g most/\A0d k.m b/\A0d k.m g/\b.2<=k.st/\g.2<=k.st/\most<=200
def soW:PyData->Str
 | .tuple [.str x,.list ns,_]=>itx (ns.length:Nat)
 | _=> "not"
def C7e (k:Kst)(os:!(Option Int))(k':Kst)(t:Str):Prop:=k'=k/\∃(b g:Sp2)(most:Nat)(d:PyData),PrS k os b g most/\A9f k.m (wsF k.kws) k.st b g most d/\t=soW d
theorem E2b:FK P w base 12 T.aX (A09 T.ac C7d C7e):=by
 refine T.aX.F.ok B0i (λJ H Q J h=>?_) (λJ J J J H J Q J hr h=>?_)
 ·let⟨F,p,d,l,k,os,rfl,_⟩:=h;rfl
 ·let⟨F,p,d,l,k,os,rfl,hF,kp,el,⟨ok,b,g,most,rfl,ob,og,bs,gs,hm⟩,told⟩:=h;have kp0:=kp;let⟨⟨dx,g9,l1,ug,ul,e1,g1,e2,t2,g3,e3,t3⟩,kvs,e4,kv⟩:=kp;have nl:=X3 kp0 el;have fk:=ok.few;have lk:(F4 k.kws).length<64:=by unfold F4;rw[B7];omega
  refine⟨_,(C0 (pS (i:=2) B0i.nd (K5 (A5e rfl) rfl T.eM A5l (A3 (pmG (pv 0) T.ae T.bQ (C6v T) hr) (A3 (F5 V7 B4 B4) A4 G6) C6)))
   (C0 (pS (i:=3) B0i.nd (pcF T.aH (C68 T) hr (A3 (pv 0) (A3 (E6 G8 (pv 1) B4) (A3 (E6 G8 (pv 1) B4) (A3 (pv 2) A4 A0) B0) B0) A0)))
   (C0 (pS (i:=4) B0i.nd (pcF T.aH (C68 T) hr (A3 (pv 0) (A3 (E6 G8 (pv 1) B4) (A3 (E6 G8 (pv 1) B4) (A3 (pv 2) A4 A0) B0) B0) A0)))
   (C0 (N9 (M5 (U8 (B1x X8 X8 B4 (E6 G8 (pv 1) B4) (cII T.g_MOST_SOON)))
   (C9 Y5)
   M9))
   (C0 (pS (i:=5) B0i.nd (pcF T.cG (E05 T) hr (A3 (pmG (pv 0) T.ae T.aA (A65 T) hr) (A3 (pmG (pv 0) T.ae T.bQ (C6v T) hr) (A3 (pv 3) (A3 (pv 4) (A3 (E6 G8 (pv 1) B4) A4 B0) A0) A0) C6) C6)))
   (C9 (G0 (A7q (P9 m7 (E6 T5 (pv 5) B4) F9 (F6 _)) (M6 W7 rfl T.aQ U0 (A3 (K5 V8 rfl T.aP T9 (A3 (E6 T5 (pv 5) B4) A4 B0)) A4 C6)) F9)))))))),?_⟩
  ac_nf
  refine⟨_,rfl,p,dx,_,rfl,e1,S4 KK,F,p,d,k,[],[],rfl,hF,kp0,.nil,rfl,λr v k1 H1 po kp1 tv1 fr1 ap1=>?_⟩;let⟨rfl,rfl⟩:=po;cases tv1;have el1:=fr1 _ _ el nl.1 nl.2;have hb2:b.2<=(if 10^(18:Int).toNat<k1.st then 10^(18:Int).toNat else k1.st):=by
   have:=ob.2.2;split
   ·exact A0w this (DD)
   ·exact bs
  have hg2:g.2<=(if 10^(18:Int).toNat<k1.st then 10^(18:Int).toNat else k1.st):=by
   have:=og.2.2;split
   ·exact A0w this (DD)
   ·exact gs
  exists _,_,rfl,rfl,⟨DD,DD,DD⟩,_,_,rfl;dsimp only[K1,K6];refine⟨_,rfl,_,rfl,l,_,0,_,rfl,rfl,SqL.of el1,rfl,_,rfl,l,_,1,_,rfl,rfl,SqL.of el1,rfl,_,rfl,F,p,d,k1,b,_,rfl,(λb hb=>hF b (A2b kp1 fr1 hb)),kp1,ok,ob.1,ob.2.1,hb2,λt1 H2 et1 kp2 fr2=>?_⟩;dsimp only[K1,K6];have el2:=fr2 _ _ el1 nl.1 nl.2;have fr12:Frp p d H H2:=λb o e n1 n2=>fr2 _ _ (fr1 _ _ e n1 n2) n1 n2;refine⟨_,rfl,_,rfl,l,_,2,_,rfl,rfl,SqL.of el2,rfl,_,rfl,l,_,3,_,rfl,rfl,SqL.of el2,rfl,_,rfl,F,p,d,k1,g,_,rfl,(λb hb=>hF b (A2b kp2 fr12 hb)),kp2,ok,og.1,og.2.1,hg2,λt2 H3 et2 kp3 fr3=>?_⟩;dsimp only[K1,K6];have el3:=fr3 _ _ el2 nl.1 nl.2;have fr13:Frp p d H H3:=λb o e n1 n2=>fr3 _ _ (fr12 _ _ e n1 n2) n1 n2;have et13:=fr3 _ _ et1 (W3 kp2 et1).1 (W3 kp2 et1).2;refine⟨fun σ' H'=>σ'=[some (.ref p),some (.ref l),some (.int (if 10^(18:Int).toNat<k1.st then 10^(18:Int).toNat else k1.st)),some (.ref t1),some (.ref t2),none]/\H3=H',?_,?_⟩
  ·exists _,rfl,l,_,4,_,rfl,rfl,SqL.of el3,rfl,_,_,rfl,rfl,_,rfl;rw[decide_eq_true (show (0:Int)<=((most:Nat):Int) by omega)];refine L4 ⟨_,_,rfl,rfl,_,rfl,?_⟩;rw[decide_eq_true (show ((most:Nat):Int)<=200 by omega)];exact G5 ⟨rfl,rfl⟩
  rintro σ' _ ⟨rfl,rfl⟩;have kp3':=kp3;let⟨⟨dx3,g3',l3',ug3,ul3,f3,_⟩,_⟩:=kp3;refine⟨_,rfl,p,dx3,_,rfl,f3,S4 KK,F,p,d,k1,[],[],rfl,(λb hb=>hF b (A2b kp3' fr13 hb)),kp3',.nil,⟨rfl,lk⟩,λr v k4 H4 po kp4 tv4 fr4 ap4=>?_⟩;let⟨rfl,rfl⟩:=po;have fr14:Frp p d H H4:=λb o e n1 n2=>fr4 _ _ (fr13 _ _ e n1 n2) n1 n2;have kp4':=kp4;let⟨⟨dx4,g4',l4',ug4,ul4,f4,_⟩,_⟩:=kp4;refine⟨_,rfl,p,dx4,_,rfl,f4,S4 KK,F,p,d,k4,[],[],rfl,(λb hb=>hF b (A2b kp4' fr14 hb)),kp4',.nil,rfl,λr v5 k5 H5 po kp5 tv5 fr5 ap5=>?_⟩;let⟨rfl,rfl⟩:=po;cases tv5;have fr15:Frp p d H H5:=λb o e n1 n2=>fr5 _ _ (fr14 _ _ e n1 n2) n1 n2;have el5:=fr5 _ _ (fr4 _ _ el3 nl.1 nl.2) nl.1 nl.2;have up:∀{b:Addr}{xs:!V},H3 b=some (.tup xs)->H5 b=some (.tup xs):=λe=>fr5 _ _ (fr4 _ _ e (W3 kp3' e).1 (W3 kp3' e).2) (W3 kp3' e).1 (W3 kp3' e).2;have tv45:ThV TT0 H5 v (K2 k5.m (wsF k5.kws)):=tv4.mv λb o g e=>⟨trivial,fr5 _ _ e (C7a kp3' g).1 (C7a kp3' g).2⟩;refine⟨_,rfl,_,rfl,_,rfl,l,_,4,_,rfl,rfl,SqL.of el5,rfl,Z1 (E:=E0) (λd=>A9f k5.m (wsF k5.kws) k5.st b g most d) (.cons tv45 (.cons (.int _) (.cons (.tup trivial (up et13) (.cons (.int _) (.cons (.int _) .nil))) (.cons (.tup trivial (up et2) (.cons (.int _) (.cons (.int _) .nil))) (.cons (.int _) .nil))))) ⟨k5.m,wsF k5.kws,k5.st,b,g,most,rfl,ok.land,ob.1,og.1,OO,λd hd=>hd⟩ λd6 v6 H6 hd t6 s6=>?_⟩;dsimp only[K1,K6];have tl:∀t,t=soW d6->Q (.str t) H6:=λt e=>told k5 t H6 ⟨rfl,b,g,most,d6,rfl,hd,e⟩ (kp5.same s6) λb o e n1 n2=>s6 _ _ (fr15 _ _ e n1 n2);rcases id hd with ⟨rfl,_⟩ | ⟨L,ns,lv,rfl,hL,_,_,hns,_⟩
  ·let⟨a6,u6,rfl,_,e6,t6⟩:=y8 t6;let⟨v1,v2,rfl,x1,x2⟩:=g6 t6;cases x1;exact⟨_,rfl,a6,_,_,_,rfl,rfl,SqT.of e6,rfl,rfl,_,rfl,G5 (tl _ rfl)⟩
  ·let⟨a6,u6,rfl,_,e6,t6⟩:=y8 t6;let⟨v1,v2,v3,rfl,x1,x2,x3⟩:=B9y t6;cases x1;let⟨ln,un,rfl,_,en,xn⟩:=P7 x2;refine⟨_,rfl,a6,_,_,_,rfl,rfl,SqT.of e6,rfl,rfl,_,rfl,L4 ?_⟩;have lun:un.length=ns.length:=by rw[xn.len];unfold J0;rw[B7]
   refine⟨_,rfl,a6,_,_,_,rfl,rfl,SqT.of e6,rfl,ln,_,rfl,.inl (SqL.of en),_,rfl,V4 ?_,tl _ ?_⟩
   ·rw[lun];exact A2f (show ((ns.length:Nat):Int).natAbs<=200 by omega) (DD)
   ·rw[lun];show itx (ns.length:Nat)=itx ((J0 ns).length:Nat);unfold J0;rw[B7]
def noT (m:Nat):Tb:=G1 m none
theorem A7b (m:Nat)(st:Int):F3 m st (noT m):=⟨d9,λp y e=>by
 unfold gt noT at e;rw[C0n] at e;split at e <;> cases e⟩
def E2c (C:Addr):Sp:=λvs H Q J=>∃(m:Nat)(st:Int),vs=[.int ((m:Nat):Int),.int st]/\1<=m/\m<=12/\0<=st/\st<=100000000000000000000/\
 ∀p d low H',b9 m st (noT m) [] low->H p=none->H d=none->J1 (λb=>H b=none) C H' p d ⟨m,st,noT m,[],low⟩->Same H H'->Q (.ref p) H'
def Tbl (w:Str):Bool:=decide (w = "aim")||decide (w = "highest")||decide (w = "any")
def NmB (w:Str):Option Nat:=(([("land",2),("lay",4),("lift",1),("turn",2),("refill",1),("least",0),("ways",0),("store",4),("soon",5)]:!(Str×Nat)).find? λq=>decide (q.1=w)).map (·.2)
def A0e (x:Str)(w0:Str)(os:Tb):Prop:=x.length<=1000000/\cp x=jn (w0::os.map lvW)/\32∉cp w0/\(∀n,some n∈os->n.natAbs<10^60)/\os.length<=400/\((Tbl w0=true/\os≠[])\/(Tbl w0=false/\NmB w0=some os.length/\∀o∈os,o≠none))
def E2d:Sp:=λvs H Q J=>∃x w0 os,vs=[.str x]/\A0e x w0 os/\∀l H',H l=none->H' l=some (.lst ((w0::os.map lvW).map V.str))->Same H H'->Q (.ref l) H'
def E2e:Sp:=λvs H Q J=>∃l x w0 os,vs=[.ref l]/\A0e x w0 os/\H l=some (.lst ((w0::os.map lvW).map V.str))/\∀l' H',H l'=none->H' l'=some (.lst (os.map oV))->Same H H'->Q (.ref l') H'
theorem C7f {x w0:Str}{os:Tb}(h:A0e x w0 os):Txt.split x " " = w0::os.map lvW:=by
 let⟨_,h1,h2,h3,_⟩:=h;refine C4l (by simp) (λw hw=>?_) h1;rcases K7.mp hw with rfl | hw
 ·exact h2
 ·let⟨o,ho,rfl⟩:=L0.mp hw;cases o with
  | none=>decide
  | some n=>exact C4q (A6z (h3 n ho))
theorem E2f (m:Nat):(G1 m [V.non]).flatten=(noT m).map oV:=by
 unfold noT;rw[C8q]
 induction m with
 | zero=>rfl
 | succ n ih=>rw[A0u,A3k,ih,A0u];rfl
theorem B36 {K:A8}{a0:Addr}{xs:!V}{nn j:Nat}{σ:Lake.St}{te:CA->TE}{H1:Hp}{Q:!V->Hp->Prop}(ws:!V)(hl:xs.length=ws.length)(hz:xs.length<sizeLine)(hk:∀H,Same H1 H->SqL K H a0 xs)
  (hs:∀(i:Nat)(x w:V),xs[i]?=some x->ws[i]?=some w->∀H,Same H1 H->∀(a:CA)(R:V->Hp->Prop),(∀H',Same H H'->R w H')->te a ((T7 nn j σ).set j (some x)) H R)
  (hd:∀H,Same H1 H->Q ws H):A2s σ nn j (λJ=>A00) te (Itl K a0) H1 Q:=by
 refine A7x (λi ys Hn=>Same H1 Hn/\ys=ws.take i) hz ⟨λJ J z=>z,rfl⟩ ?_ ?_ ?_
 ·rintro i ys Hn _ ⟨s,rfl⟩;exact⟨by rw[X5];exact B1j _ _,hk _ s⟩
 ·rintro i x ys Hn hx ⟨s,rfl⟩ ca;let⟨hi,_⟩:=X4.mp hx;obtain⟨w,hw⟩:∃w,ws[i]?=some w:=⟨_,M8 OO⟩;unfold A00;refine L4 (hs i x w hx hw Hn s ca _ λH' s'=>⟨s.tr s',?_⟩);rw[A1t,hw];rfl
 ·rintro ys Hn ⟨s,rfl⟩;rw[hl,A1v];exact hd Hn s
theorem E2g (x:V)(xs:!V):A1g (x::xs) (some 1) none=xs:=by
 unfold A1g HT.sIx;simp
abbrev nmT:!(Str×Nat):=[("land",2),("lay",4),("lift",1),("turn",2),("refill",1),("least",0),("ways",0),("store",4),("soon",5)]
theorem C7g (w:Str):∀l:!(Str×Nat),V2 ((l.map λq=>(q.1,V.int ((q.2:Nat):Int))).map A4f) (Sum.inr w:Key)=((l.find? λq=>decide (q.1=w)).map (·.2)).map λn=>V.int ((n:Nat):Int)
 | []=>rfl
 | q::r=>by
  have ih:=C7g w r;unfold V2 at ih ⊢;rw[K9,K9,A47,A47];by_cases e:q.1=w
  ·subst e;rw[show decide ((A4f (q.1,V.int ((q.2:Nat):Int))).1=(Sum.inr q.1:Key))=true from decide_eq_true rfl,show decide (q.1=q.1)=true from decide_eq_true rfl];rfl
  ·rw[show decide ((A4f (q.1,V.int ((q.2:Nat):Int))).1=(Sum.inr w:Key))=false from decide_eq_false λz=>e (Sum.inr.inj z),show decide (q.1=w)=false from decide_eq_false e];exact ih
theorem C7h (w:Str):inV (.str w) [V.str "aim",V.str "highest",V.str "any"]=Tbl w:=by
 unfold inV Tbl;simp only[A45,List.any_nil,Bool.or_false,eqV];rw[Bool.or_assoc];congr 1
 ·rw[A3i,beq_iff_eq,decide_eq_true_eq];exact eq_comm
 ·congr 1 <;> (rw[A3i,beq_iff_eq,decide_eq_true_eq];exact eq_comm)
theorem E2h:FK P w base 12 T.cf (E2c T.ac):=by
 have jG:=@E0j P w K mg base T;have jH:=T.dj.b;refine T.cf.F.ok D6c (λJ H J J h=>?_) (λJ J J J H J Q J hr h=>?_)
 ·let⟨m,st,rfl,_⟩:=h;rfl
 ·let⟨m,st,rfl,m1,m2,st0,st1,told⟩:=h;refine⟨_,(C0 (N9 (M5 (PW.pt (A3p (U8 (B1x X8 X8 B4 (pv 0) (cII T.g_MOST_PLACES))) (A3o (U8 (W6 (pcF T.bf (C6h T) hr (A3 (pv 1) A4 A0)))))))
   (C9 Y5)
   M9))
   (C9 (G0 (C99 T.gR jG (hr.mono DD) rfl T.gQ jH .nil A7 (A3 (pv 0) (A3 (pv 1) (A3 (F5 B46 (T0 (A3 A1x A4 F2)) (pv 0)) A4 G6) A0) A0))))),?_⟩
  ac_nf
  refine⟨fun σ' H'=>σ'=[some (.int ((m:Nat):Int)),some (.int st)]/\Same H H',?_,?_⟩
  ·exists _,rfl,_,_,rfl,rfl,_,rfl;rw[decide_eq_true (show (1:Int)<=((m:Nat):Int) by omega)];refine L4 ⟨_,_,rfl,rfl,_,rfl,?_⟩;rw[decide_eq_true (show ((m:Nat):Int)<=12 by omega)];refine G5 ⟨_,rfl,Z1 (E:=E0) (λd=>d=.bool true) (.cons (.int _) .nil) ⟨_,rfl,st0,st1,rfl⟩ λd' v1 H3 hd t5 s3=>?_⟩;subst hd;cases t5;exact⟨_,rfl,G5 ⟨rfl,s3⟩⟩
  ·rintro σ' H1 ⟨rfl,s1⟩;refine⟨_,rfl,_,rfl,SZ (n:=1),λl1 n1=>?_⟩;have k1:=Same.upd (o:=.lst [V.non]) n1;refine⟨_,rfl,l1,_,_,rfl,rfl,B9,OO,OO,?_,λl2 n2=>?_⟩
   ·rw[sizeLine_eq,show ((m:Nat):Int).toNat=m by simp];show 1*m<=_;omega
   rw[show ((m:Nat):Int).toNat=m by simp,E2f];have k2:=k1.tr (Same.upd (o:=.lst ((noT m).map oV)) n2);have e2:upd (upd H1 l1 (.lst [V.non])) l2 (.lst ((noT m).map oV)) l2=some (.lst ((noT m).map oV)):=B9;obtain⟨H2,hH2⟩:∃H2,H2=upd (upd H1 l1 (.lst [V.non])) l2 (.lst ((noT m).map oV)):=⟨_,rfl⟩;rw[<-hH2] at k2 e2 ⊢;intro q dx hq hdx nq;have sA:=Same.upd (o:=.own q) hdx;have hq':upd H2 dx (.own q) q=none:=by rw[C4 (λz=>nq z.symm)];exact hq
   have sB:=Same.upd (o:=.ins T.ac dx []) hq';have sAB:=sA.tr sB;have ok:KOk m st (noT m) []:=⟨m1,m2,st0,st1,A7b m st,B4q,Q7 _,λq hq=>by cases hq⟩;refine⟨q,dx,m,st,noT m,.ref l2,rfl,B9,.lst trivial (sAB _ _ e2) (A7a _),ok,λd' low H' lr nd kp fr=>⟨rfl,?_⟩⟩;have sH:Same H2 H':=λb o e=>fr _ _ (sAB _ _ e) λz=>by rw[z,hq] at e;cases e
   have sK:=s1.tr k2;exact told q d' low H' lr (sK.early hq) (sK.early (sAB.early nd)) (A4p kp λb xs h J=>sK.early (sAB.early h)) (sK.tr sH)
theorem E2i(D:B3i w T):FK P w base 1 T.cw E2d:=by
 refine T.cw.F.ok B9c (λJ H J J h=>?_) (λJ J J J H J Q J hr h=>?_)
 ·let⟨x,w0,os,rfl,_⟩:=h;rfl
 ·let⟨x,w0,os,rfl,R,told⟩:=h;refine⟨_,(C0 (N9 (M5 (U8 (W6 (K5 C2j rfl T.bM A7z (A3 (pv 0) (A3 (A7p (v:=V.ty "str") rfl T.aQ U0 rfl) A4 A0) A0))))
   (C9 Y5)
   M9))
   (C0 (pS (i:=1) B9c.nd (L8 A3m B1b C8r B6n (pv 0) (A3 F9 A4 F2)))
   (C0 (pS (i:=2) B9c.nd (F5 A5b (K5 V8 rfl T.aP T9 (A3 (pv 1) A4 A0)) B4))
   (C0 (N9 (M5 (PW.pt (B1r (P9 A9s (D4s (D0 (v:=V.ref T.bT) rfl T.fY rfl) (E6 G8 (pv 1) B4) ⟨rfl,rfl,rfl,rfl⟩) (pv 2) (F6 _)) (B1q (PW.pt (A3p (P9 C19 (E6 G8 (pv 1) B4) (D0 (v:=V.ref T.bO) rfl T.fD rfl) (by with_unfolding_all rfl)) (A3o (P9 m7 (pv 2) B4 (F6 _))))))))
   (C9 Y5)
   M9))
   (C9 (G0 (pv 1))))))),?_⟩
  ac_nf
  have hs:=C7f R;let⟨hx,h1,h2,h3,h4,h5⟩:=R;have sz:∀{n:Nat},n<=1000->n<=sizeLine:=λh=>M0 h (by rw[sizeLine_eq];decide);exists fun σ' H'=>σ'=[some (.str x),none,none]/\H=H',⟨_,rfl,_,_,_,_,true,rfl,rfl,.str x,D2f (.str x) "str" rfl,_,rfl,G5 ⟨rfl,rfl⟩⟩;rintro σ' _ ⟨rfl,rfl⟩;refine⟨_,rfl,rfl,x,_,rfl,rfl,DD,hx,λl nl=>?_⟩;rw[hs];have s1:=Same.upd (o:=.lst ((w0::os.map lvW).map V.str)) nl;have el:upd H l (.lst ((w0::os.map lvW).map V.str)) l=some (.lst ((w0::os.map lvW).map V.str)):=B9;obtain⟨H1,hH1⟩:∃H1,H1=upd H l (.lst ((w0::os.map lvW).map V.str)):=⟨_,rfl⟩;rw[<-hH1] at s1 el ⊢;dsimp only[K1,K6];exists _,rfl,l,_,rfl,.inl (SqL.of el),_,_,rfl,rfl;dsimp only[K1,K6];refine⟨fun σ' H'=>(∃v,σ'=[some (.str x),some (.ref l),v])/\H1=H',?_,?_⟩
  ·have at0:atI ((w0::os.map lvW).map V.str) 0=some (V.str w0):=B2p;have hb:(((((w0::os.map lvW).map V.str).length:Nat):Int)-1)=((os.length:Nat):Int):=by simp
   rw[hb];exists _,_,rfl,D.kd_NUMBERED.at DD,_,rfl,l,_,_,_,rfl,rfl,SqL.of el,at0,Sum.inr w0,rfl;exists _,rfl;dsimp only;have enm:V2 (List.map A4f [("land",V.int 2),("lay",V.int 4),("lift",V.int 1),("turn",V.int 2),("refill",V.int 1),("least",V.int 0),("ways",V.int 0),("store",V.int 4),("soon",V.int 5)]) (Sum.inr w0:Key)=((nmT.find? λq=>decide (q.1=w0)).map (·.2)).map λn=>V.int ((n:Nat):Int):=C7g w0 nmT;rw[enm];rcases h5 with ⟨tb,hne⟩ | ⟨tb,hn,_⟩
   ·have hno:(nmT.find? λq=>decide (q.1=w0))=none:=by
     unfold Tbl at tb;rw[A9k,A9k,decide_eq_true_eq,decide_eq_true_eq,decide_eq_true_eq] at tb;rcases tb with (rfl | rfl) | rfl <;> decide
    rw[hno];refine⟨rfl,_,rfl,L4 ⟨_,rfl,l,_,_,_,rfl,rfl,SqL.of el,at0,T.bO,_,rfl,.inr (T.kt_TABLED.at _),rfl,DD,_,rfl,?_⟩⟩;rw[C7h,tb];refine G5 ⟨_,rfl,rfl,_,rfl,?_⟩;rw[show decide (V.int ((os.length:Nat):Int)=V.int 0)=false from decide_eq_false λz=>hne (A3l (by have:=V.int.inj z;omega))];exact G5 ⟨⟨_,rfl⟩,rfl⟩
   ·rw[show ((nmT.find? λq=>decide (q.1=w0)).map (·.2))=some os.length from hn];exists rfl,_,rfl;rw[show (not (decide ((Option.map (λn=>V.int ((n:Nat):Int)) (some os.length)).getD V.non=V.int ((os.length:Nat):Int))))=false from by rw[Bool.not_eq_false'];exact decide_eq_true rfl];exact G5 (G5 ⟨⟨_,rfl⟩,rfl⟩)
  ·rintro σ' _ ⟨⟨v,rfl⟩,rfl⟩;exact⟨_,rfl,told l H1 nl el s1⟩
theorem E2j:FK P w base 5 T.cb E2e:=by
 refine T.cb.F.ok D6b (λJ H J J h=>?_) (λJ J J s H J Q J hr h=>?_)
 ·let⟨l,x,w0,os,rfl,_⟩:=h;rfl
 ·let⟨l,x,w0,os,rfl,R,el,told⟩:=h;refine⟨_,(C0 (N9 (M5 (P9 D0k (E6 G8 (pv 0) B4) (D0 (v:=V.ref T.bO) rfl T.fD rfl) (by with_unfolding_all rfl))
   (C9 (G0 (W9 (N1.new (N:=["words"]) (osc:=B5 B0e) KK) rfl (U9 (A3t A7t (pv 0) (A5i B4) A5h)) (λJ=>m9) (λJ=>(pcF T.cr (D7o T) hr (A3 (pv 1) A4 A0))))))
   M9))
   (C9 (G0 (W9 (N1.new (N:=["words"]) (osc:=B5 B0e) KK) rfl (U9 (A3t A7t (pv 0) (A5i B4) A5h)) (λJ=>m9) (λJ=>(pcF T.aU (C5m T) hr (A3 (pv 1) A4 A0))))))),?_⟩
  ac_nf
  let⟨hx,h1,h2,h3,h4,h5⟩:=R;have at0:atI ((w0::os.map lvW).map V.str) 0=some (V.str w0):=B2p;have hcut:A1g ((w0::os.map lvW).map V.str) (some 1) none=os.map λo=>V.str (lvW o):=by
   rw[K9,E2g,Q8];rfl
  have sz:os.length<sizeLine:=A2f h4 (by rw[sizeLine_eq];decide);refine⟨fun σ' H'=>σ'=[some (.ref l)]/\H=H'/\Tbl w0=false,?_,?_⟩
  ·exists _,rfl,l,_,_,_,rfl,rfl,SqL.of el,at0,T.bO,_,rfl,.inr (T.kt_TABLED.at _),rfl,DD,_,rfl;rw[show (if false=true then not (inV (V.str w0) [V.str "aim",V.str "highest",V.str "any"]) else inV (V.str w0) [V.str "aim",V.str "highest",V.str "any"])=Tbl w0 from C7h w0];cases e:Tbl w0 with
   | false=>exact G5 ⟨rfl,rfl,rfl⟩
   | true=>
    refine L4 ⟨_,rfl,_,rfl,l,_,rfl,SqL.of el,λl2 n2=>?_⟩;rw[hcut];have s2:=Same.upd (o:=.lst (os.map λo=>V.str (lvW o))) n2;have e2:upd H l2 (.lst (os.map λo=>V.str (lvW o))) l2=some (.lst (os.map λo=>V.str (lvW o))):=B9;obtain⟨H2,hH2⟩:∃H2,H2=upd H l2 (.lst (os.map λo=>V.str (lvW o))):=⟨_,rfl⟩;rw[<-hH2] at s2 e2 ⊢;exists l2,rfl,⟨_,SqL.of e2⟩;refine B36 (os.map oV) (by rw[B7,B7]) (by rw[B7];exact sz) (λHx s=>SqL.of (s _ _ e2)) (λi y v hy hv Hx s ca R hR=>?_) λH3 s3 l3 n3=>?_
    ·rw[M2] at hy hv;let⟨o,ho,rfl⟩:=A1e.mp hy;rw[ho] at hv;cases hv;refine⟨_,rfl,_,o,rfl,rfl,λn hn=>h3 n (by rw[<-hn];exact U4 ho),λH' s'=>?_⟩;have:=hR H' s';cases o <;> exact this
    ·exact told l3 _ (s2.early (s3.early n3)) B9 (s2.tr (s3.tr (Same.upd n3)))
  ·rintro σ' _ ⟨rfl,rfl,e⟩;have h6:∀o∈os,o≠none:=by
    rcases h5 with ⟨z,_⟩ | ⟨_,_,z⟩
    ·rw[e] at z;cases z
    ·exact z
   refine⟨_,rfl,_,rfl,l,_,rfl,SqL.of el,λl2 n2=>?_⟩;rw[hcut];have s2:=Same.upd (o:=.lst (os.map λo=>V.str (lvW o))) n2;have e2:upd H l2 (.lst (os.map λo=>V.str (lvW o))) l2=some (.lst (os.map λo=>V.str (lvW o))):=B9;obtain⟨H2,hH2⟩:∃H2,H2=upd H l2 (.lst (os.map λo=>V.str (lvW o))):=⟨_,rfl⟩;rw[<-hH2] at s2 e2 ⊢;exists l2,rfl,⟨_,SqL.of e2⟩;refine B36 (os.map oV) (by rw[B7,B7]) (by rw[B7];exact sz) (λHx s=>SqL.of (s _ _ e2)) (λi y v hy hv Hx s ca R hR=>?_) λH3 s3 l3 n3=>?_
   ·rw[M2] at hy hv;let⟨o,ho,rfl⟩:=A1e.mp hy;rw[ho] at hv;cases hv;have hm:=U4 ho;cases o with
    | none=>exact absurd rfl (h6 _ hm)
    | some n=>have h60:=h3 n hm;refine⟨_,rfl,itx n,rfl,by have:=R6 h60;omega,A6z h60,λH' s'=>?_⟩;rw[B6v h60];exact hR H' s'
   ·exact told l3 _ (s2.early (s3.early n3)) B9 (s2.tr (s3.tr (Same.upd n3)))
def T8 (Cd:Addr)(H:Hp)(q:Addr)(v:V):Prop:=∃dx,H q=some (.ins Cd dx [("keeper",v)])
inductive Y4 {K:A8}{mg:Str->Option Value}(T:Txt K mg):Str->Addr->(Kst->!(Option Int)->Prop)->(Kst->!(Option Int)->Kst->Str->Prop)->Prop
 | lay:Y4 T "lay" T.dI.a (A1o A4r) (j0 A4r)
 | lift:Y4 T "lift" T.cN.a (A1o A4s) (j0 A4s)
 | turn:Y4 T "turn" T.cO.a (A1o A4t) (j0 A4t)
 | refill:Y4 T "refill" T.cg.a (A1o A4u) (j0 A4u)
 | aim:Y4 T "aim" T.dJ.a (A1o A4v) (j0 A4v)
 | least:Y4 T "least" T.aK.a B35 C6y
 | highest:Y4 T "highest" T.az.a C63 C64
 | ways:Y4 T "ways" T.aW.a B35 C6z
 | store:Y4 T "store" T.aM.a C7b C7c
 | soon:Y4 T "soon" T.aX.a C7d C7e
 | any:Y4 T "any" T.bj.a C65 C67
def B90 {K:A8}{mg:Str->Option Value}(T:Txt K mg)(a:Addr)(sp:Sp):Prop:=∃w0 pre post,Y4 T w0 a pre post/\sp=A09 T.ac pre post
theorem Y4.ne {K:A8}{mg:Str->Option Value}{T:Txt K mg}{w0:Str}{a:Addr}{pre:Kst->!(Option Int)->Prop}{post:Kst->!(Option Int)->Kst->Str->Prop}(h:Y4 T w0 a pre post):w0≠ "land" :=by cases h <;> decide
theorem Y4.val {K:A8}{mg:Str->Option Value}{T:Txt K mg}{w0:Str}{a:Addr}{pre:Kst->!(Option Int)->Prop}{post:Kst->!(Option Int)->Kst->Str->Prop}(h:Y4 T w0 a pre post) :
  V2 (List.map A4f [("lay",V.ref T.dI.a),("lift",V.ref T.cN.a),("turn",V.ref T.cO.a),("refill",V.ref T.cg.a),("aim",V.ref T.dJ.a),("least",V.ref T.aK.a),("highest",V.ref T.az.a),("ways",V.ref T.aW.a),("store",V.ref T.aM.a),("soon",V.ref T.aX.a),("any",V.ref T.bj.a)]) (Sum.inr w0:Key)=some (.ref a):=by
 cases h <;> rfl
theorem E2k {a b c d e f g h i j k:V}:(List.map (λx:Str×V=>x.1) [("lay",a),("lift",b),("turn",c),("refill",d),("aim",e),("least",f),("highest",g),("ways",h),("store",i),("soon",j),("any",k)]).Nodup:=by
 show (["lay","lift","turn","refill","aim","least","highest","ways","store","soon","any"]:!Str).Nodup;decide
def E2l (C:Addr):Sp:=λvs H Q J=>∃q dx,vs=[.ref q]/\H q=some (.ins C dx [])/\Q .non (upd H q (.ins C dx [("keeper",.non)]))
def A9g {K:A8}{mg:Str->Option Value}(T:Txt K mg):Sp:=λvs H Q J=>∃q v x w0 os,vs=[.ref q,.str x]/\T8 T.ah H q v/\A0e x w0 os/\
 ((∃(m:Nat)(st:Int),w0 = "land" /\os=[some ((m:Nat):Int),some st]/\1<=m/\m<=12/\0<=st/\st<=100000000000000000000/\
   ∀p d low H',b9 m st (noT m) [] low->H p=none->H d=none->J1 (λb=>H b=none) T.ac H' p d ⟨m,st,noT m,[],low⟩->T8 T.ah H' q (.ref p)->(∀b o,H b=some o->b≠q->H' b=some o)->Q (.str "ok") H')\/
  ∃a pre post F p d k,v=.ref p/\Y4 T w0 a pre post/\(∀b,H b=none->F b)/\J1 F T.ac H p d k/\pre k os/\
   ∀k' t H',post k os k' t->J1 F T.ac H' p d k'->(∀b o,H b=some o->b≠p->b≠d->H' b=some o)->Q (.str t) H')
theorem J1.ui {F:Addr->Prop}{C C' p d q dx':Addr}{H:Hp}{k:Kst}{fs fs':!(Str×V)}(h:J1 F C H p d k)(e:H q=some (.ins C' dx' fs))(ne:p≠q):J1 F C (upd H q (.ins C' dx' fs')) p d k:=by
 let⟨⟨dx,g,l,ug,ul,e1,g1,e2,t2,g3,e3,t3⟩,kv0,e4,kv⟩:=h;have nn:∀{b:Addr}{o:HO},H b=some o->(∀a b c,o≠.ins a b c)->upd H q (.ins C' dx' fs') b=some o:=λ{b o} eb n=>by
  rw[C4 (λz=>by rw[z,e] at eb;cases eb;exact n _ _ _ rfl)];exact eb
 exact⟨⟨dx,g,l,ug,ul,by rw[C4 ne];exact e1,g1,nn e2 (λJ J J z=>nomatch z),M4 t2,g3,nn e3 (λJ J J z=>nomatch z),M4 t3⟩,kv0,nn e4 (λJ J J z=>nomatch z),kv.mv λb xs eb=>nn eb (λJ J J z=>nomatch z)⟩
theorem B90.fn:∀a sp,B90 T a sp->FnB P w K mg base CX0 12 a sp:=by
 rintro a sp ⟨w0,pre,post,h,rfl⟩;cases h with
 | lay=>exact⟨12,_,_,DD,E1u T,T.dI.F.kp,T.dI.b⟩
 | lift=>exact⟨12,_,_,DD,E1v T,T.cN.F.kp,T.cN.b⟩
 | turn=>exact⟨12,_,_,DD,E1w T,T.cO.F.kp,T.cO.b⟩
 | refill=>exact⟨12,_,_,DD,E1x T,T.cg.F.kp,T.cg.b⟩
 | aim=>exact⟨12,_,_,DD,E1y T,T.dJ.F.kp,T.dJ.b⟩
 | least=>exact⟨3,_,_,DD,E11 T,T.aK.F.kp,T.aK.b⟩
 | highest=>exact⟨10,_,_,DD,E14 T,T.az.F.kp,T.az.b⟩
 | ways=>exact⟨3,_,_,DD,E12 T,T.aW.F.kp,T.aW.b⟩
 | store=>exact⟨12,_,_,DD,E2a T,T.aM.F.kp,T.aM.b⟩
 | soon=>exact⟨12,_,_,DD,E2b T,T.aX.F.kp,T.aX.b⟩
 | any=>exact⟨10,_,_,DD,E17 T,T.bj.F.kp,T.bj.b⟩
theorem E2m:FM P w mg base 1 T.du (E2l T.ah):=by
 refine T.du.F.ok D6n (λJ H J J h=>?_) (λJ J J J H J Q J hr h=>?_)
 ·let⟨q,dx,rfl,_⟩:=h;rfl
 ·let⟨q,dx,rfl,e,told⟩:=h;exists _,(C9 (A10 (pv 0) A1x rfl))
  ac_nf
  exact⟨_,rfl,q,_,dx,_,rfl,e,T.ck,T.dM,by show 0<1000;decide,told⟩
theorem C7i(D:B3i w T):FM P w mg base 13 T.bP (A9g T):=by
 have GV:=@B90.fn P w K mg base T;refine T.bP.F.ok B9d (λJ H J J h=>?_) (λJ J J J H J Q J hr h=>?_)
 ·let⟨q,v,x,w0,os,rfl,_⟩:=h;rfl
 ·let⟨q,v,x,w0,os,rfl,⟨dx,eq⟩,R,told⟩:=h;refine⟨_,(C0 (pS (i:=2) B9d.nd (pcF T.cw (E2i T D) hr (A3 (pv 1) A4 A0)))
   (C0 (pS (i:=3) B9d.nd (pcF T.cb (E2j T) hr (A3 (pv 2) A4 A0)))
   (C0 (N9 (M5 (P9 m7 (E6 G8 (pv 2) B4) F9 (F6 _))
   (C0 (A10 (pv 0) (pcF T.cf (E2h T) hr (A3 (E6 G8 (pv 3) B4) (A3 (E6 G8 (pv 3) B4) A4 B0) B0)) rfl)
   (C9 (G0 F9)))
   M9))
   (C0 (N9 (M5 (P9 t9 (Q9 (pv 0) rfl) A1x (F6 _))
   (C9 Y5)
   M9))
   (C9 (G0 (D4u (D4r (D0 (v:=V.ref T.cq) rfl T.gr rfl) (E6 G8 (pv 2) B4) (λJ J=>rfl)) (hr.mono DD) GV A7 (A3 (Q9 (pv 0) rfl) (A3 (pv 3) A4 A0) P2)))))))),?_⟩
  ac_nf
  refine⟨_,rfl,x,w0,os,rfl,R,λl H1 n1 e1 s1=>?_⟩;dsimp only[K1,K6];refine⟨_,rfl,l,x,w0,os,rfl,R,e1,λl' H2 n2 e2 s2=>?_⟩;dsimp only[K1,K6];have e1':=s2 _ _ e1;have s12:=s1.tr s2;have at0:atI ((w0::os.map lvW).map V.str) 0=some (V.str w0):=B2p;rcases told with ⟨m,st,rfl,rfl,m1,m2,st0,st1,told⟩ | ⟨a,pre,post,F,p,d,k,rfl,an,hF,kp,hpre,told⟩
  ·refine⟨λJ J=>False,?_,λJ J z=>z.elim⟩;exists _,rfl,l,_,_,_,rfl,rfl,SqL.of e1',at0;exists rfl,_,rfl;rw[decide_eq_true rfl];refine L4 ⟨_,rfl,l',_,0,_,rfl,rfl,SqL.of e2,rfl,_,rfl,l',_,1,_,rfl,rfl,SqL.of e2,rfl,m,st,rfl,m1,m2,st0,st1,λp d low H3 lr np nd kp fr=>?_⟩;have e3:=fr _ _ (s12 _ _ eq);have pq:p≠q:=λz=>by rw[z,s12 _ _ eq] at np;cases np
   refine⟨_,rfl,q,_,dx,_,rfl,e3,T.ck,T.dM,by show 1<1000;decide,?_⟩;refine told p d low _ lr (s12.early np) (s12.early nd) ?_ ⟨dx,B9⟩ λb o e n=>by rw[C4 n];exact fr _ _ (s12 _ _ e)
   exact J1.ui (A4p kp λb xs h J=>s12.early h) e3 pq
  ·refine⟨fun σ' H'=>σ'=[some (.ref q),some (.str x),some (.ref l),some (.ref l')]/\H2=H',?_,?_⟩
   ·exists _,rfl,l,_,_,_,rfl,rfl,SqL.of e1',at0;exists rfl,_,rfl;rw[show decide (V.str w0=V.str "land")=false from decide_eq_false λz=>an.ne (V.str.inj z)];exact G5 ⟨rfl,rfl⟩
   rintro σ' _ ⟨rfl,rfl⟩;refine⟨fun σ' H'=>σ'=[some (.ref q),some (.str x),some (.ref l),some (.ref l')]/\H2=H',?_,?_⟩
   ·refine⟨_,rfl,q,_,dx,_,_,rfl,s12 _ _ eq,T.ck,T.dM,rfl,rfl,_,rfl,G5 ⟨rfl,rfl⟩⟩
   rintro σ' _ ⟨rfl,rfl⟩;exists _,rfl,l,_,_,_,rfl,rfl,SqL.of e1',at0,_,_,_,_,rfl,D.kd_ANSWERS.at E2k,rfl,an.val,a,_,rfl,⟨w0,pre,post,an,rfl⟩;exists _,rfl,q,_,dx,_,_,rfl,s12 _ _ eq,T.ck,T.dM,rfl,_,rfl;exact⟨F,p,d,l',k,os,rfl,λb h=>hF b (s12.early h),kp.same s12,e2,hpre,λk' t H' po kp' fr'=>told k' t H' po kp' λb o e=>fr' b o (s12 _ _ e)⟩
abbrev W4 (ws ws':!Wy):Prop:=∀w,w∈ws↔w∈ws'
variable {st:Int}
section
variable {ws':!Wy}
theorem W4.bet (h:W4 ws ws'):Bet ws ws':=λw hw=>⟨w,(h w).mp hw,rfl,rfl,A0v _⟩
theorem W4.symm (h:W4 ws ws'):W4 ws' ws:=λw=>(h w).symm
theorem W4.turn (h:W4 ws ws'):W4 (ws.map A1l) (ws'.map A1l):=λw=>by
 rw[L0,L0];exact⟨λ⟨a,x,e⟩=>⟨a,(h a).mp x,e⟩,λ⟨a,x,e⟩=>⟨a,(h a).mpr x,e⟩⟩
theorem B91 {b t t':Tb}(hw:W4 ws ws')(h0:0<=st)(hb:F3 m st b)(h:S1 m ws st b t)(h':S1 m ws' st b t'):t=t':=
 B57 (h.tab.len.trans h'.tab.len.symm) (B6h h0 (A0v _) hb hw.bet (A8p _) h h') (B6h h0 (A0v _) hb hw.symm.bet (A8p _) h' h)
theorem C7j {M:Int}(hw:W4 ws ws')(h:A0c ws M):A0c ws' M:=⟨h.m0,λw hw'=>h.le w ((hw w).mpr hw'),h.is.imp id λ⟨w,a,e⟩=>⟨w,(hw w).mp a,e⟩⟩
theorem E2n {b:Tb}{vs us:!OV}(hw:W4 ws ws')(h:B0y m ws b vs)(k:B0y m ws' b us):vs=us:=by
 let⟨G,M,t,hG,o,rfl⟩:=h;let⟨G',M',t',hG',o',rfl⟩:=k;cases hG.uniq hG';cases (C7j hw o.hM).uniq o'.hM;have:=o.mt;have:=o.g0;cases B91 hw OO (o.tb OO) o.ht o'.ht;rfl
theorem E2o {t t':Tb}{g:Sp2}(h:leT t t')(e:enF t g=true):enF t' g=true:=by
 unfold enF at e ⊢;cases z:gt t g.1 with
 | none=>rw[z] at e;cases e
 | some l=>
  rw[z] at e;have hl:g.2<=l:=of_decide_eq_true e;have:=h g.1;rw[z] at this;cases z':gt t' g.1 with
  | none=>rw[z'] at this;exact absurd this A04
  | some l'=>rw[z'] at this;have:=W0.mp this;exact decide_eq_true (OO)
theorem B92 {S S':Int}{b g:Sp2}(hw:W4 ws ws')(hb:b.1<m)(b0:0<=b.2)(b1:b.2<=S)(hs:S<=S')(h:A9e m ws S b g)(h':A4x m ws' S' b g):False:=by
 let⟨t,h1,_,h2⟩:=h;let⟨t',k1,_,k2⟩:=h';rw[E2o (B6h OO hs (C6q hb b0 b1) hw.bet (A8p _) h1 k1) h2] at k2;cases k2
theorem E2p {b g:Sp2}{o o':Option Int}(hw:W4 ws ws')(hb:A0d m b)(h:A69 m ws b g o)(k:A69 m ws' b g o'):o=o':=by
 let⟨M,hM,h⟩:=h;let⟨N,hN,k⟩:=k;cases (C7j hw hM).uniq hN;have hlo:b.2<=mxI b.2 g.2:=by unfold mxI;split <;> omega
 have key:∀{W W':!Wy},W4 W W'->∀S S',mxI b.2 g.2<=S->A9e m W S b g->(S'=mxI b.2 g.2\/A4x m W' (S'-1) b g)->S'<=S:=λ{W W'} hW S S' h1 h2 h3=>by
  rcases h3 with h3 | h3
  ·omega
  ·rcases Int.lt_or_le S S' with c | c
   ·exact (B92 hW hb.1 hb.2.1 OO OO h2 h3).elim
   ·exact c
 rcases h with ⟨rfl,h1⟩ | ⟨S,rfl,h1,h2,h3,h4⟩
 ·rcases k with ⟨rfl,k1⟩ | ⟨S',rfl,k1,k2,k3,k4⟩
  ·rfl
  ·exact (B92 hw.symm hb.1 hb.2.1 OO k2 k3 h1).elim
 ·rcases k with ⟨rfl,k1⟩ | ⟨S',rfl,k1,k2,k3,k4⟩
  ·exact (B92 hw hb.1 hb.2.1 OO h2 h3 k1).elim
  ·have a1:=key hw S S' h1 h3 k4;have a2:=key hw.symm S' S k1 k3 h4;congr 1;omega
theorem C7k {t s:Tb}(hw:W4 ws ws')(ok:J2 m ws)(ok':J2 m ws')(hs:s.length=m):leT (L6 m ws st t s).1 (L6 m ws' st t s).1:=λp=>by
 have I:=Y1 (st:=st) (t:=t) ok hs;have J:=Y1 (st:=st) (t:=t) ok' hs;cases e:gt (L6 m ws st t s).2 p with
 | none=>rw[I.no p e];exact J.up p
 | some n=>let⟨w,h,e1,e2,_⟩:=I.yes p n e;rw[e2,<-e1];exact B58 ok' hs ((hw w).mp (U4 h))
theorem E2q {t s:Tb}(hw:W4 ws ws')(ok:J2 m ws)(ok':J2 m ws')(hs:s.length=m):(L6 m ws st t s).1=(L6 m ws' st t s).1:=
 B57 ((Y1 (st:=st) (t:=t) ok hs).l1.trans (Y1 (st:=st) (t:=t) ok' hs).l1.symm) (C7k hw ok ok' hs) (C7k hw.symm ok' ok hs)
theorem C7l {b:Sp2}(hw:W4 ws ws')(ok:J2 m ws)(ok':J2 m ws'):∀k,skF m ws st b k=skF m ws' st b k
 | 0=>rfl
 | k+1=>by
  show (L6 m ws st (skF m ws st b k) (G1 m none)).1=(L6 m ws' st (skF m ws' st b k) (G1 m none)).1;rw[<-C7l hw ok ok' k];exact E2q hw ok ok' d9
theorem E2r {b g:Sp2}{most:Nat}{d d':PyData}(hw:W4 ws ws')(ok:J2 m ws)(ok':J2 m ws')(h:A9f m ws st b g most d)(k:A9f m ws' st b g most d'):soW d=soW d':=by
 have sk:∀k,skF m ws' st b k=skF m ws st b k:=λk=>(C7l hw ok ok' k).symm;rcases h with ⟨rfl,h1⟩ | ⟨L,ns,l,rfl,hL,h1,h2,h3,_⟩
 ·rcases k with ⟨rfl,_⟩ | ⟨L',ns',l',rfl,kL,_,k2,_⟩
  ·rfl
  ·rw[sk,h1 L' kL] at k2;cases k2
 ·rcases k with ⟨rfl,k1⟩ | ⟨L',ns',l',rfl,kL,k1,k2,k3,_⟩
  ·have:=k1 L hL;rw[sk] at this;rw[this] at h2;cases h2
  ·have e:L=L':=by
    rcases Nat.lt_trichotomy L L' with c | c | c
    ·have:=k1 L c;rw[sk] at this;rw[this] at h2;cases h2
    ·exact c
    ·rw[sk,h1 L' c] at k2;cases k2
   show itx ((J0 ns).length:Nat)=itx ((J0 ns').length:Nat);unfold J0;rw[B7,B7,h3,k3,e]
theorem E2s {g a b:Tb}{kws kws':Kw}(hw:W4 (wsF kws) (wsF kws'))(h0:0<=st)(hg:F3 m st g)(h:b9 m st g kws a)(k:b9 m st g kws' b):a=b:=by
 let⟨t,h1,rfl⟩:=h;let⟨u,h2,rfl⟩:=k;rw[B91 hw.turn h0 (B9s hg) h1 h2]
theorem E2t {low:Tb}(h:b9 m st (noT m) [] low):low=noT m:=by
 let⟨t,h1,rfl⟩:=h;have e0:lkF st (noT m)=noT m:=by unfold lkF noT;rw[C8q];rfl
 have ew:wsF []=[]:=by unfold wsF srt F4;simp
 rw[e0,ew] at h1;have:=h1.le (noT m) (A7b m st) (A8p _) λw hw=>absurd hw Z4;have e:=B57 (h1.tab.len.trans (A7b m st).len.symm) this h1.up;rw[e,e0]
end
theorem A9h:∀{kws:Kw}{x:Int}{w:Wy},(F4 kws).Nodup->(x,w)∈kws->J7 kws x=some w
 | [],_,_,_,h=>absurd h Z4
 | q::r,x,w,nd,h=>by
  rw[A9a];unfold F4 at nd;rw[K9,B4e] at nd;rcases K7.mp h with rfl | h
  ·rw[if_pos rfl]
  ·rw[if_neg λ(z:q.1=x)=>nd.1 (L0.mpr ⟨_,h,z.symm⟩)];exact A9h nd.2 h
theorem E2u {kws:Kw}(nd:(F4 kws).Nodup)(w:Wy):w∈wsF kws↔∃x,(x,w)∈kws:=by
 unfold wsF;rw[L0];constructor
 ·rintro ⟨x,hx,e⟩;have hx':=(A0s _).mem_iff.mp hx;unfold F4 at hx';let⟨⟨x',w'⟩,hq,rfl⟩:=L0.mp hx';have:=A9h nd hq;rw[this] at e;exact⟨x',by rw[<-e];exact hq⟩
 ·rintro ⟨x,hq⟩;exists x,(A0s _).mem_iff.mpr (L0.mpr ⟨_,hq,rfl⟩);rw[A9h nd hq];rfl
theorem E2v {a b:Kw}(p:a.Perm b)(nd:(F4 a).Nodup)(x:Int):J7 a x=J7 b x:=by
 have nd':(F4 b).Nodup:=(p.map Prod.fst).nodup_iff.mp nd;cases e:J7 a x with
 | some w=>exact (A9h nd' (p.mem_iff.mp (A63 e))).symm
 | none=>
  cases e':J7 b x with
  | none=>rfl
  | some w=>have:=A9h nd (p.mem_iff.mpr (A63 e'));rw[e] at this;cases this
theorem E2w {a b:Kw}(p:a.Perm b)(nd:(F4 a).Nodup):A1a a=A1a b:=by
 have e:srt (F4 a)=srt (F4 b):=D9h (p.map Prod.fst);have e2:J7 a=J7 b:=funext (E2v p nd);unfold A1a;rw[e,e2]
theorem A3d {H:Hp}{hd hl b:Addr}{xs:!V}(h:Hd H hd hl)(e:H b=some (.tup xs)):b≠hd:=λz=>by
 let⟨_,_,_,_,_,_,_,_,y⟩:=h;rw[z,y] at e;cases e
theorem A4y {hd hl:Addr}{n:Int}{Hx:Hp}{Qv:VK}(n0:0<n)(n1:n<100000000000000000000000000000000000000)(hx:Hd Hx hd hl)(q:∀r Hy,0<=r->r<n->Kp hd Hx Hy->Hd Hy hd hl->Qv (.int r) Hy):spD [.hd,.sh] C5f [.ref hd,.int n] Hx Qv E0:=
 A84 (E:=E0) (λd=>∃r:Int,(0<=r/\r<n)/\d=.int r) hx (.cons (.int _) .nil) ⟨n,rfl,n0,OO,λr r0 r1=>⟨r,⟨r0,r1⟩,rfl⟩⟩ λd v Hy hd' tv ky hy=>by
  let⟨r,⟨r0,r1⟩,rfl⟩:=hd';cases tv;exact q r Hy r0 r1 (λb o e n=>ky b o e λq hq=>by cases hq;exact n) hy
def SpB (m:Nat)(top:Int)(b:Sp2):Prop:=b.1<m/\0<=b.2/\b.2<=top
def R8.wd:R8->Str
 | .lay _ _=> "lay"
 | .lift _=> "lift"
 | .turn _ _=> "turn"
 | .refill _=> "refill"
 | .aim _=> "aim"
inductive Ask
 | least
 | ways
 | highest (t:Tb)
 | any (t:Tb)
 | store (b g:Sp2)
 | soon (b g:Sp2) (n:Nat)
def Ask.wd:Ask->Str
 | .least=> "least"
 | .ways=> "ways"
 | .highest _=> "highest"
 | .any _=> "any"
 | .store _ _=> "store"
 | .soon _ _ _=> "soon"
def spO (b g:Sp2)(r:Tb):Tb:=some ((b.1:Nat):Int)::some b.2::some ((g.1:Nat):Int)::some g.2::r
def Ask.os:Ask->Tb
 | .least=>[]
 | .ways=>[]
 | .highest t=>t
 | .any t=>t
 | .store b g=>spO b g []
 | .soon b g n=>spO b g [some ((n:Nat):Int)]
def c9 (m:Nat)(st:Int):Ask->Prop
 | .least=>True
 | .ways=>True
 | .highest t=>F3 m st t
 | .any t=>F3 m st t/\F3 m ∅ t
 | .store b g=>A0d m b/\A0d m g
 | .soon b g n=>A0d m b/\A0d m g/\b.2<=st/\g.2<=st/\n<=200
def A4z (k:Kst):Ask->Str->Prop
 | .least,x=>∃low,b9 k.m k.st k.g k.kws low/\x=tbW low
 | .ways,x=>x=A1a k.kws
 | .highest b,x=>∃t0,S1 k.m (wsF k.kws) k.st b t0/\x=tbW t0
 | .any b,x=>∃vs,B0y k.m (wsF k.kws) b vs/\x=L1 (vs.map ovW)
 | .store b g,x=>∃o,A69 k.m (wsF k.kws) b g o/\x=lsW o
 | .soon b g n,x=>∃d,A9f k.m (wsF k.kws) k.st b g n d/\x=soW d
inductive Cmd
 | land (m:Nat) (st:Int)
 | deed (dd:R8)
 | ask (a:Ask)
def Cmd.wd:Cmd->Str
 | .land _ _=> "land"
 | .deed dd=>dd.wd
 | .ask a=>a.wd
def Cmd.os:Cmd->Tb
 | .land m st=>[some ((m:Nat):Int),some st]
 | .deed dd=>dd.os
 | .ask a=>a.os
def Cmd.tx (c:Cmd):Str:=L1 (c.wd::c.os.map lvW)
def B0z:Option Kst->Cmd->Option Kst->Prop
 | _,.land m st,o=>(1<=m/\m<=12)/\(0<=st/\st<=100000000000000000000)/\o=some ⟨m,st,noT m,[],[]⟩
 | some k,.deed dd,o=>A66 k dd/\o=some { Q1 k dd with low:=[] }
 | some k,.ask a,o=>c9 k.m k.st a/\o=some k
 | none,_,_=>False
inductive Run:Option Kst->!Cmd->Option Kst->Prop
 | nil {s}:Run s [] s
 | cons {s c s1 cs s2}:B0z s c s1->Run s1 cs s2->Run s (c::cs) s2
theorem Run.app {s s1 s2:Option Kst}{a b:!Cmd}(h:Run s a s1)(k:Run s1 b s2):Run s (a++b) s2:=by
 induction h with
 | nil=>exact k
 | cons x _ ih=>exact .cons x (ih k)
theorem B37:∀ws:!Str,(∀w∈ws,w.length<=61)->(jn ws).length<=ws.length*62
 | [],_=>by show 0<=_;omega
 | [w],h=>by
  rw[a8,<-W2];have:=h w E5;show _<=1*62;omega
 | w::v::r,h=>by
  have h1:=h w E5;have h2:=B37 (v::r) λu hu=>h u (E3 _ hu);rw[A0b,L3,J6,<-W2,J6 (a:=w)];omega
theorem C7m {x w0:Str}{os:Tb}(e:cp x=jn (w0::os.map lvW))(hl:w0.length<=10)(hw:32∉cp w0)(h3:∀n,some n∈os->n.natAbs<10^60)(h4:os.length<=400)(h5:(Tbl w0=true/\os≠[])\/(Tbl w0=false/\NmB w0=some os.length/\∀o∈os,o≠none)):A0e x w0 os:=by
 refine⟨?_,e,hw,h3,h4,h5⟩;rw[W2,e];have:=B37 (w0::os.map lvW) λw hw=>by
  rcases K7.mp hw with rfl | hw
  ·omega
  ·let⟨o,ho,rfl⟩:=L0.mp hw;cases o with
   | none=>show Str.length "-" <=61;decide
   | some n=>exact R6 (h3 n ho)
 rw[J6,B7] at this;omega
theorem B93:cp (Str.ofString " ")=[32]:=by decide
theorem V5 (ws:!Str):cp (L1 ws)=jn ws:=B6r ws
theorem i60 {n:Int}(h0:-100000000000000000000<=n)(h:n<=100000000000000000000):n.natAbs<10^60:=A2f (show n.natAbs<=100000000000000000000 by omega) (DD)
theorem C7n {m:Nat}{st:Int}{t:Tb}(h:F3 m st t)(h1:st<=100000000000000000000):∀n,some n∈t->n.natAbs<10^60:=λn ho=>by
 let⟨p,hp⟩:=C8p ho;have:=h.bd p n (by unfold gt;rw[hp];rfl);exact i60 OO (OO)
theorem B38 {m:Nat}{st:Int}{t:Tb}(h:F3 m st t)(m1:1<=m):t≠[]:=λz=>by
 have:=h.len;rw[z] at this;have:(0:Nat)=m:=this;omega
theorem A3e {w0:Str}{os:Tb}(tb:Tbl w0=false)(nm:NmB w0=some os.length)(hl:w0.length<=10)(hw:32∉cp w0)(l4:os.length<=400)(h:∀o∈os,∃n:Int,o=some n/\-100000000000000000000<=n/\n<=100000000000000000000):A0e (L1 (w0::os.map lvW)) w0 os:=by
 refine C7m (V5 _) hl hw (λn hn=>?_) l4 (.inr ⟨tb,nm,λo ho z=>?_⟩)
 ·let⟨n',e,a,b⟩:=h _ hn;cases e;exact i60 a b
 ·let⟨n',e,_⟩:=h _ ho;rw[z] at e;cases e
theorem B94 {w0:Str}{m:Nat}{st:Int}{t:Tb}(tb:Tbl w0=true)(hl:w0.length<=10)(hw:32∉cp w0)(h:F3 m st t)(h1:st<=100000000000000000000)(m1:1<=m)(m2:m<=12):A0e (L1 (w0::t.map lvW)) w0 t:=
 C7m (V5 _) hl hw (C7n h h1) (by have:=h.len;omega) (.inl ⟨tb,B38 h m1⟩)
theorem bds {os:!Int}(h:∀n∈os,-100000000000000000000<=n/\n<=100000000000000000000):∀o∈os.map some,∃n:Int,o=some n/\-100000000000000000000<=n/\n<=100000000000000000000:=λo ho=>by
 let⟨n,hn,rfl⟩:=L0.mp ho;exact⟨n,rfl,h n hn⟩
theorem B39 {k:Kst}{dd:R8}(ok:KOk k.m k.st k.g k.kws)(h:A66 k dd):A0e (Cmd.deed dd).tx dd.wd dd.os:=by
 have m1:=ok.m1;have m2:=ok.m2;have s1:=ok.s1;cases dd with
 | lay x w=>
  let⟨⟨a,b⟩,_,c,_⟩:=h;have h1:=c.st;have h2:=c.en;have h3:=c.lo;have h4:=c.hi;exact A3e (w0:= "lay") (os:=[x,((w.1:Nat):Int),((w.2.1:Nat):Int),w.2.2].map some) DD rfl DD DD (by show 4<=400;decide) (bds λn hn=>by
   simp only[K7,Z4,or_false] at hn;rcases hn with rfl | rfl | rfl | rfl <;> omega)
 | lift x=>
  let⟨⟨a,b⟩,_⟩:=h;exact A3e (w0:= "lift") (os:=[x].map some) DD rfl DD DD (by show 1<=400;decide) (bds λn hn=>by
   simp only[K7,Z4,or_false] at hn;subst hn;omega)
 | turn x c=>
  let⟨⟨⟨a,b⟩,_⟩,c0,c1⟩:=h;exact A3e (w0:= "turn") (os:=[x,c].map some) DD rfl DD DD (by show 2<=400;decide) (bds λn hn=>by
   simp only[K7,Z4,or_false] at hn;rcases hn with rfl | rfl <;> omega)
 | refill s=>
  let⟨⟨a,b⟩,_⟩:=h;exact A3e (w0:= "refill") (os:=[s].map some) DD rfl DD DD (by show 1<=400;decide) (bds λn hn=>by
   simp only[K7,Z4,or_false] at hn;subst hn;omega)
 | aim g=>exact B94 (w0:= "aim") DD DD DD h s1 m1 m2
theorem B95 {m:Nat}{st:Int}(m2:m<=12)(s0:0<=st)(s1:st<=100000000000000000000):A0e (Cmd.land m st).tx "land" [some ((m:Nat):Int),some st]:=
 A3e (w0:= "land") (os:=[((m:Nat):Int),st].map some) DD rfl DD DD (by show 2<=400;decide) (bds λn hn=>by
  simp only[K7,Z4,or_false] at hn;rcases hn with rfl | rfl <;> omega)
theorem B96 {m:Nat}{st:Int}(m1:1<=m)(m2:m<=12)(s1:st<=100000000000000000000):∀{a:Ask},c9 m st a->A0e (Cmd.ask a).tx a.wd a.os
 | .least,_=>A3e (w0:= "least") (os:=[]) DD rfl DD DD DD λo ho=>nomatch ho
 | .ways,_=>A3e (w0:= "ways") (os:=[]) DD rfl DD DD DD λo ho=>nomatch ho
 | .highest t,h=>B94 (w0:= "highest") DD DD DD h s1 m1 m2
 | .any t,h=>B94 (w0:= "any") DD DD DD h.1 s1 m1 m2
 | .store b g,⟨⟨b1,b2,b3⟩,g1,g2,g3⟩=>A3e (w0:= "store") (os:=[((b.1:Nat):Int),b.2,((g.1:Nat):Int),g.2].map some) DD rfl DD DD (by show 4<=400;decide) (bds λn hn=>by
   simp only[K7,Z4,or_false] at hn;rcases hn with rfl | rfl | rfl | rfl <;> omega)
 | .soon b g n,⟨⟨b1,b2,b3⟩,⟨g1,g2,g3⟩,_,_,hn⟩=>A3e (w0:= "soon") (os:=[((b.1:Nat):Int),b.2,((g.1:Nat):Int),g.2,((n:Nat):Int)].map some) DD rfl DD DD (by show 5<=400;decide) (bds λn hn=>by
   simp only[K7,Z4,or_false] at hn;rcases hn with rfl | rfl | rfl | rfl | rfl <;> omega)
theorem E2x {w0:Str}{ws:!Str}(h3:3<=(cp w0).length)(h:4<=(cp w0).length\/ws≠[]):(jn (w0::ws)).take 4=(cp w0++[32]).take 4:=by
 cases ws with
 | nil=>have h4:4<=(cp w0).length:=h.resolve_right λz=>z rfl;rw[a8,List.take_append_of_le_length h4]
 | cons v r=>rw[A0b,show cp w0++32::jn (v::r)=(cp w0++[32])++jn (v::r) by simp,List.take_append_of_le_length (by rw[L3];show 4<=_+1;omega)]
theorem E2y (x:Str)(h:4<=x.length):cp (Txt.slice x none (some 4))=(cp x).take 4:=by
 have:=C4r x (a:=0) (b:=4) DD h;rw[B4m] at this;exact this
def Cmd.isLand:Cmd->Bool
 | .land _ _=>true
 | _=>false
theorem wd4 (c:Cmd):(3<=(cp c.wd).length)/\decide ((cp c.wd++[32]).take 4=cp "land")=c.isLand:=by
 cases c with
 | land m st=>exact⟨by show 3<=(cp "land").length;decide,by show decide ((cp "land" ++[32]).take 4=cp "land")=true;decide⟩
 | deed dd=>
  cases dd with
  | lay x w=>exact⟨by show 3<=(cp "lay").length;decide,by show decide ((cp "lay" ++[32]).take 4=cp "land")=false;decide⟩
  | lift x=>exact⟨by show 3<=(cp "lift").length;decide,by show decide ((cp "lift" ++[32]).take 4=cp "land")=false;decide⟩
  | turn x w=>exact⟨by show 3<=(cp "turn").length;decide,by show decide ((cp "turn" ++[32]).take 4=cp "land")=false;decide⟩
  | refill x=>exact⟨by show 3<=(cp "refill").length;decide,by show decide ((cp "refill" ++[32]).take 4=cp "land")=false;decide⟩
  | aim x=>exact⟨by show 3<=(cp "aim").length;decide,by show decide ((cp "aim" ++[32]).take 4=cp "land")=false;decide⟩
 | ask a=>
  cases a with
  | least=>exact⟨by show 3<=(cp "least").length;decide,by show decide ((cp "least" ++[32]).take 4=cp "land")=false;decide⟩
  | ways=>exact⟨by show 3<=(cp "ways").length;decide,by show decide ((cp "ways" ++[32]).take 4=cp "land")=false;decide⟩
  | highest x=>exact⟨by show 3<=(cp "highest").length;decide,by show decide ((cp "highest" ++[32]).take 4=cp "land")=false;decide⟩
  | any x=>exact⟨by show 3<=(cp "any").length;decide,by show decide ((cp "any" ++[32]).take 4=cp "land")=false;decide⟩
  | store b g=>exact⟨by show 3<=(cp "store").length;decide,by show decide ((cp "store" ++[32]).take 4=cp "land")=false;decide⟩
  | soon b g n=>exact⟨by show 3<=(cp "soon").length;decide,by show decide ((cp "soon" ++[32]).take 4=cp "land")=false;decide⟩
theorem wdl {c:Cmd}(R:A0e c.tx c.wd c.os):4<=(cp c.wd).length\/c.os.map lvW≠[]:=by
 let⟨_,_,_,_,_,R⟩:=R;rcases R with ⟨_,n⟩ | ⟨tb,nm,_⟩
 ·exact .inr λz=>n (A7n.mp z)
 ·cases c with
  | land m st=>exact .inl (by show 4<=(cp "land").length;decide)
  | deed dd=>
   cases dd with
   | lay x w=>exact .inr (λz=>nomatch z)
   | lift x=>exact .inr (λz=>nomatch z)
   | turn x w=>exact .inr (λz=>nomatch z)
   | refill x=>exact .inr (λz=>nomatch z)
   | aim x=>exact absurd tb (by show ¬ Tbl "aim" = false;decide)
  | ask a=>
   cases a with
   | least=>exact .inl (by show 4<=(cp "least").length;decide)
   | ways=>exact .inl (by show 4<=(cp "ways").length;decide)
   | highest x=>exact .inl (by show 4<=(cp "highest").length;decide)
   | any x=>exact absurd tb (by show ¬ Tbl "any" = false;decide)
   | store b g=>exact .inl (by show 4<=(cp "store").length;decide)
   | soon b g n=>exact .inl (by show 4<=(cp "soon").length;decide)
theorem C7o {c:Cmd}(R:A0e c.tx c.wd c.os):c.tx.length<=1000000/\decide (V.str (Txt.slice c.tx none (some 4))=V.str "land")=c.isLand:=by
 have h:=E2x (wd4 c).1 (wdl R);have e:cp c.tx=jn (c.wd::c.os.map lvW):=V5 _;have l3:=(wd4 c).1;have l4:4<=c.tx.length:=by
  have:=congrArg B07 h;rw[X5,X5,L3] at this;rw[W2,e];have l1:([32]:!Nat).length=1:=rfl;omega
 exists R.1;rw[<-(wd4 c).2,<-h,<-e,<-E2y _ l4,decide_eq_decide];exact⟨λz=>by rw[V.str.inj z],λz=>by rw[Y2 z]⟩
def OkS (x:Str):Prop:=∀c∈cp x,c<0x110000
theorem A3f (s:String):OkS (Str.ofString s):=λc hc=>by
 rw[B6q] at hc;let⟨a,_,rfl⟩:=L0.mp hc;have:=a.valid;have e:a.toNat=a.val.toNat:=rfl;rcases this with h | h
 ·have h:a.val.toNat<0xd800:=h;omega
 ·have h:a.val.toNat<0x110000:=h.2;omega
theorem C7p:∀{ws:!Str},(∀w∈ws,OkS w)->∀c∈jn ws,c<0x110000
 | [],_,_,h=>absurd h Z4
 | [w],h,c,hc=>by
  rw[a8] at hc;exact h w E5 c hc
 | w::v::r,h,c,hc=>by
  rw[A0b] at hc;rcases p7.mp hc with hc | hc
  ·exact h w E5 c hc
  ·rcases K7.mp hc with rfl | hc
   ·decide
   ·exact C7p (λu hu=>h u (E3 _ hu)) c hc
theorem C7q {ws:!Str}(h:∀w∈ws,OkS w):OkS (L1 ws):=λc hc=>C7p h c (by rw[<-V5];exact hc)
theorem C7r (t:Tb):OkS (tbW t):=C7q λw hw=>by
 let⟨o,_,rfl⟩:=L0.mp hw;cases o with
 | none=>exact A3f "-"
 | some n=>exact A3f _
theorem C7s:∀{ts:!Str},(∀t∈ts,OkS t)->PyData.canLayAll0 (ts.map PyData.str)=true/\PyData.depthAll (ts.map PyData.str)=0
 | [],_=>⟨rfl,rfl⟩
 | t::ts,h=>by
  let⟨a,b⟩:=C7s λx hx=>h x (E3 _ hx);constructor
  ·show (PyData.canLay0 (.str t)&&PyData.canLayAll0 (ts.map PyData.str))=true;rw[a,Bool.and_true];show t.cps.all (· < 0x110000)=true;rw[<-Array.all_toList,B09];exact λc hc=>decide_eq_true (h t E5 c hc)
  ·show max (PyData.depth (.str t)) (PyData.depthAll (ts.map PyData.str))=0;rw[b];rfl
theorem B97 {K:A8}{H:Hp}:∀ts:!Str,A01 K H (ts.map V.str) (ts.map PyData.str)
 | []=>.nil
 | t::ts=>.cons (.str t) (B97 ts)
theorem E2z {k:Kst}{a:Ask}(n:a≠.ways){x:Str}(h:A4z k a x):OkS x:=by
 cases a with
 | least=>let⟨low,_,rfl⟩:=h;exact C7r _
 | ways=>exact absurd rfl n
 | highest t=>let⟨low,_,rfl⟩:=h;exact C7r _
 | any t=>
  let⟨vs,_,rfl⟩:=h;refine C7q λw hw=>?_;let⟨o,_,rfl⟩:=L0.mp hw;cases o with
  | no=>exact A3f "-"
  | any=>exact A3f "any"
  | num n=>exact A3f _
 | store b g=>
  let⟨o,_,rfl⟩:=h;cases o with
  | none=>exact A3f "none"
  | some n=>exact A3f _
 | soon b g n=>
  let⟨d,hd,rfl⟩:=h;rcases hd with ⟨rfl,_⟩ | ⟨L,ns,l,rfl,_⟩
  ·exact A3f "not"
  ·exact A3f _
structure B98 (k k':Kst):Prop where
 m:k.m=k'.m
 st:k.st=k'.st
 g:k.g=k'.g
 ws:W4 (wsF k.kws) (wsF k'.kws)
theorem E20 {k k':Kst}(h:B98 k k')(ok:KOk k.m k.st k.g k.kws)(ok':KOk k'.m k'.st k'.g k'.kws){a:Ask}(n:a≠.ways)(ao:c9 k.m k.st a){x y:Str}(hx:A4z k a x)(hy:A4z k' a y):x=y:=by
 let⟨m,st,g,kws,low⟩:=k;let⟨m',st',g',kws',low'⟩:=k';let⟨h1,h2,h3,hw⟩:=h;cases (show m=m' from h1);cases (show st=st' from h2);cases (show g=g' from h3);have hw:W4 (wsF kws) (wsF kws'):=hw;have ok:KOk m st g kws:=ok;have ok':KOk m st g kws':=ok';cases a with
 | least=>let⟨a,la,rfl⟩:=hx;let⟨b,lb,rfl⟩:=hy;rw[E2s hw ok.s0 ok.gt la lb]
 | ways=>exact absurd rfl n
 | highest t=>let⟨a,la,rfl⟩:=hx;let⟨b,lb,rfl⟩:=hy;rw[B91 hw ok.s0 ao la lb]
 | any t=>let⟨a,la,rfl⟩:=hx;let⟨b,lb,rfl⟩:=hy;rw[E2n hw la lb]
 | store b g=>let⟨o,la,rfl⟩:=hx;let⟨o',lb,rfl⟩:=hy;rw[E2p hw ao.1 la lb]
 | soon b g n=>let⟨d,la,rfl⟩:=hx;let⟨d',lb,rfl⟩:=hy;exact E2r hw ok.land ok'.land la lb
theorem E21 {K:A8}{mg:Str->Option Value}(T:Txt K mg)(dd:R8):∃a Dp,Y4 T dd.wd a (A1o Dp) (j0 Dp)/\Dp dd/\∀dd',Dp dd'->dd.os=dd'.os->dd'=dd:=by
 cases dd with
 | lay x w0=>
  refine⟨_,A4r,.lay,⟨_,_,rfl⟩,λdd' h e=>?_⟩;let⟨x',⟨a,b,c⟩,rfl⟩:=h;let⟨a0,b0,c0⟩:=w0;simp only[R8.os,A1f.injEq,Option.some.injEq,and_true] at e;let⟨i1,i2,i3,i4⟩:=e;have i2:a0=a:=by omega
  have i3:b0=b:=by omega
  rw[i1,i2,i3,i4]
 | lift x=>refine⟨_,A4s,.lift,⟨_,rfl⟩,λdd' h e=>?_⟩;let⟨x',rfl⟩:=h;cases e;rfl
 | turn x c=>refine⟨_,A4t,.turn,⟨_,_,rfl⟩,λdd' h e=>?_⟩;let⟨x',c',rfl⟩:=h;cases e;rfl
 | refill x=>refine⟨_,A4u,.refill,⟨_,rfl⟩,λdd' h e=>?_⟩;let⟨x',rfl⟩:=h;cases e;rfl
 | aim g=>refine⟨_,A4v,.aim,⟨_,rfl⟩,λdd' h e=>?_⟩;let⟨g',rfl⟩:=h;cases (show g=g' from e);rfl
theorem E22 {K:A8}{mg:Str->Option Value}(T:Txt K mg)(a:Ask):∃ad pre post,Y4 T a.wd ad pre post/\∀k,KOk k.m k.st k.g k.kws->b9 k.m k.st k.g k.kws k.low->c9 k.m k.st a->pre k a.os/\∀k' t,post k a.os k' t->k'=k/\A4z k a t:=by
 cases a with
 | least=>exact⟨_,_,_,.least,λk ok lo ao=>⟨⟨rfl,ok,lo⟩,λk' t po=>⟨po.1,k.low,lo,po.2⟩⟩⟩
 | ways=>exact⟨_,_,_,.ways,λk ok lo ao=>⟨⟨rfl,ok,lo⟩,λk' t po=>po⟩⟩
 | highest b=>exact⟨_,_,_,.highest,λk ok lo ao=>⟨⟨ok,ao⟩,λk' t po=>po⟩⟩
 | any b=>exact⟨_,_,_,.any,λk ok lo ao=>⟨⟨ok,ao⟩,λk' t po=>po⟩⟩
 | store b g=>
  refine⟨_,_,_,.store,λk ok lo ao=>⟨⟨ok,b,g,rfl,ao.1,ao.2⟩,λk' t po=>?_⟩⟩;let⟨ek,b5,g5,o5,e5,ls5,rfl⟩:=po;have eab:b=b5/\g=g5:=by
   simp only[Ask.os,spO,A1f.injEq,Option.some.injEq,and_true] at e5;let⟨i1,i2,i3,i4⟩:=e5;exact⟨Prod.ext OO i2,Prod.ext OO i4⟩
  let⟨rfl,rfl⟩:=eab;exact⟨ek,o5,ls5,rfl⟩
 | soon b g n=>
  refine⟨_,_,_,.soon,λk ok lo ao=>⟨⟨ok,b,g,n,rfl,ao.1,ao.2.1,ao.2.2.1,ao.2.2.2.1,ao.2.2.2.2⟩,λk' t po=>?_⟩⟩;let⟨ek,b5,g5,n5,d5,e5,ls5,rfl⟩:=po;have eab:b=b5/\g=g5/\n=n5:=by
   simp only[PrS,Ask.os,spO,A1f.injEq,Option.some.injEq,and_true] at e5;let⟨i1,i2,i3,i4,i5⟩:=e5;exact⟨Prod.ext OO i2,Prod.ext OO i4,OO⟩
  let⟨rfl,rfl,rfl⟩:=eab;exact⟨ek,d5,ls5,rfl⟩
def KL (hd:Addr)(H H':Hp):Prop:=∀b o,H b=some o->b≠hd->((∃xs,o=.lst xs)\/∃xs,o=.tup xs)->H' b=some o
structure DkK (Cd C hd:Addr)(H:Hp)(q p d:Addr)(k:Kst):Prop where
 dk:T8 Cd H q (.ref p)
 ok:KOk k.m k.st k.g k.kws
 kp:∃b,b9 k.m k.st k.g k.kws b/\J1 (λc=>c≠hd) C H p d { k with low:=b }
variable {hd hl q:Addr}
section
variable {Cd q' p' d':Addr}{k':Kst}{H2:Hp}
theorem KL.tr (a:KL hd H H')(b:KL hd H' H2):KL hd H H2:=λc o e n z=>b _ _ (a _ _ e n z) n z
theorem KL.lst (a:KL hd H H'){b:Addr}{xs:!V}(e:H b=some (.lst xs))(n:b≠hd):H' b=some (.lst xs):=a _ _ e n (.inl ⟨_,rfl⟩)
theorem KL.tup (a:KL hd H H')(hh:Hd H hd hl){b:Addr}{xs:!V}(e:H b=some (.tup xs)):H' b=some (.tup xs):=a _ _ e (A3d hh e) (.inr ⟨_,rfl⟩)
theorem A2c (s:Same H H'):KL hd H H':=λb o e J J=>s _ _ e
theorem A40 (s:Kp hd H H'):KL hd H H':=λb o e n J=>s _ _ e n
theorem DkK.kl (D:DkK Cd C hd H q p d k)(fr:Frp p d H H'):KL hd H H':=λb o e n z=>by
 let⟨b0,_,kp⟩:=D.kp;rcases z with ⟨xs,rfl⟩ | ⟨xs,rfl⟩
 ·exact fr _ _ e (X3 kp e).1 (X3 kp e).2
 ·exact fr _ _ e (W3 kp e).1 (W3 kp e).2
theorem T8.frq {v w:V}(D:T8 Cd H q v)(fr:∀b o,H b=some o->b≠q'->H' b=some o)(n:q≠q'):T8 Cd H' q v:=by
 let⟨dx,e⟩:=D;exact⟨dx,fr _ _ e n⟩
theorem C7t {v:V}(D:T8 Cd H q v)(hh:Hd H hd hl)(s:Kp hd H H'):T8 Cd H' q v:=by
 let⟨dx,e⟩:=D;refine⟨dx,s _ _ e λz=>?_⟩;let⟨_,_,_,_,_,_,_,_,x⟩:=hh;rw[z,x] at e;cases e
theorem DkK.draw (D:DkK Cd C hd H q p d k)(hh:Hd H hd hl)(s:Kp hd H H'):DkK Cd C hd H' q p d k:=by
 let⟨b,lb,kp⟩:=D.kp;refine⟨C7t D.dk hh s,D.ok,b,lb,kp.mv (λb o e n=>s b o e λz=>?_) λJ z=>z⟩;let⟨_,_,_,_,_,_,_,_,x⟩:=hh;rw[z,x] at e;cases e;exact n _ rfl z
theorem E23 {F G:Addr->Prop}(h:J1 F C H p d k)(h':J1 G C H p' d' k')(np:p≠p')(nd:d≠d')(fr:Frp p' d' H H'):J1 F C H' p d k:=by
 have h'':=h';let⟨⟨dx,g,l,ug,ul,e1,g1,e2,t2,g3,e3,t3⟩,kw,e4,kv⟩:=h;let⟨⟨dx',g',l',ug',ul',f1,_⟩,kw',f4,_⟩:=h';have nl:∀{b:Addr}{xs:!V},H b=some (.lst xs)->H' b=some (.lst xs):=λe=>fr _ _ e (X3 h'' e).1 (X3 h'' e).2;exact⟨⟨dx,g,l,ug,ul,fr _ _ e1 np (λz=>by rw[z,f4] at e1;cases e1),g1,nl e2,M4 t2,g3,nl e3,M4 t3⟩,kw,fr _ _ e4 (λz=>by rw[z,f1] at e4;cases e4) nd,kv.mv λb xs x=>fr _ _ x (W3 h'' x).1 (W3 h'' x).2⟩
theorem B99 {v:V}{F:Addr->Prop}(h:T8 Cd H q v)(kp:J1 F C H p d k)(fr:Frp p d H H'):T8 Cd H' q v:=by
 let⟨dx,e⟩:=h;let⟨⟨dx',g,l,ug,ul,e1,_⟩,kvs,e4,_⟩:=kp;exact⟨dx,fr _ _ e (λz=>by rw[z,e1] at e;cases e) λz=>by rw[z,e4] at e;cases e⟩
theorem C7u {G:Addr->Prop}(h:Hd H hd hl)(kp:J1 G C H p d k)(fr:Frp p d H H'):Hd H' hd hl:=by
 have mv:∀b xs,H b=some (.lst xs)->H' b=some (.lst xs):=λb xs e=>fr _ _ e (X3 kp e).1 (X3 kp e).2;let⟨ns,q,b,c,u,v,h1,h2,h3⟩:=h;exact⟨ns,q,b,c,u,v,mv _ _ h1,h2,mv _ _ h3⟩
theorem DkK.other (D:DkK Cd C hd H q p d k)(D':DkK Cd C hd H q' p' d' k')(np:p≠p')(nd:d≠d')(fr:Frp p' d' H H'):DkK Cd C hd H' q p d k:=by
 let⟨b,lb,kp⟩:=D.kp;let⟨b',_,kp'⟩:=D'.kp;exact⟨B99 D.dk kp' fr,D.ok,b,lb,E23 kp kp' np nd fr⟩
theorem DkK.frq (D:DkK Cd C hd H q p d k){v:V}(D':T8 Cd H q' v)(fr:∀b o,H b=some o->b≠q'->H' b=some o)(n:q≠q'):DkK Cd C hd H' q p d k:=by
 let⟨b,lb,kp⟩:=D.kp;let⟨dx',e'⟩:=D';exists T8.frq (w:=v) D.dk fr n,D.ok,b,lb;let⟨⟨dx,g,l,ug,ul,e1,g1,e2,t2,g3,e3,t3⟩,kw,e4,kv⟩:=kp;have nl:∀{b:Addr}{o:HO},H b=some o->(∀dx,o≠.ins Cd dx [("keeper",v)])->H' b=some o:=λe nn=>fr _ _ e λz=>by
  rw[z,e'] at e;cases e;exact nn _ rfl
 exact⟨⟨dx,g,l,ug,ul,nl e1 (λJ z=>by cases z),g1,nl e2 (λJ z=>nomatch z),M4 t2,g3,nl e3 (λJ z=>nomatch z),M4 t3⟩,kw,nl e4 (λJ z=>nomatch z),kv.mv λb xs x=>nl x (λJ z=>nomatch z)⟩
theorem E24 {v:V}(h:Hd H hd hl)(D':T8 Cd H q' v)(fr:∀b o,H b=some o->b≠q'->H' b=some o):Hd H' hd hl:=by
 let⟨dx',e'⟩:=D';have mv:∀b xs,H b=some (.lst xs)->H' b=some (.lst xs):=λb xs e=>fr _ _ e λz=>by rw[z,e'] at e;cases e
 let⟨ns,q,b,c,u,v,h1,h2,h3⟩:=h;exact⟨ns,q,b,c,u,v,mv _ _ h1,h2,mv _ _ h3⟩
theorem T8.nl {v:V}(D':T8 Cd H q' v)(fr:∀b o,H b=some o->b≠q'->H' b=some o):KL hd H H':=λb o e J z=>by
 let⟨dx',e'⟩:=D';refine fr _ _ e λy=>?_;rw[y,e'] at e;cases e;rcases z with ⟨_,z⟩ | ⟨_,z⟩ <;> cases z
end
section
variable {w:World}{K:A8}{mg:Str->Option Value}{Q:VK}
theorem B00{a:Ask}(D:DkK T.ah T.ac hd H q p d k)(hh:Hd H hd hl)(ao:c9 k.m k.st a)(h:∀t H',A4z k a t->DkK T.ah T.ac hd H' q p d k->Hd H' hd hl->Frp p d H H'->Q (.str t) H'):A9g T [.ref q,.str (Cmd.ask a).tx] H Q E0:=by
 let⟨b,lb,kp⟩:=D.kp;let⟨ad,pre,post,an,z⟩:=E22 T a;let⟨pr,po⟩:=z { k with low:=b } D.ok lb ao;refine⟨q,_,_,_,_,rfl,D.dk,B96 D.ok.m1 D.ok.m2 D.ok.s1 ao,.inr ⟨_,_,_,_,p,d,_,rfl,an,λc hc=>(hh.ne hc).1,kp,pr,λk' t H' ps kp' fr=>?_⟩⟩;let⟨rfl,tl⟩:=po k' t ps;refine h t H' ?_ ⟨B99 D.dk kp fr,D.ok,b,lb,kp'⟩ (C7u hh kp fr) fr;cases a <;> exact tl
theorem E25 (k:Kst)(dd:R8)(a b c:Tb):({ Q1 { k with low:=a } dd with low:=b }:Kst)={ ({ Q1 k dd with low:=c }:Kst) with low:=b }:=by cases dd <;> rfl
theorem E26{dd:R8}(D:DkK T.ah T.ac hd H q p d k)(hh:Hd H hd hl)(dok:A66 k dd)(h:∀t H',DkK T.ah T.ac hd H' q p d { Q1 k dd with low:=[] }->Hd H' hd hl->Frp p d H H'->Q (.str t) H'):A9g T [.ref q,.str (Cmd.deed dd).tx] H Q E0:=by
 let⟨b,lb,kp⟩:=D.kp;let⟨an0,Dp,an,hDp,inj⟩:=E21 T dd;have dok':A66 { k with low:=b } dd:=by cases dd <;> exact dok
 refine⟨q,_,_,_,_,rfl,D.dk,B39 D.ok dok,.inr ⟨_,_,_,_,p,d,_,rfl,an,λc hc=>(hh.ne hc).1,kp,⟨dd,hDp,rfl,D.ok,lb,dok'⟩,λk' t H' po kp' fr=>?_⟩⟩;let⟨dd',hd',eos,b',lb',rfl,rfl⟩:=po;obtain rfl:=inj dd' hd' eos;refine h _ H' ⟨B99 D.dk kp fr,A9b D.ok dok,b',?_,?_⟩ (C7u hh kp fr) fr
 ·cases dd' <;> exact lb'
 ·rw[<-E25 k dd' b b' []];exact kp'
theorem E27{v:V}{m:Nat}{st:Int}(D:T8 T.ah H q v)(hh:Hd H hd hl)(m1:1<=m/\m<=12)(s1:0<=st/\st<=100000000000000000000)(h:∀p d H',H p=none->H d=none->DkK T.ah T.ac hd H' q p d ⟨m,st,noT m,[],[]⟩->Hd H' hd hl->(∀b o,H b=some o->b≠q->H' b=some o)->Q (.str "ok") H'):A9g T [.ref q,.str (Cmd.land m st).tx] H Q E0:=by
 refine⟨q,v,_,_,_,rfl,D,B95 m1.2 s1.1 s1.2,.inl ⟨m,st,rfl,rfl,m1.1,m1.2,s1.1,s1.2,λp d low H' lr np nd kp dk fr=>?_⟩⟩;refine h p d H' np nd ⟨dk,⟨m1.1,m1.2,s1.1,s1.2,A7b m st,B4q,Q7 _,λx hx=>absurd hx Z4⟩,low,lr,A4p kp λb xs hb J=>(hh.ne hb).1⟩ (E24 hh D fr) fr
end
def E28:Sp:=λvs H Q J=>∃(x:Int)(a:Addr)(w:Wy),vs=[.int x,.ref a]/\H a=some (.tup [.int ((w.1:Nat):Int),.int ((w.2.1:Nat):Int),.int w.2.2])/\(x.natAbs<10^60/\((w.1:Nat):Int).natAbs<10^60/\((w.2.1:Nat):Int).natAbs<10^60/\w.2.2.natAbs<10^60)/\∀H',Same H H'->Q (.str (Cmd.deed (.lay x w)).tx) H'
def E29 {K:A8}{mg:Str->Option Value}(T:Txt K mg):Sp:=λvs H Q J=>∃(hd hl q p d:Addr)(m:Nat)(st:Int),vs=[.ref q,.str (Cmd.land m st).tx]/\Hd H hd hl/\DkK T.ah T.ac hd H q p d ⟨m,st,noT m,[],[]⟩/\∀H',Hd H' hd hl->DkK T.ah T.ac hd H' q p d ⟨m,st,noT m,[],[]⟩->Frp p d H H'->Q (.bl true) H'
theorem B01 {w0 x0:Str}{ws:!Str}(h:cp x0=cp w0++[32])(n:ws≠[]):x0++L1 ws=L1 (w0::ws):=Y2 (by
 rw[A0a,V5,V5,h];cases ws with
 | nil=>exact absurd rfl n
 | cons v r=>rw[A0b,j9];rfl)
theorem C7v:∀m:Nat,(G1 m [V.str "-"]).flatten=(G1 m ("-" : Str)).map V.str
 | 0=>rfl
 | m+1=>by rw[A0u,A3k,C7v m];rfl
theorem E3a:FK P w base 1 T.dZ C5o:=by
 refine T.dZ.F.ok D6s (λJ H J J h=>?_) (λJ J J J H J Q J hr h=>?_)
 ·let⟨v,rfl,_⟩:=h;rfl
 ·let⟨v,rfl,hw,told⟩:=h;refine⟨_,(C0 (N9 (M5 (P9 t9 (pv 0) A1x (F6 _))
   (C9 (G0 F9))
   M9))
   (C9 (G0 (M6 C4i rfl T.aQ U0 (A3 (pv 0) A4 A0))))),?_⟩
  ac_nf
  have told0:=told H λJ J z=>z;refine⟨fun σ' H'=>σ'=[some v]/\H=H'/\v≠.non,?_,?_⟩
  ·exists _,rfl,rfl,_,rfl;by_cases c:v=.non
   ·subst c;exact L4 told0
   ·rw[decide_eq_false c];exact G5 ⟨rfl,rfl,c⟩
  ·rintro σ' _ ⟨rfl,rfl,c⟩;cases v with
   | non=>exact absurd rfl c
   | int n=>exact⟨_,rfl,.inl ⟨n,rfl,V4 hw,told0⟩⟩
   | str y=>exact⟨_,rfl,.inr ⟨_,rfl,told0⟩⟩
   | bl b=>exact hw.elim
   | byt b=>exact hw.elim
   | flt b=>exact hw.elim
   | ref a=>exact hw.elim
   | ty n=>exact hw.elim
theorem C0a:FK P w base 2 T.bL C5p:=by
 refine T.bL.F.ok D6t (λJ H J J h=>?_) (λJ J J s H J Q J hr h=>?_)
 ·let⟨l,us,rfl,_⟩:=h;rfl
 ·let⟨l,us,rfl,el,hw,hl,told⟩:=h;refine⟨_,(C9 (G0 (L8 A3m B1k B1l A8v F9 (A3 (W9 (N1.new (N:=["_law_table_here"]) (osc:=B5 B3h) KK) rfl (U9 (pv 0)) (λJ=>m9) (λJ=>(pcF T.dZ (E3a T) hr (A3 (pv 1) A4 A0)))) A4 A0j)))),?_⟩
  ac_nf
  exists rfl,_,rfl,l,rfl,⟨us,SqL.of el⟩;refine B3t wrT (A2f hl (by rw[sizeLine_eq];decide)) (λHx s=>SqL.of (s _ _ el)) (λx hx Hx s ca R hR=>⟨_,rfl,x,rfl,hw x hx,hR⟩) λHx s p hp=>?_;have sp:=Same.upd (o:=.lst (us.map λx=>V.str (wrT x))) hp;have ev:(us.map wrT).map V.str=us.map λx=>V.str (wrT x):=by rw[Q8];rfl
  refine⟨_,p,us.map wrT,rfl,rfl,SqL.of (B9.trans (by rw[ev])),A86 (λv hv=>?_) (by rw[B7];omega),?_⟩
  ·let⟨u,hu,rfl⟩:=L0.mp hv;exact C5n (hw u hu)
  ·rw[tj];exact told _ (s.tr sp)
theorem C7w:FK P w base 1 T.aI E28:=by
 refine T.aI.F.ok D6u (λJ H J J h=>?_) (λJ J J J H J Q J hr h=>?_)
 ·let⟨x,a,w,rfl,_⟩:=h;rfl
 ·let⟨x,a,w,rfl,ea,⟨b1,b2,b3,b4⟩,told⟩:=h;exists _,(C9 (G0 (F5 V3 F9 (L8 A3m B1k B1l A8v F9 (A3 (T0 (A3 (M6 W7 rfl T.aQ U0 (A3 (pv 0) A4 A0)) (A3 (M6 W7 rfl T.aQ U0 (A3 (E6 T5 (pv 1) B4) A4 B0)) (A3 (M6 W7 rfl T.aQ U0 (A3 (E6 T5 (pv 1) B4) A4 B0)) (A3 (M6 W7 rfl T.aQ U0 (A3 (E6 T5 (pv 1) B4) A4 B0)) A4 C6) C6) C6) C6)) A4 B5g)))))
  ac_nf
  exists rfl,_,rfl,x,rfl,V4 b1;exists _,rfl,a,_,_,_,rfl,rfl,SqT.of ea,rfl,_,rfl,V4 b2;exists _,rfl,a,_,_,_,rfl,rfl,SqT.of ea,rfl,_,rfl,V4 b3;exists _,rfl,a,_,_,_,rfl,rfl,SqT.of ea,rfl,_,rfl,V4 b4;refine⟨by show 4<=sizeLine;rw[sizeLine_eq];decide,λl nl=>?_⟩;have wl:∀v∈[itx x,itx ((w.1:Nat):Int),itx ((w.2.1:Nat):Int),itx w.2.2],v.length<=61:=λv hv=>by
   simp only[K7,Z4,or_false] at hv;rcases hv with rfl | rfl | rfl | rfl
   ·exact R6 b1
   ·exact R6 b2
   ·exact R6 b3
   ·exact R6 b4
  refine⟨_,l,[itx x,itx ((w.1:Nat):Int),itx ((w.2.1:Nat):Int),itx w.2.2],rfl,rfl,SqL.of B9,A86 (λv hv=>M0 (wl v hv) DD) (by show 4<=_;decide),?_⟩;rw[tj];have jl:=B37 _ wl;rw[<-V5,<-W2] at jl;refine⟨_,_,rfl,rfl,M0 (Nat.add_le_add (show Str.length "lay " <=4 by decide) jl) (by show 4+4*62<=_;decide),?_⟩;rw[B01 (w0:= "lay") (x0:= "lay ") (ws:=[itx x,itx ((w.1:Nat):Int),itx ((w.2.1:Nat):Int),itx w.2.2]) DD (List.cons_ne_nil _ _)];exact told _ (Same.upd nl)
theorem E3b(D:B3i w T):FK P w base 14 T.eh (E29 T):=by
 refine T.eh.F.ok C5d (λJ H Q J h=>?_) (λJ J J s H J Q J hr h=>?_)
 ·let⟨hd,hl,q,p,d,m,st,rfl,_⟩:=h;rfl
 ·let⟨hd,hl,q,p,d,m,st,rfl,hh,DK,told⟩:=h;refine⟨_,(C0 (pS (i:=2) C5d.nd (M6 C4f rfl T.fS A9y (A3 (E6 G8 (L8 A3m B1b C8r B6n (pv 1) (A3 F9 A4 F2)) B4) A4 B0)))
   (C9 (G0 (B4u (A3s m7 (pmF (pv 0) T.ck T.bP (C7i T D) hr (A3 F9 A4 F2) (hst:=F2)) F9 (F6 _)) (B1s (A3s m7 (pmF (pv 0) T.ck T.bP (C7i T D) hr (A3 F9 A4 F2) (hst:=F2)) (L8 A3m B1k B1l A8v F9 (A3 (F5 B46 (T0 (A3 F9 A4 F2)) (pv 2)) A4 G6)) (F6 _))))))),?_⟩
  ac_nf
  have R:A0e (Cmd.land m st).tx "land" [some ((m:Nat):Int),some st]:=B95 DK.ok.m2 DK.ok.s0 DK.ok.s1;have sz:∀{n:Nat},n<=1000->n<=sizeLine:=λh=>M0 h (by rw[sizeLine_eq];decide);have h60:((m:Nat):Int).natAbs<10^60:=i60 OO (by have:=DK.ok.m2;have:m<=12:=this;omega);let⟨e,le⟩:=B6s (A6z h60);rw[B6v h60] at e;refine⟨_,rfl,rfl,_,_,rfl,rfl,DD,R.1,λl nl=>?_⟩;rw[C7f R];exists l,_,_,_,rfl,rfl,SqL.of B9,rfl,itx ((m:Nat):Int),_,rfl,e,OO;have s1:=Same.upd (o:=.lst ((("land" : Str)::([some ((m:Nat):Int),some st]:Tb).map lvW).map V.str)) nl;have D1:=DK.draw hh s1.kp;have h1:=hh.same s1;generalize upd H l (.lst ((("land" : Str)::([some ((m:Nat):Int),some st]:Tb).map lvW).map V.str))=H1 at s1 D1 h1 ⊢;dsimp only[K1,K6];let⟨dx,eq⟩:=D1.dk;have ew:("ways" : Str)=(Cmd.ask .ways).tx:=Y2 (by
   show _=cp (L1 [("ways" : Str)]);rw[V5,a8])
  have el:("least" : Str)=(Cmd.ask .least).tx:=Y2 (by
   show _=cp (L1 [("least" : Str)]);rw[V5,a8])
  exists _,rfl,q,dx,_,rfl,eq,rfl;dsimp only[w4,tC,W8,p8,A0f,T2];rw[ew];refine B00 T D1 h1 trivial λt H2 tl D2 h2 fr2=>?_;have e0:A1a []=(Cmd.ask .ways).tx:=by
   have:srt (F4 [])=[]:=by unfold srt F4;simp
   unfold A1a;rw[this];rfl
  cases (show t=A1a [] from tl);exists rfl,_,rfl;rw[show decide (V.str (A1a [])=V.str (Cmd.ask .ways).tx)=true from decide_eq_true (by rw[e0])];refine L4 ?_;let⟨dx2,eq2⟩:=D2.dk;exists _,rfl,q,dx2,_,rfl,eq2,rfl;dsimp only[w4,tC,W8,p8,A0f,T2];rw[el];refine B00 T D2 h2 trivial λt2 H3 tl2 D3 h3 fr3=>?_;let⟨low,lb,rfl⟩:=tl2;obtain rfl:=E2t lb;have fin:∀H',Same H3 H'->Q (.bl true) H':=λH' s=>told H' (h3.same s) (D3.draw h3 s.kp) λb o e n1 n2=>s _ _ (fr3 _ _ (fr2 _ _ (s1 _ _ e) n1 n2) n1 n2);have m2:m<=12:=DK.ok.m2;refine⟨rfl,sz DD,λpa na=>?_⟩;have s4:=Same.upd (o:=.lst [V.str "-"]) na;refine⟨_,rfl,pa,((m:Nat):Int),_,rfl,rfl,B9,OO,OO,sz (by rw[A44];show 1*m<=1000;omega),λpb nb=>?_⟩;have er:(G1 (p9 ((m:Nat):Int)) [V.str "-"]).flatten=(G1 m ("-" : Str)).map V.str:=by
   rw[A44,C7v]
  refine⟨_,pb,G1 m ("-" : Str),rfl,rfl,SqL.of (B9.trans (congrArg (λz=>some (HO.lst z)) er)),A86 (λv hv=>by rw[List.eq_of_mem_replicate hv];decide) (by rw[d9];omega),?_⟩;rw[tj];exists rfl;rw[show tbW (noT m)=L1 (G1 m ("-" : Str)) by unfold tbW noT;rw[C8q];rfl,decide_eq_true rfl];exact fin _ (s4.tr (Same.upd nb))
structure Own (hd hl l:Addr)(H0 H:Hp)(xs:!V):Prop where
 hh:Hd H hd hl
 kp:Kp hd H0 H
 eq:H l=some (.lst xs)
 nw:H0 l=none
 n1:l≠hd
 n2:l≠hl
structure A1b (l:Addr)(H0 H:Hp)(xs:!V):Prop where
 sm:Same H0 H
 eq:H l=some (.lst xs)
 nw:H0 l=none
section
variable {l:Addr}{xs:!V}
theorem Own.mk0 {H:Hp}(kp:Kp hd H0 H)(hh:Hd H hd hl)(h0:Hd H0 hd hl)(nl:H l=none):Own hd hl l H0 (upd H l (.lst xs)) xs:=by
 have n:=hh.ne nl;have n0:H0 l=none:=by
  cases z:H0 l with
  | none=>rfl
  | some o=>rw[kp _ _ z n.1] at nl;cases nl
 exact⟨hh.lay nl,kp.lay nl,B9,n0,n.1,n.2⟩
theorem Own.draw (O:Own hd hl l H0 H xs)(k:Kp hd H H')(h:Hd H' hd hl):Own hd hl l H0 H' xs:=⟨h,O.kp.trans k,k _ _ O.eq O.n1,O.nw,O.n1,O.n2⟩
theorem Own.same (O:Own hd hl l H0 H xs)(s:Same H H'):Own hd hl l H0 H' xs:=O.draw s.kp (O.hh.same s)
theorem Own.put (O:Own hd hl l H0 H xs)(ys:!V):Own hd hl l H0 (upd H l (.lst ys)) ys:=⟨O.hh.wr O.n1 O.n2,λb u e n=>by rw[C4 (e7 e O.nw)];exact O.kp b u e n,B9,O.nw,O.n1,O.n2⟩
theorem A1b.mk0 (nl:H l=none):A1b l H (upd H l (.lst xs)) xs:=⟨Same.upd nl,B9,nl⟩
theorem A1b.same (O:A1b l H0 H xs)(s:Same H H'):A1b l H0 H' xs:=⟨O.sm.tr s,s _ _ O.eq,O.nw⟩
theorem A1b.put (O:A1b l H0 H xs)(ys:!V):A1b l H0 (upd H l (.lst ys)) ys:=⟨λb u e=>by rw[C4 (e7 e O.nw)];exact O.sm b u e,B9,O.nw⟩
end
structure Lab (L:!Int):Prop where
 up:L.Pairwise (· < ·)
 bd:∀x∈L,1<=x/\x<=100000000000000000
theorem C7x {α β:Type}(f:α->β):∀(l:!α)(i:Nat),(l.map f).eraseIdx i=(l.eraseIdx i).map f
 | [],_=>rfl
 | _::_,0=>rfl
 | a::l,i+1=>congrArg (f a::·) (C7x f l i)
theorem C7y {α:Type}:∀(l:!α)(i:Nat)(h:i<l.length),(l[i]::l.eraseIdx i).Perm l
 | [],i,h=>absurd h (C00 i)
 | _::_,0,_=>.refl _
 | a::l,i+1,h=>(List.Perm.swap a _ _).trans ((C7y l i (Nat.lt_of_succ_lt_succ h)).cons a)
def E3c:Sp:=λvs H Q J=>∃(hd hl:Addr)(n:Nat),vs=[.ref hd,.int ((n:Nat):Int)]/\Hd H hd hl/\n<=40/\∀(l:Addr)(L:!Int)(H':Hp),H l=none->H' l=some (.lst (L.map V.int))->L.length=n->Lab L->Kp hd H H'->Hd H' hd hl->Q (.ref l) H'
def E3d:Sp:=λvs H Q J=>∃(hd hl a:Addr)(xs:!Int),vs=[.ref hd,.ref a]/\Hd H hd hl/\H a=some (.lst (xs.map V.int))/\a≠hd/\xs.length<=40/\∀(l:Addr)(ys:!Int)(H':Hp),H l=none->ys.Perm xs->H' l=some (.lst (ys.map V.int))->Kp hd H H'->Hd H' hd hl->Q (.ref l) H'
theorem E3e:FK P w base 4 T.cV E3c:=by
 refine T.cV.F.ok A81 (λJ H J J h=>?_) (λJ J J J H J Q J hr h=>?_)
 ·let⟨hd,hl,n,rfl,_⟩:=h;rfl
 ·let⟨hd,hl,n,rfl,hh,n40,told⟩:=h;refine⟨_,(C0 (pS (i:=2) A81.nd (E6 G8 (T0 (A3 B4 (A3 B4 (A3 (F5 V7 B4 B4) A4 G6) F2) F2)) (pcF T.af (A2a T) hr (A3 (pv 0) (A3 B4 A4 F2) A0))))
   (C0 (pS (i:=3) A81.nd B4)
   (C0 (pS (i:=4) A81.nd (T0 A4))
   (C0 (X6 T3 rfl (A2m rfl T.cj (A3 (pv 1) A4 A0)) (N8 (i:=5) A81.nd)
   (C0 (C9h (i:=3) A81.nd rfl (B6 rfl) (F5 Q4 B4 (pcF T.af (A2a T) hr (A3 (pv 0) (A3 (pv 2) A4 A0) A0))) C1c)
   (C9 (N7 (L8 S9 U5 U6 T6 (pv 4) (A3 (pv 3) A4 A0))))))
   (C9 (G0 (pv 4))))))),?_⟩
  ac_nf
  refine⟨_,_,rfl,rfl,⟨DD,DD,DD⟩,SZ (n:=3),λla na=>?_⟩;have s1:=Same.upd (o:=.lst [.int 1,.int 9,.int (10^p9 15)]) na;have ela:upd H la (.lst [.int 1,.int 9,.int (10^p9 15)]) la=some (.lst [.int 1,.int 9,.int (10^p9 15)]):=B9;generalize upd H la (.lst [.int 1,.int 9,.int (10^p9 15)])=H1 at s1 ela ⊢;have h1:=hh.same s1;refine⟨_,rfl,A4y DD DD h1 λu H2 u0 u3 k2 h2=>?_⟩;have t15:(10:Int)^p9 15=1000000000000000:=by decide
  obtain⟨st,hst,st0,st1⟩:∃st:Int,atI [V.int 1,.int 9,.int (10^p9 15)] u=some (.int st)/\1<=st/\st<=1000000000000000:=by
   rcases (show u=0\/u=1\/u=2 by omega) with rfl | rfl | rfl
   ·exact⟨1,rfl,DD,DD⟩
   ·exact⟨9,rfl,DD,DD⟩
   ·exact⟨_,rfl,by rw[t15];decide,by rw[t15];decide⟩
  exists la,_,_,_,rfl,rfl,SqL.of (k2 _ _ ela (hh.ne na).1),hst;dsimp only[K1,K6];refine⟨SZ (n:=0),λl nl=>?_⟩;have O0:=Own.mk0 (xs:=[]) (s1.kp.trans k2) h2 hh nl;exists _,rfl,n,rfl,OO,OO;refine B1v (n:=n) (λi σ' H'=>∃(at':Int)(L:!Int)(xk:Option V),σ'=[some (.ref hd),some (.int ((n:Nat):Int)),some (.int st),some (.int at'),some (.ref l),xk]/\Own hd hl l H H' (L.map V.int)/\L.length=i/\L.Pairwise (· < ·)/\(∀x∈L,1<=x/\x<=at')/\0<=at'/\at'<=((i:Nat):Int)*1000000000000000) ⟨0,[],_,rfl,O0,rfl,.nil,λx hx=>absurd hx Z4,OO,OO⟩ ?_ ?_
  ·rintro i σ' H3 hi ⟨at',L,xk,rfl,O,hl0,up,bd,a0,a1⟩;dsimp only[K1,K6];refine⟨_,rfl,_,rfl,_,rfl,A4y OO OO O.hh λr H4 r0 r1 k4 h4=>?_⟩;have O4:=O.draw k4 h4;exists _,_,rfl,rfl,_,_,rfl,rfl;dsimp only[K6];refine⟨_,rfl,.inl ⟨rfl,_,SqL.of O4.eq⟩,_,rfl,l,_,_,rfl,rfl,O4.eq,by rw[B7,sizeLine_eq];omega,?_⟩;have O5:=O4.put (L.map V.int++[.int (at'+(1+r))]);refine⟨at'+(1+r),L++[at'+(1+r)],_,rfl,by rw[L7];exact O5,by rw[L3,hl0];rfl,?_,λx hx=>?_,OO,?_⟩
   ·refine List.pairwise_append.mpr ⟨up,List.pairwise_singleton _ _,λx hx y hy=>?_⟩;rw[A2h.mp hy];have:=(bd x hx).2;omega
   ·rcases p7.mp hx with hx | hx
    ·have:=bd x hx;omega
    ·rw[A2h.mp hx];omega
   ·rw[Int.natCast_add,Int.add_mul];omega
  ·rintro σ' H3 ⟨at',L,xk,rfl,O,hl0,up,bd,a0,a1⟩;exact⟨_,rfl,told l L H3 O.nw O.eq hl0 ⟨up,λx hx=>⟨(bd x hx).1,by have:=(bd x hx).2;omega⟩⟩ O.kp O.hh⟩
theorem E3f:FK P w base 4 T.dy E3d:=by
 refine T.dy.F.ok B9f (λJ H J J h=>?_) (λJ J J J H J Q J hr h=>?_)
 ·let⟨hd,hl,a,xs,rfl,_⟩:=h;rfl
 ·let⟨hd,hl,a,xs,rfl,hh,ea,na,n40,told⟩:=h;refine⟨_,(C0 (pS (i:=2) B9f.nd (M6 A3v rfl T.cz A1h (A3 (pv 1) A4 A0)))
   (C0 (pS (i:=3) B9f.nd (T0 A4))
   (C0 (A49 T3 (P9 A3r (K5 V8 rfl T.aP T9 (A3 (pv 2) A4 A0)) B4 (F6 _))
   (C9 (N7 (L8 S9 U5 U6 T6 (pv 3) (A3 (L8 S9 PySem.F.slot_list_pop PySem.F.type_list_pop D0p (pv 2) (A3 (pcF T.af (A2a T) hr (A3 (pv 0) (A3 (K5 V8 rfl T.aP T9 (A3 (pv 2) A4 A0)) A4 C6) A0)) A4 C6)) A4 C6)))))
   (C9 (G0 (pv 3)))))),?_⟩
  ac_nf
  refine⟨_,rfl,a,_,rfl,.inl (SqL.of ea),λl1 nl1=>?_⟩;have O1:=Own.mk0 (xs:=xs.map V.int) (Kp.refl hd H) hh hh nl1;have ea1:=(Same.upd (o:=.lst (xs.map V.int)) nl1) _ _ ea;generalize upd H l1 (.lst (xs.map V.int))=H1 at O1 ea1 ⊢;dsimp only[K1,K6];refine⟨SZ (n:=0),λl2 nl2=>?_⟩;have O2:=Own.mk0 (xs:=[]) O1.kp O1.hh hh nl2;have O12:=O1.same (Same.upd (o:=.lst []) nl2);have n12:l1≠l2:=λz=>by rw[<-z,O1.eq] at nl2;cases nl2
  exists λm σ' H'=>∃ls ms:!Int,m=ls.length/\σ'=[some (.ref hd),some (.ref a),some (.ref l1),some (.ref l2)]/\Own hd hl l1 H H' (ls.map V.int)/\Own hd hl l2 H H' (ms.map V.int)/\(ms++ls).Perm xs,⟨_,xs,[],rfl,rfl,O12,O2,.refl _⟩;rintro m σ' H3 ⟨ls,ms,rfl,rfl,A1,A2,pm⟩;have hln:ms.length+ls.length<=40:=by
   have:=pm.length_eq;rw[L3] at this;omega
  exists _,rfl,l1,_,rfl,.inl (SqL.of A1.eq),_,_,rfl,rfl,_,rfl;rw[B7];cases ls with
  | nil=>refine G5 ⟨_,rfl,told l2 ms H3 A2.nw ?_ A2.eq A2.kp A2.hh⟩;rw[p8] at pm;exact pm
  | cons b r=>
   obtain⟨n,hn⟩:∃n,n=(b::r).length:=⟨_,rfl⟩;have n0:0<n:=by rw[hn,J6];omega
   rw[<-hn] at hln ⊢;rw[decide_eq_true (show (0:Int)<((n:Nat):Int) by omega)];refine L4 ⟨fun σ' H'=>∃m',m'<n/\∃ls ms:!Int,m'=ls.length/\σ'=[some (.ref hd),some (.ref a),some (.ref l1),some (.ref l2)]/\Own hd hl l1 H H' (ls.map V.int)/\Own hd hl l2 H H' (ms.map V.int)/\(ms++ls).Perm xs,λJ J z=>z,?_⟩;exists _,rfl,.inl ⟨rfl,_,SqL.of A2.eq⟩,_,rfl,.inl ⟨rfl,_,SqL.of A1.eq⟩,_,rfl,_,rfl,l1,_,rfl,.inl (SqL.of A1.eq);rw[B7,<-hn];refine A4y OO OO A1.hh λu H4 u0 u1 k4 h4=>?_;have B1:=A1.draw k4 h4;have B2:=A2.draw k4 h4;let⟨i,rfl,hi⟩:=A9c u0 u1;have hi':i<(b::r).length:=by rw[<-hn];exact hi
   refine⟨l1,_,_,i,.int ((b::r)[i]),rfl,rfl,B1.eq,OO,OO,?_,by rw[M2,M8 hi'];rfl,?_⟩
   ·have:=StrLaws.seqIndex_nonneg (i:=((i:Nat):Int)) (n:=((b::r).map V.int).length) OO (by rw[B7];omega);rw[this,A44]
   have C1:=B1.put (((b::r).map V.int).eraseIdx i);have C2:Own hd hl l2 H (upd H4 l1 (.lst (((b::r).map V.int).eraseIdx i))) (ms.map V.int):=⟨C1.hh,C1.kp,by rw[C4 n12.symm];exact B2.eq,B2.nw,B2.n1,B2.n2⟩;refine⟨l2,_,_,rfl,rfl,C2.eq,by rw[B7,sizeLine_eq];omega,?_⟩;have D2:=C2.put (ms.map V.int++[.int ((b::r)[i])]);have D1:Own hd hl l1 H (upd (upd H4 l1 (.lst (((b::r).map V.int).eraseIdx i))) l2 (.lst (ms.map V.int++[.int ((b::r)[i])]))) (((b::r).map V.int).eraseIdx i):=⟨D2.hh,D2.kp,by rw[C4 n12];exact C1.eq,C1.nw,C1.n1,C1.n2⟩;refine⟨n-1,OO,(b::r).eraseIdx i,ms++[(b::r)[i]],by rw[List.length_eraseIdx_of_lt hi',<-hn],rfl,?_,?_,?_⟩
   ·rw[<-C7x];exact D1
   ·rw[L7];exact D2
   ·rw[j9];exact ((C7y _ i hi').append_left ms).trans pm
theorem E3g {es:!Expr}{env:Env} {a p}:starEach (.JoinedStr a p::es) env=(false,eval (.JoinedStr a p) env)::starEach es env:=by rfl
def A3g (hd:Addr)(H:Hp)(tl:Addr)(m:Nat)(ws:!Wy):Prop:=∃(rl:Addr)(us:!V),H tl=some (.tup [.int ((m:Nat):Int),.ref rl])/\rl≠hd/\H rl=some (.lst us)/\us.length=ws.length/\∀(i:Nat)(w:Wy),ws[i]?=some w->∃a,us[i]?=some (.ref a)/\H a=some (.tup [.int ((w.1:Nat):Int),.int ((w.2.1:Nat):Int),.int w.2.2])
theorem A3g.kl {hd hl tl:Addr}{H H':Hp}{m:Nat}{ws:!Wy}(L:A3g hd H tl m ws)(hh:Hd H hd hl)(k:KL hd H H'):A3g hd H' tl m ws:=by
 let⟨rl,us,e1,n,e2,lu,h⟩:=L;refine⟨rl,us,k.tup hh e1,n,k.lst e2 n,lu,λi w hw=>?_⟩;let⟨a,ha,ea⟩:=h i w hw;exact⟨a,ha,k.tup hh ea⟩
theorem A3g.sm {hd tl:Addr}{H H':Hp}{m:Nat}{ws:!Wy}(L:A3g hd H tl m ws)(k:Same H H'):A3g hd H' tl m ws:=by
 let⟨rl,us,e1,n,e2,lu,h⟩:=L;refine⟨rl,us,k _ _ e1,n,k _ _ e2,lu,λi w hw=>?_⟩;let⟨a,ha,ea⟩:=h i w hw;exact⟨a,ha,k _ _ ea⟩
theorem C7z (m:Nat)(st:Int) : "land " ++itx ((m:Nat):Int)++ " " ++itx st=(Cmd.land m st).tx:=Y2 (by
 show _=cp (L1 [("land" : Str),itx ((m:Nat):Int),itx st]);rw[V5];simp only[A0a,B93,A0b,a8,j9,T2,A0f];rfl)
theorem E3h (x c:Int) : "turn " ++itx x++ " " ++itx c=(Cmd.deed (.turn x c)).tx:=Y2 (by
 show _=cp (L1 [("turn" : Str),itx x,itx c]);rw[V5];simp only[A0a,B93,A0b,a8,j9,T2,A0f];rfl)
theorem E3i (x:Int) : "lift " ++itx x=(Cmd.deed (.lift x)).tx:=Y2 (by
 show _=cp (L1 [("lift" : Str),itx x]);rw[V5];simp only[A0a,A0b,a8];rfl)
theorem E3j (x:Int) : "refill " ++itx x=(Cmd.deed (.refill x)).tx:=Y2 (by
 show _=cp (L1 [("refill" : Str),itx x]);rw[V5];simp only[A0a,A0b,a8];rfl)
theorem C70 {m:Nat}{st:Int}{g:Tb}(h:F3 m st g)(m1:1<=m) : "aim " ++tbW g=(Cmd.deed (.aim g)).tx:=B01 (w0:= "aim") (x0:= "aim ") DD λz=>B38 h m1 (A7n.mp z)
def A1c (kws:Kw):!Cmd:=kws.map λq=>.deed (.lay q.1 q.2)
def p6 (m:Nat)(st:Int)(g:Tb)(kws:Kw):!Cmd:=.land m st::A1c kws++[.deed (.aim g)]
def txs (cs:!Cmd):!V:=cs.map λc=>V.str c.tx
theorem C0b (a b:!Cmd):txs (a++b)=txs a++txs b:=L7
structure Gd (hd:Addr)(H:Hp)(tl gl ll:Addr)(m:Nat)(st:Int)(g:Tb)(L:!Int)(ws:!Wy):Prop where
 la:A3g hd H tl m ws
 eg:H gl=some (.lst (g.map oV))
 el:H ll=some (.lst (L.map V.int))
 ng:gl≠hd
 nl:ll≠hd
 ok:J2 m ws
 tb:F3 m st g
 s0:0<=st
 s1:st<=100000000000000000000
 len:L.length=ws.length
 bd:∀x∈L,1<=x/\x<=∅
theorem Gd.sm {hd tl gl ll:Addr}{H H':Hp}{m:Nat}{st:Int}{g:Tb}{L:!Int}{ws:!Wy}(G:Gd hd H tl gl ll m st g L ws)(s:Same H H'):Gd hd H' tl gl ll m st g L ws:={ G with la:=G.la.sm s,eg:=s _ _ G.eg,el:=s _ _ G.el }
theorem Gd.kl {hd hl tl gl ll:Addr}{H H':Hp}{m:Nat}{st:Int}{g:Tb}{L:!Int}{ws:!Wy}(G:Gd hd H tl gl ll m st g L ws)(hh:Hd H hd hl)(k:KL hd H H'):Gd hd H' tl gl ll m st g L ws:={ G with la:=G.la.kl hh k,eg:=k.lst G.eg G.ng,el:=k.lst G.el G.nl }
theorem B4a {α:Type}{xs:!α}{i:Nat}{v:α}(h:xs[i]?=some v):atI xs (0+((i:Nat):Int))=some v:=by rw[Int.zero_add];exact f7 h
def E3k:Sp:=λvs H Q J=>∃(hd tl gl ll:Addr)(m:Nat)(st:Int)(g:Tb)(L:!Int)(ws:!Wy),vs=[.ref tl,.int st,.ref gl,.ref ll]/\Gd hd H tl gl ll m st g L ws/\∀l H',H l=none->H' l=some (.lst (txs (p6 m st g (L.zip ws))))->Same H H'->Q (.ref l) H'
def wyT (q:Int×Wy):Str:=A27 q.1 ((q.2.1:Nat):Int) ((q.2.2.1:Nat):Int) q.2.2.2
def E3l:Sp:=λvs H Q J=>∃(hd tl gl ll:Addr)(m:Nat)(st:Int)(g:Tb)(L:!Int)(ws:!Wy),vs=[.ref tl,.ref ll]/\Gd hd H tl gl ll m st g L ws/\∀H',Same H H'->Q (.str (L1 (("ways" : Str)::(L.zip ws).map wyT))) H'
section
variable {tl gl ll:Addr}{g:Tb}{L:!Int}
theorem Gd.at (G:Gd hd H tl gl ll m st g L ws){i:Nat}(hi:i<ws.length):∃x w,L[i]?=some x/\ws[i]?=some w/\(L.zip ws)[i]?=some (x,w)/\(1<=x/\x<=∅)/\A07 m w:=by
 have hl:i<L.length:=by rw[G.len];exact hi
 refine⟨L[i],ws[i],M8 hl,M8 hi,?_,G.bd _ (B4r hl),⟨G.ok.st _ (B4r hi),G.ok.en _ (B4r hi),G.ok.lo _ (B4r hi),G.ok.hi _ (B4r hi)⟩⟩;rw[List.getElem?_zip_eq_some];exact⟨M8 hl,M8 hi⟩
theorem A07.b60 {m:Nat}{w:Wy}(h:A07 m w)(m2:m<=12):((w.1:Nat):Int).natAbs<10^60/\((w.2.1:Nat):Int).natAbs<10^60/\w.2.2.natAbs<10^60:=by
 have h1:=h.st;have h2:=h.en;have h3:=h.lo;have h4:=h.hi;exact⟨i60 OO OO,i60 OO OO,i60 OO OO⟩
end
theorem E3m:FK P w base 3 T.bD E3k:=by
 refine T.bD.F.ok B9g (λJ H J J h=>?_) (λJ J J J H J Q J hr h=>?_)
 ·let⟨hd,tl,gl,ll,m,st,g,L,ws,rfl,_⟩:=h;rfl
 ·let⟨hd,tl,gl,ll,m,st,g,L,ws,rfl,G,told⟩:=h;refine⟨_,(C0 (pS (i:=4) B9g.nd (T0 (A3 (F5 V3 (F5 V3 (F5 V3 F9 (M6 W7 rfl T.aQ U0 (A3 (E6 T5 (pv 0) B4) A4 B0))) F9) (M6 W7 rfl T.aQ U0 (A3 (pv 1) A4 A0))) A4 G6)))
   (C0 (X6 T3 rfl (A2m rfl T.cj (A3 (K5 V8 rfl T.aP T9 (A3 (pv 3) A4 A0)) A4 C6)) (N8 (i:=5) B9g.nd)
   (C9 (N7 (L8 S9 U5 U6 T6 (pv 4) (A3 (pcF T.aI (C7w T) hr (A3 (E6 G8 (pv 3) (pv 5)) (A3 (E6 G8 (E6 T5 (pv 0) B4) (pv 5)) A4 B0) B0)) A4 C6)))))
   (C9 (G0 (F5 A5j (pv 4) (T0 (A3 (F5 V3 F9 (pcF T.bL (C0a T) hr (A3 (pv 2) A4 A0))) A4 G6))))))),?_⟩
  ac_nf
  have m2:=G.ok.m2;have s0:=G.s0;have s1:=G.s1;have hm:((m:Nat):Int).natAbs<10^60:=i60 OO (OO);have hs:st.natAbs<10^60:=i60 OO (OO);let⟨rl,us,e1,n,e2,lu,hw⟩:=id G.la;have lm:(Str.ofString (toString ((m:Nat):Int))).length<=61:=R6 hm;have ls:(Str.ofString (toString st)).length<=61:=R6 hs;have ld:Str.length "land " = 5:=by decide
  have l1:Str.length " " = 1:=by decide
  refine⟨_,rfl,tl,_,_,_,rfl,rfl,SqT.of e1,rfl,_,rfl,V4 hm,_,_,rfl,rfl,OO,_,_,rfl,rfl,by rw[b8];omega,?_⟩;refine⟨_,rfl,_,rfl,V4 hs,_,_,rfl,rfl,by rw[b8,b8];omega,SZ (n:=1),λl nl=>?_⟩;rw[show ("land " ++Str.ofString (toString ((m:Nat):Int))++ " " ++Str.ofString (toString st):Str)=(Cmd.land m st).tx from C7z m st];have O0:=A1b.mk0 (xs:=[V.str (Cmd.land m st).tx]) nl;generalize upd H l (.lst [V.str (Cmd.land m st).tx])=H1 at O0 ⊢;dsimp only[K1,K6];have few:=G.ok.few;have hL:=G.len;exists _,rfl,ll,_,rfl,.inl (SqL.of (O0.sm _ _ G.el));exists L.length,by rw[B7],OO,OO;refine B1v (n:=L.length) (λi σ' H'=>∃(xk:Option V),σ'=[some (.ref tl),some (.int st),some (.ref gl),some (.ref ll),some (.ref l),xk]/\A1b l H H' (txs (.land m st::A1c ((L.zip ws).take i)))) ⟨_,rfl,by rw[List.take_zero];exact O0⟩ ?_ ?_
  ·rintro i σ' H2 hi ⟨xk,rfl,O⟩;have hi':i<ws.length:=by omega
   let⟨x,w0,hx,hw0,hz,hb,wo⟩:=G.at hi';let⟨a,ha,ea⟩:=hw i w0 hw0;let⟨w1,w2,w3⟩:=wo.b60 m2;dsimp only[K1,K6];exists _,rfl,.inl ⟨rfl,_,SqL.of O.eq⟩,_,rfl,_,rfl,ll,_,_,_,rfl,rfl,SqL.of (O.sm _ _ G.el),A6t (B4a hx);exists _,rfl,tl,_,_,_,rfl,rfl,SqT.of (O.sm _ _ e1),rfl,_,rfl,rl,_,_,_,rfl,rfl,SqL.of (O.sm _ _ e2),B4a ha;refine⟨x,a,w0,rfl,O.sm _ _ ea,⟨i60 OO OO,w1,w2,w3⟩,λH3 s3=>?_⟩;have O3:=O.same s3;refine⟨l,_,_,rfl,rfl,O3.eq,by unfold txs A1c;rw[B7,J6,B7,X5,sizeLine_eq];omega,?_⟩;exists _,rfl;have O4:=O3.put (txs (.land m st::A1c ((L.zip ws).take i))++[V.str (Cmd.deed (.lay x w0)).tx]);have e:txs (.land m st::A1c ((L.zip ws).take i))++[V.str (Cmd.deed (.lay x w0)).tx]=txs (.land m st::A1c ((L.zip ws).take (i+1))):=by
    unfold txs A1c;rw[A1t,hz,L7 (l₁:=List.take i (L.zip ws)),K9,K9,L7];rfl
   rw[e] at O4 ⊢;exact O4
  ·rintro σ' H2 ⟨xk,rfl,O⟩;have lz:(L.zip ws).length=L.length:=by rw[B4s];omega
   rw[<-lz,A1v] at O;have eg:=O.sm _ _ G.eg;have tl12:=G.tb.len;refine⟨_,rfl,_,rfl,gl,_,rfl,eg,B0x G.tb s1,by rw[B7];omega,λH3 s3=>?_⟩;rw[B0w];have O3:=O.same s3;have R:=B39 (k:=⟨m,st,noT m,[],[]⟩) (dd:=.aim g) ⟨G.ok.m1,m2,s0,s1,A7b m st,B4q,Q7 _,λx hx=>absurd hx Z4⟩ G.tb;have eat:=C70 G.tb G.ok.m1;refine⟨_,_,rfl,rfl,by rw[<-b8,eat];exact M0 R.1 DD,SZ (n:=1),λl2 nl2=>?_⟩;rw[eat];have s4:=Same.upd (o:=.lst [V.str (Cmd.deed (.aim g)).tx]) nl2;have O4:=O3.same s4;refine⟨l,l2,_,_,rfl,rfl,O4.eq,B9,?_,λl3 nl3=>?_⟩
   ·unfold txs A1c;rw[B7,J6,B7,lz];show _+1<=sizeLine;rw[sizeLine_eq];omega
   have s5:=s4.tr (Same.upd (o:=.lst (txs (.land m st::A1c (L.zip ws))++[V.str (Cmd.deed (.aim g)).tx])) nl3);refine told l3 _ ((O3.sm.tr s4).early nl3) ?_ (O3.sm.tr s5);rw[B9];unfold p6 txs;rw[L7 (l₁:=Cmd.land m st::A1c (L.zip ws))];rfl
theorem E3n:FK P w base 1 T.ee E3l:=by
 refine T.ee.F.ok A82 (λJ H J J h=>?_) (λJ J J J H J Q J hr h=>?_)
 ·let⟨hd,tl,gl,ll,m,st,g,L,ws,rfl,_⟩:=h;rfl
 ·let⟨hd,tl,gl,ll,m,st,g,L,ws,rfl,G,told⟩:=h;refine⟨_,(C0 (pS (i:=2) A82.nd (T0 (A3 F9 A4 F2)))
   (C0 (X6 T3 rfl (A2m rfl T.cj (A3 (K5 V8 rfl T.aP T9 (A3 (pv 1) A4 A0)) A4 C6)) (N8 (i:=3) A82.nd)
   (C0 (m6 (E6 G8 (E6 T5 (pv 0) B4) (pv 3)) (A7s (n:=3) rfl (t8 (N8 (i:=4) A82.nd) (t8 (N8 (i:=5) A82.nd) (t8 (N8 (i:=6) A82.nd) A7r)))))
   (C9 (N7 (L8 S9 U5 U6 T6 (pv 2) (A3 (C4e (z5 (A4e (E6 G8 (pv 1) (pv 3))) (z5 F9 (z5 (A4e (pv 4)) (z5 F9 (z5 (A4e (pv 5)) (z5 F9 (z5 (A4e (pv 6)) C4d)))))))) A4 E3g))))))
   (C9 (G0 (L8 A3m B1k B1l A8v F9 (A3 (pv 2) A4 A0)))))),?_⟩
  ac_nf
  have m2:=G.ok.m2;have few:=G.ok.few;have hL:=G.len;let⟨rl,us,e1,n,e2,lu,hw⟩:=id G.la;refine⟨SZ (n:=1),λl nl=>?_⟩;have O0:=A1b.mk0 (xs:=[V.str "ways"]) nl;generalize upd H l (.lst [V.str "ways"])=H1 at O0 ⊢;dsimp only[K1,K6];exists _,rfl,ll,_,rfl,.inl (SqL.of (O0.sm _ _ G.el));exists L.length,by rw[B7],OO,OO;refine B1v (n:=L.length) (λi σ' H'=>∃(x3 x4 x5 x6:Option V),σ'=[some (.ref tl),some (.ref ll),some (.ref l),x3,x4,x5,x6]/\A1b l H H' ((("ways" : Str)::((L.zip ws).take i).map wyT).map V.str)) ⟨_,_,_,_,rfl,by rw[List.take_zero];exact O0⟩ ?_ ?_
  ·rintro i σ' H2 hi ⟨x3,x4,x5,x6,rfl,O⟩;have hi':i<ws.length:=by omega
   let⟨x,w0,hx,hw0,hz,hb,wo⟩:=G.at hi';let⟨a,ha,ea⟩:=hw i w0 hw0;let⟨w1,w2,w3⟩:=wo.b60 m2;have hx60:x.natAbs<10^60:=i60 OO (OO);dsimp only[K1,K6];exists _,rfl,tl,_,_,_,rfl,rfl,SqT.of (O.sm _ _ e1),rfl,_,rfl,rl,_,_,_,rfl,rfl,SqL.of (O.sm _ _ e2),B4a ha;exists a,_,rfl,SqT.of (O.sm _ _ ea),rfl,_,_,rfl,_,_,rfl,_,_,rfl,rfl;dsimp only[K1,K6];exists _,rfl,.inl ⟨rfl,_,SqL.of O.eq⟩;have l0:Str.length Str.empty<=0:=G3 _;refine A4j (k:=0) hx60 l0 DD (λj1=>?_) λR r=>⟨_,rfl,_,rfl,ll,_,_,_,rfl,rfl,SqL.of (O.sm _ _ G.el),A6t (B4a hx),r⟩;refine A87 (n':=1) DD j1 DD λj2=>?_;refine A4j w1 j2 DD (λj3=>?_) λR r=>⟨_,rfl,r⟩;refine A87 (n':=1) DD j3 DD λj4=>?_;refine A4j w2 j4 DD (λj5=>?_) λR r=>⟨_,rfl,r⟩;refine A87 (n':=1) DD j5 DD λj6=>?_;refine A4j w3 j6 DD (λj7=>?_) λR r=>⟨_,rfl,r⟩;refine⟨M0 j7 (by rw[sizeLine_eq];decide),?_⟩;refine⟨l,_,_,rfl,rfl,O.eq,by rw[B7,J6,B7,X5,sizeLine_eq];omega,?_⟩;have O4:=O.put (((("ways" : Str)::((L.zip ws).take i).map wyT).map V.str)++[V.str (wyT (x,w0))]);exists _,_,_,_,rfl;have e:((("ways" : Str)::((L.zip ws).take i).map wyT).map V.str)++[V.str (wyT (x,w0))]=((("ways" : Str)::((L.zip ws).take (i+1)).map wyT).map V.str):=by
    rw[A1t,hz,L7 (l₁:=List.take i (L.zip ws)),K9,K9,L7];rfl
   rw[e] at O4;rw[<-e];rw[<-e] at O4;exact O4
  ·rintro σ' H2 ⟨x3,x4,x5,x6,rfl,O⟩;have lz:(L.zip ws).length=L.length:=by rw[B4s];omega
   rw[<-lz,A1v] at O;refine⟨rfl,_,rfl,_,l,("ways" : Str)::(L.zip ws).map wyT,rfl,rfl,SqL.of O.eq,A86 (λv hv=>?_) (by rw[J6,B7];omega),?_⟩
   ·rcases K7.mp hv with rfl | hv
    ·decide
    ·let⟨⟨x,w0⟩,hq,rfl⟩:=L0.mp hv;let⟨q1,q2⟩:=B06 hq;have hb:=G.bd _ q1;have wo:A07 m w0:=⟨G.ok.st _ q2,G.ok.en _ q2,G.ok.lo _ q2,G.ok.hi _ q2⟩;let⟨w1,w2,w3⟩:=wo.b60 m2;exact C60 (i60 OO OO) w1 w2 w3
   ·rw[tj];exact told _ O.sm
def E3o:R2:=λx y H Q=>x=.str " -" /\y=.int 11/\Q (.str ⟨(G1 11 (Str.ofString " -").cps).foldl (·++·) #[]⟩) H
theorem C71 {X:Cx}:OpR X (binaryOp .Mult) E3o:=by
 intros x y v u Q I rx ry h;let⟨rfl,rfl,q⟩:=h;let⟨t,rfl⟩:=rx;let⟨t',rfl⟩:=ry;refine PySem.P.mul_str DD (λJ J=>DD) (λJ J=>DD) ?_;rw[if_neg DD,if_neg (DD)];exact⟨DD,.str _,H,I.tok _,⟨_,rfl⟩,q⟩
theorem E3p {kws:Kw}{x:Int}(h:x∉F4 kws):J7 kws x=none:=by
 cases e:J7 kws x with
 | none=>rfl
 | some w=>exact absurd (L0.mpr ⟨_,A63 e,rfl⟩) h
theorem B4b {kws:Kw}{x:Int}{w:Wy}(h:J7 kws x=none):J7 (kws++[(x,w)]) x=some w:=by
 induction kws with
 | nil=>rw[T2,A9a,if_pos rfl]
 | cons q r ih=>
  rw[A9a] at h;rw[A0f,A9a];by_cases e:q.1=x
  ·rw[if_pos e] at h;cases h
  ·rw[if_neg e] at h ⊢;exact ih h
theorem C72 {kws:Kw}{x:Int}(h:J7 kws x=none):∀q∈kws,q.1≠x:=λq hq z=>by
 let⟨w,hw⟩:=A64 (kws:=kws) (k:=x) (L0.mpr ⟨q,hq,z⟩);rw[h] at hw;cases hw
theorem E3q {kws:Kw}{x:Int}{w:Wy}(h:J7 kws x=none):A4o (kws++[(x,w)]) x=kws:=by
 unfold A4o;rw[List.filter_append,List.filter_eq_self.mpr λq hq=>decide_eq_true (C72 h q hq),B4l (by simp)];exact p8 _
theorem E3r {kws:Kw}{x:Int}{w w':Wy}(h:J7 kws x=none):i9 (kws++[(x,w)]) x w'=kws++[(x,w')]:=by
 rw[B33 (B4b h),L7];congr 1
 ·exact (B1m (g:=id) λq hq=>if_neg (C72 h q hq)).trans (List.map_id _)
 ·show [if x=x then (x,w') else (x,w)]=_;rw[if_pos rfl]
section
variable {g:Tb}{kws:Kw}{x:Int}{w:Wy}
theorem C73 (hx:A3a x)(hn:J7 kws x=none)(hw:A07 m w)(hl:kws.length<40):Run (some ⟨m,st,g,kws,[]⟩) [.deed (.lay x w)] (some ⟨m,st,g,kws++[(x,w)],[]⟩):=
 .cons ⟨⟨hx,hn,hw,hl⟩,rfl⟩ (by
  show Run (some ⟨m,st,g,i9 kws x w,[]⟩) [] _;rw[B32 hn];exact .nil)
theorem E3s (hx:A3a x)(hn:J7 kws x=none)(hw:A07 m w)(hl:kws.length<40):Run (some ⟨m,st,g,kws,[]⟩) [.deed (.lay x w),.deed (.lift x)] (some ⟨m,st,g,kws,[]⟩):=
 .cons (s1:=some ⟨m,st,g,kws++[(x,w)],[]⟩) ⟨⟨hx,hn,hw,hl⟩,by show some _=some (⟨m,st,g,i9 kws x w,[]⟩:Kst);rw[B32 hn]⟩ (.cons (s1:=some ⟨m,st,g,kws,[]⟩) ⟨⟨hx,w,B4b hn⟩,by show some _=some (⟨m,st,g,A4o (kws++[(x,w)]) x,[]⟩:Kst);rw[E3q hn]⟩ .nil)
theorem E3t {o:Int}(hx:A3a x)(hn:J7 kws x=none)(hw:A07 m w)(hl:kws.length<40)(o0:-∅<=o)(o1:o<=∅):Run (some ⟨m,st,g,kws,[]⟩) [.deed (.lay x (w.1,w.2.1,o)),.deed (.turn x w.2.2)] (some ⟨m,st,g,kws++[(x,w)],[]⟩):=
 .cons (s1:=some ⟨m,st,g,kws++[(x,(w.1,w.2.1,o))],[]⟩) ⟨⟨hx,hn,⟨hw.st,hw.en,o0,o1⟩,hl⟩,by show some _=some (⟨m,st,g,i9 kws x (w.1,w.2.1,o),[]⟩:Kst);rw[B32 hn]⟩ (.cons (s1:=some ⟨m,st,g,kws++[(x,w)],[]⟩) ⟨⟨⟨hx,_,B4b hn⟩,hw.lo,hw.hi⟩,by
  show some _=some (⟨m,st,g,i9 (kws++[(x,(w.1,w.2.1,o))]) x (A29 (kws++[(x,(w.1,w.2.1,o))]) x w.2.2),[]⟩:Kst);rw[E3r hn];unfold A29;rw[B4b hn];rfl⟩ .nil)
theorem E3u {s:Int}(s0:0<=s)(s1:s<=100000000000000000000)(hg:F3 m s g):Run (some ⟨m,st,g,kws,[]⟩) [.deed (.refill s)] (some ⟨m,s,g,kws,[]⟩):=.cons ⟨⟨⟨s0,s1⟩,hg⟩,rfl⟩ .nil
end
def t12:Tb:=some 3::noT 11
theorem C0c {st:Int}(h:3<=st):F3 12 st t12:=⟨by unfold t12 noT;rw[J6,d9],λp y e=>by
 unfold t12 gt at e;cases p with
 | zero=>cases e;omega
 | succ p=>exact (A7b 11 st).bd p y e⟩
def B02 (m:Nat)(g:Tb):!Cmd:=[.land 12 7,.deed (.lay 5 (11,0,3)),.deed (.aim t12),.ask .least,.ask (.any t12),.land m 100000000000000000000,.deed (.aim g)]
theorem E3v {m:Nat}{st:Int}{g:Tb}(m1:1<=m)(m2:m<=12)(h:F3 m st g)(h1:st<=100000000000000000000)(s:Option Kst):Run s (B02 m g) (some ⟨m,100000000000000000000,g,[],[]⟩):=by
 refine .cons (s1:=some ⟨12,7,noT 12,[],[]⟩) ⟨⟨DD,DD⟩,⟨DD,DD⟩,rfl⟩ ?_;refine .cons (s1:=some ⟨12,7,noT 12,[(5,(11,0,3))],[]⟩) ⟨⟨⟨DD,DD⟩,rfl,⟨DD,DD,DD,DD⟩,DD⟩,rfl⟩ ?_;refine .cons (s1:=some ⟨12,7,t12,[(5,(11,0,3))],[]⟩) ⟨C0c DD,rfl⟩ ?_;refine .cons ⟨trivial,rfl⟩ (.cons ⟨⟨C0c DD,C0c DD⟩,rfl⟩ ?_);refine .cons (s1:=some ⟨m,100000000000000000000,noT m,[],[]⟩) ⟨⟨m1,m2⟩,⟨DD,DD⟩,rfl⟩ (.cons ⟨?_,rfl⟩ .nil);exact⟨h.len,λp y e=>⟨(h.bd p y e).1,A0w (h.bd p y e).2 h1⟩⟩
theorem E3w:("lay 5 11 0 3" : Str)=(Cmd.deed (.lay 5 (11,0,3))).tx:=Y2 (by
 show _=cp (L1 [("lay" : Str),itx 5,itx 11,itx 0,itx 3]);rw[V5];decide +kernel)
theorem E3x:("land 12 7" : Str)=(Cmd.land 12 7).tx:=Y2 (by
 show _=cp (L1 [("land" : Str),itx 12,itx 7]);rw[V5];decide +kernel)
theorem C0d:(⟨(G1 11 (Str.ofString " -").cps).foldl (·++·) #[]⟩:Str)=Str.ofString " - - - - - - - - - - -" :=by decide +kernel
theorem E3y:("aim 3" : Str)++Str.ofString " - - - - - - - - - - -" = (Cmd.deed (.aim t12)).tx:=Y2 (by
 show _=cp (L1 (("aim" : Str)::t12.map lvW));rw[V5,A0a];decide +kernel)
theorem E3z:("any 3" : Str)++Str.ofString " - - - - - - - - - - -" = (Cmd.ask (.any t12)).tx:=Y2 (by
 show _=cp (L1 (("any" : Str)::t12.map lvW));rw[V5,A0a];decide +kernel)
theorem C74:("least" : Str)=(Cmd.ask .least).tx:=Y2 (by
 show _=cp (L1 [("least" : Str)]);rw[V5,a8])
def A41 (n:Nat):!Int:=(U2 n).map λi:Nat=>(i:Int)
theorem E30 (n:Nat):A3w n=(A41 n).map V.int:=by unfold A3w A41;rw[Q8];rfl
def A7c (kz:Kw)(p:Int):Int×Wy:=(kz[p.toNat]?).getD (0,(0,0,0))
theorem E31 (kz:Kw):(A41 kz.length).map (A7c kz)=kz:=by
 unfold A41;rw[Q8];refine C0s λi=>?_;rw[M2];by_cases h:i<kz.length
 ·rw[C0t h,M8 h];show some (A7c kz ((i:Nat):Int))=_;unfold A7c;rw[A44,M8 h];rfl
 ·rw[A2g (by rw[m5];omega),A2g (OO)];rfl
theorem C75 {All:Kw}(nd:(F4 All).Nodup){i:Nat}{x:Int}{w:Wy}(h:All[i]?=some (x,w)):J7 (All.take i) x=none:=by
 refine E3p λhx=>?_;let⟨hi,e⟩:=X4.mp h;have sp:All=All.take i++(x,w)::All.drop (i+1):=by rw[<-e,<-C0u hi,List.take_append_drop]
 rw[sp] at nd;unfold F4 at nd hx;rw[L7,K9] at nd;exact (List.nodup_append.mp nd).2.2 x hx x E5 rfl
theorem B03 {hd hl l:Addr}{H0 H:Hp}{cs:!Cmd}{c:Cmd}{x:Str}{Q:VK}(O:Own hd hl l H0 H (txs cs))(h:cs.length<=200)(e:x=c.tx)(k:Own hd hl l H0 (upd H l (.lst (txs (cs++[c])))) (txs (cs++[c]))->Q .non (upd H l (.lst (txs (cs++[c]))))):B45 (.ref l) [.str x] H Q:=by
 subst e;refine⟨l,_,_,rfl,rfl,O.eq,by unfold txs;rw[B7,sizeLine_eq];omega,?_⟩;rw[show txs cs++[V.str c.tx]=txs (cs++[c]) by rw[C0b];rfl];exact k (O.put _)
abbrev rSt (hd tl gl ll l:Addr)(st:Int)(r:Lake.St):Lake.St:=some (.ref hd)::some (.ref tl)::some (.int st)::some (.ref gl)::some (.ref ll)::some (.ref l)::r
def E32:Sp:=λvs H Q J=>∃(hd hl tl gl ll:Addr)(m:Nat)(st:Int)(g:Tb)(L:!Int)(ws:!Wy),vs=[.ref hd,.ref tl,.int st,.ref gl,.ref ll]/\Hd H hd hl/\Gd hd H tl gl ll m st g L ws/\L.Nodup/\
 ∀(l:Addr)(cs:!Cmd)(kws:Kw)(H':Hp),H l=none->H' l=some (.lst (txs cs))->cs.length<=200->kws.Perm (L.zip ws)->(∀s,Run s cs (some ⟨m,st,g,kws,[]⟩))->Kp hd H H'->Hd H' hd hl->Q (.ref l) H'
theorem E33:FK P w base 5 T.dz E32:=by
 refine T.dz.F.ok A4i (λJ H J J h=>?_) (λJ J J s H J Q J hr h=>?_)
 ·let⟨hd,hl,tl,gl,ll,m,st,g,L,ws,rfl,_⟩:=h;rfl
 ·let⟨hd,hl,tl,gl,ll,m,st,g,L,ws,rfl,hh,G,nd,told⟩:=h;refine⟨_,(C0 (pS (i:=5) A4i.nd (T0 (A3 F9 (A3 F9 (A3 (F5 V3 F9 (F5 C71 F9 B4)) (A3 F9 (A3 (F5 V3 F9 (F5 C71 F9 B4)) A4 G6) F2) G6) F2) F2)))
   (C0 (N7 (L8 S9 U5 U6 T6 (pv 5) (A3 (F5 V3 (F5 V3 (F5 V3 F9 (M6 W7 rfl T.aQ U0 (A3 (E6 T5 (pv 1) B4) A4 B0))) F9) (M6 W7 rfl T.aQ U0 (A3 (F5 V7 B4 B4) A4 G6))) A4 G6)))
   (C0 (N7 (L8 S9 U5 U6 T6 (pv 5) (A3 (F5 V3 F9 (pcF T.bL (C0a T) hr (A3 (pv 3) A4 A0))) A4 G6)))
   (C0 (X6 T3 rfl (U9 (pcF T.dy (E3f T) hr (A3 (pv 0) (A3 (M6 (D08 rfl) rfl T.cz A1h (A3 (M6 D06 rfl T.cj D03 (A3 (K5 V8 rfl T.aP T9 (A3 (pv 4) A4 A0)) A4 C6)) A4 C6)) A4 C6) A0))) (N8 (i:=6) A4i.nd)
   (C0 (m6 (E6 G8 (E6 T5 (pv 1) B4) (pv 6)) (A7s (n:=3) rfl (t8 (N8 (i:=7) A4i.nd) (t8 (N8 (i:=8) A4i.nd) (t8 (N8 (i:=9) A4i.nd) A7r)))))
   (C0 (pS (i:=10) A4i.nd (pcF T.af (A2a T) hr (A3 (pv 0) (A3 B4 A4 F2) A0)))
   (C0 (N9 (M5 (P9 m7 (pv 10) B4 (F6 _))
   (C0 (N7 (L8 S9 U5 U6 T6 (pv 5) (A3 (pcF T.aI (C7w T) hr (A3 (E6 G8 (pv 4) (pv 6)) (A3 (w5 (A3 (pv 8) (A3 (pv 7) (A3 B4 A4 F2) A0) A0)) A4 g4) B0)) A4 C6)))
   (C9 (N7 (L8 S9 U5 U6 T6 (pv 5) (A3 (F5 V3 F9 (M6 W7 rfl T.aQ U0 (A3 (E6 G8 (pv 4) (pv 6)) A4 B0))) A4 G6)))))
   M9))
   (C9 (M5 (P9 m7 (pv 10) B4 (F6 _))
   (C0 (pS (i:=11) A4i.nd (pcF T.ci (C6o T) hr (A3 (pv 0) (A3 (F5 V7 B4 B4) A4 G6) A0)))
   (C0 (N7 (L8 S9 U5 U6 T6 (pv 5) (A3 (pcF T.aI (C7w T) hr (A3 (E6 G8 (pv 4) (pv 6)) (A3 (w5 (A3 (pv 7) (A3 (pv 8) (A3 (pv 11) A4 A0) A0) A0)) A4 g4) B0)) A4 C6)))
   (C9 (N7 (L8 S9 U5 U6 T6 (pv 5) (A3 (F5 V3 (F5 V3 (F5 V3 F9 (M6 W7 rfl T.aQ U0 (A3 (E6 G8 (pv 4) (pv 6)) A4 B0))) F9) (M6 W7 rfl T.aQ U0 (A3 (pv 9) A4 A0))) A4 G6))))))
   (C9 (N7 (L8 S9 U5 U6 T6 (pv 5) (A3 (pcF T.aI (C7w T) hr (A3 (E6 G8 (pv 4) (pv 6)) (A3 (w5 (A3 (pv 7) (A3 (pv 8) (A3 (pv 9) A4 A0) A0) A0)) A4 g4) B0)) A4 C6))))))))))
   (C9 (G0 (F5 A5j (pv 5) (T0 (A3 (F5 V3 F9 (M6 W7 rfl T.aQ U0 (A3 (pv 2) A4 A0))) A4 G6))))))))),?_⟩
  ac_nf
  have m1:=G.ok.m1;have m2:=G.ok.m2;have s0:=G.s0;have s1:=G.s1;have few:=G.ok.few;have hL:=G.len;have hm:((m:Nat):Int).natAbs<10^60:=i60 OO (OO);have hs:st.natAbs<10^60:=i60 OO (OO);have t20:(10:Int)^p9 20=100000000000000000000:=by decide
  have t18:(10:Int)^p9 18=∅:=by decide
  have h20:(100000000000000000000:Int).natAbs<10^60:=i60 DD (DD);let⟨rl,us,e1,nrl,e2,lu,hw⟩:=id G.la;have lm:(Str.ofString (toString ((m:Nat):Int))).length<=61:=R6 hm;have l20:(Str.ofString (toString (100000000000000000000:Int))).length<=61:=R6 h20;have ld:Str.length "land " = 5:=by decide
  have l1:Str.length " " = 1:=by decide
  have KO:KOk m st (noT m) []:=⟨m1,m2,s0,s1,A7b m st,B4q,Q7 _,λx hx=>absurd hx Z4⟩;refine⟨rfl,rfl,_,_,rfl,rfl,by rw[C0d];decide,rfl,rfl,_,_,rfl,rfl,by rw[C0d];decide,SZ (n:=5),λl nl=>?_⟩;rw[C0d,E3y,E3z,E3w,C74,E3x];have O0:=Own.mk0 (xs:=txs [.land 12 7,.deed (.lay 5 (11,0,3)),.deed (.aim t12),.ask .least,.ask (.any t12)]) (Kp.refl hd H) hh hh nl;obtain⟨H1,hH1⟩:∃H1,H1=upd H l (.lst [V.str (Cmd.land 12 7).tx,V.str (Cmd.deed (.lay 5 (11,0,3))).tx,V.str (Cmd.deed (.aim t12)).tx,V.str (Cmd.ask .least).tx,V.str (Cmd.ask (.any t12)).tx]):=⟨_,rfl⟩;rw[<-hH1];rw[show upd H l (.lst (txs [.land 12 7,.deed (.lay 5 (11,0,3)),.deed (.aim t12),.ask .least,.ask (.any t12)]))=H1 from hH1.symm] at O0;clear hH1;dsimp only[rSt,K1,K6];have u1:=(O0.kp _ _ e1 (A3d hh e1));exists _,rfl,.inl ⟨rfl,_,SqL.of O0.eq⟩,_,rfl,tl,_,_,_,rfl,rfl,SqT.of u1,rfl,_,rfl,V4 hm,_,_,rfl,rfl,OO,_,_,rfl,rfl,by rw[b8];omega,_,_,rfl,rfl,⟨DD,DD,DD⟩;refine⟨100000000000000000000,by show [V.int ((10:Int)^p9 20)]=_;rw[t20],V4 h20,_,_,rfl,rfl,by rw[b8,b8];omega,l,_,_,rfl,rfl,O0.eq,by show 5<sizeLine;decide,?_⟩;rw[show ("land " ++Str.ofString (toString ((m:Nat):Int))++ " " ++Str.ofString (toString (100000000000000000000:Int)):Str)=(Cmd.land m 100000000000000000000).tx from C7z m _];have O1:=O0.put (txs [.land 12 7,.deed (.lay 5 (11,0,3)),.deed (.aim t12),.ask .least,.ask (.any t12)]++[V.str (Cmd.land m 100000000000000000000).tx]);generalize upd H1 l (.lst (txs [.land 12 7,.deed (.lay 5 (11,0,3)),.deed (.aim t12),.ask .least,.ask (.any t12)]++[V.str (Cmd.land m 100000000000000000000).tx]))=H2 at O1 ⊢;have G2:=G.kl hh (A40 O1.kp);have tl12:=G.tb.len;refine⟨_,rfl,.inl ⟨rfl,_,SqL.of O1.eq⟩,_,rfl,gl,_,rfl,G2.eg,B0x G.tb s1,by rw[B7];omega,λH3 s3=>?_⟩;rw[B0w];have O3:=O1.same s3;have R:=B39 (k:=⟨m,st,noT m,[],[]⟩) (dd:=.aim g) KO G.tb;have eat:=C70 G.tb m1;refine⟨_,_,rfl,rfl,by rw[<-b8,eat];exact M0 R.1 DD,l,_,_,rfl,rfl,O3.eq,by show 6<sizeLine;decide,?_⟩;rw[eat];have O4:Own hd hl l H (upd H3 l (.lst (txs (B02 m g)))) (txs (B02 m g)):=O3.put _;obtain⟨H4,hH4⟩:∃H4,H4=upd H3 l (.lst (txs [.land 12 7,.deed (.lay 5 (11,0,3)),.deed (.aim t12),.ask .least,.ask (.any t12)]++[V.str (Cmd.land m 100000000000000000000).tx]++[V.str (Cmd.deed (.aim g)).tx])):=⟨_,rfl⟩;rw[<-hH4];rw[show upd H3 l (.lst (txs (B02 m g)))=H4 from hH4.symm] at O4;clear hH4 O3 O1 O0 s3 G2 u1;have G4:=G.kl hh (A40 O4.kp);refine⟨_,rfl,_,rfl,ll,_,rfl,.inl (SqL.of G4.el),_,rfl,λpr npr=>?_⟩;rw[B7];have s5:=Same.upd (o:=.rng 0 ((L.length:Nat):Int)) npr;refine⟨pr,_,rfl,B9,OO,OO,λl5 nl5=>?_⟩;rw[A44,E30];have s6:=s5.tr (Same.upd (o:=.lst ((A41 L.length).map V.int)) nl5);have O6:=O4.same s6;have n5:l5≠hd:=λz=>by
   have:=s5.early nl5;rw[z] at this;let⟨_,e⟩:=O4.hh.at1;rw[this] at e;cases e
  refine⟨hd,hl,l5,A41 L.length,rfl,O6.hh,B9,n5,by unfold A41;rw[B7,m5];omega,λl6 ps H7 nl6 pm e6 k7 h7=>?_⟩;have O7:=O6.draw k7 h7;have n6:l6≠hd:=(O6.hh.ne nl6).1;have n6l:l≠l6:=λz=>by rw[<-z,O6.eq] at nl6;cases nl6
  clear O6 s6 s5 O4;obtain⟨kz,hkz⟩:∃kz,kz=L.zip ws:=⟨_,rfl⟩;have lz:kz.length=L.length:=by rw[hkz,B4s];omega
  obtain⟨All,hAll⟩:∃All,All=ps.map (A7c kz):=⟨_,rfl⟩;have pA:All.Perm kz:=by
   have:=pm.map (A7c kz);rw[<-lz,E31] at this;rw[hAll];exact this
  have ndA:(F4 All).Nodup:=by
   refine (pA.map Prod.fst).nodup_iff.mpr ?_;rw[hkz,List.map_fst_zip (OO)];exact nd
  have lA:All.length=L.length:=pA.length_eq.trans lz;have lp:ps.length=L.length:=by rw[<-lA,hAll,B7]
  exists l6,rfl,⟨_,SqL.of e6⟩;refine A5a (xs:=ps.map V.int) (λi σ' H'=>∃(x6 x7 x8 x9 x10 x11:Option V)(cs:!Cmd),σ'=rSt hd tl gl ll l st [x6,x7,x8,x9,x10,x11]/\Own hd hl l H H' (txs cs)/\H' l6=some (.lst (ps.map V.int))/\cs.length<=7+4*i/\∀s,Run s cs (some ⟨m,100000000000000000000,g,All.take i,[]⟩)) ⟨_,_,_,_,_,_,B02 m g,rfl,O7,e6,by show 7<=_;omega,λs=>E3v m1 m2 G.tb s1 s⟩ (λi σ' H' hi ⟨_,_,_,_,_,_,_,_,_,e,_⟩=>SqL.of e) ?_ ?_
  ·rintro i v σ' H8 hv ⟨x6,x7,x8,x9,x10,x11,cs,rfl,O,e8,lc,run⟩;rw[M2] at hv;let⟨pI,hp,rfl⟩:=A1e.mp hv;have hiL:i<L.length:=by
    let⟨z,_⟩:=X4.mp hp;omega
   have hmem:=pm.mem_iff.mp (U4 hp);unfold A41 at hmem;let⟨j,hj,rfl⟩:=L0.mp hmem;have hj:=A2d.mp hj;let⟨x,w0,hx,hw0,hz,hb,wo⟩:=G.at (i:=j) (OO);let⟨a,ha,ea⟩:=hw j w0 hw0;let⟨w1,w2,w3⟩:=wo.b60 m2;have hx60:x.natAbs<10^60:=i60 OO (OO);have hAi:All[i]?=some (x,w0):=by
    rw[hAll,M2,hp];show some (A7c kz ((j:Nat):Int))=_;unfold A7c;rw[A44,hkz,hz];rfl
   have hn:=C75 ndA hAi;have ht:All.take (i+1)=All.take i++[(x,w0)]:=by rw[A1t,hAi];rfl
   have lt40:(All.take i).length<40:=by rw[X5];omega
   have kpl:∀{H':Hp},Kp hd H H'->H' ll=some (.lst (L.map V.int)):=λk=>k _ _ G.el G.nl;dsimp only[rSt,K1,K6];exists _,rfl,tl,_,_,_,rfl,rfl,SqT.of (O.kp _ _ e1 (A3d hh e1)),rfl,_,rfl,rl,_,_,_,rfl,rfl,SqL.of (O.kp _ _ e2 nrl),f7 ha;exists a,_,rfl,SqT.of (O.kp _ _ ea (A3d hh ea)),rfl,_,_,rfl,_,_,rfl,_,_,rfl,rfl;dsimp only[rSt,K1,K6];refine⟨_,rfl,A4y DD DD O.hh λu H9 u0 u3 k9 h9=>?_⟩;have O9:=O.draw k9 h9;have e9:=k9 _ _ e8 n6;dsimp only[rSt,K1,K6];refine⟨fun σ' H'=>∃cs':!Cmd,σ'=rSt hd tl gl ll l st [some (.int ((j:Nat):Int)),some (.int ((w0.1:Nat):Int)),some (.int ((w0.2.1:Nat):Int)),some (.int w0.2.2),some (.int u),x11]/\Own hd hl l H H' (txs cs')/\H' l6=some (.lst (ps.map V.int))/\cs'.length<=9+4*i/\∀s,Run s cs' (some ⟨m,100000000000000000000,g,All.take i,[]⟩),?_,?_⟩
   ·exists _,rfl,rfl,_,rfl;by_cases c:u=0
    ·rw[c,show decide (V.int 0=V.int 0)=true from decide_eq_true rfl];refine L4 ⟨_,rfl,.inl ⟨rfl,_,SqL.of O9.eq⟩,_,rfl,_,rfl,ll,_,_,_,rfl,rfl,SqL.of (kpl O9.kp),A6t (f7 hx),_,rfl,_,rfl,SZ (n:=3),λta nta=>?_⟩;have sa:=Same.upd (o:=.tup [.int ((w0.2.1:Nat):Int),.int ((w0.1:Nat):Int),.int 1]) nta;refine⟨x,ta,(w0.2.1,w0.1,1),rfl,B9,⟨hx60,w2,w1,by show (1:Int).natAbs<10^60;decide⟩,λHA sA=>?_⟩;have OA:=O9.same (sa.tr sA);have eA:=sA _ _ (sa _ _ e9);dsimp only[W8];refine B03 OA OO rfl λOB=>?_;refine⟨_,rfl,.inl ⟨rfl,_,SqL.of OB.eq⟩,_,rfl,_,rfl,ll,_,_,_,rfl,rfl,SqL.of (kpl OB.kp),A6t (f7 hx),_,rfl,V4 hx60,_,_,rfl,rfl,M0 (Nat.add_le_add (show Str.length "lift " <=5 by decide) (R6 hx60)) DD,?_⟩;dsimp only[W8];refine B03 OB (by rw[L3];show _+1<=_;omega) (E3i x) λOC=>?_;refine⟨_,rfl,OC,by rw[C4 n6l.symm,C4 n6l.symm];exact eA,by rw[L3,L3];show _+1+1<=_;omega,λs=>?_⟩;rw[j9];exact (run s).app (E3s hb hn ⟨wo.en,wo.st,by show (-∅:Int)<=1;decide,by show (1:Int)<=∅;decide⟩ lt40)
    ·rw[decide_eq_false λz=>c (V.int.inj z)];exact G5 ⟨cs,rfl,O9,e9,OO,run⟩
   rintro σ' HD ⟨cs',rfl,OD,eD,lD,runD⟩;exists _,rfl,rfl,_,rfl;by_cases c:u=1
   ·rw[c,show decide (V.int 1=V.int 1)=true from decide_eq_true rfl];refine L4 ⟨_,rfl,_,_,rfl,rfl,⟨DD,DD,DD⟩,?_⟩;refine A84 (E:=E0) (λd=>∃r:Int,(-∅<=r/\r<=∅)/\d=.int r) OD.hh (.cons (.int _) .nil) ⟨_,(10:Int)^p9 18,rfl,by rw[t18];decide,by rw[t18];decide,λr a b=>⟨r,by rw[t18] at a b;exact⟨a,b⟩,rfl⟩⟩ λd v HE hd' tv kE' hE=>?_;let⟨o,⟨o0,o1⟩,rfl⟩:=hd';cases tv;have kE:Kp hd HD HE:=λb o e n=>kE' b o e λq hq=>by cases hq;exact n
    have OE:=OD.draw kE hE;have eE:=kE _ _ eD n6;have ho:o.natAbs<10^60:=i60 OO (OO);dsimp only[rSt,K1,K6];refine⟨_,rfl,.inl ⟨rfl,_,SqL.of OE.eq⟩,_,rfl,_,rfl,ll,_,_,_,rfl,rfl,SqL.of (kpl OE.kp),A6t (f7 hx),_,rfl,_,rfl,_,rfl,SZ (n:=3),λta nta=>?_⟩;have sa:=Same.upd (o:=.tup [.int ((w0.1:Nat):Int),.int ((w0.2.1:Nat):Int),.int o]) nta;refine⟨x,ta,(w0.1,w0.2.1,o),rfl,B9,⟨hx60,w1,w2,ho⟩,λHA sA=>?_⟩;have OA:=OE.same (sa.tr sA);have eA:=sA _ _ (sa _ _ eE);dsimp only[W8];refine B03 OA OO rfl λOB=>?_;have lx:(Str.ofString (toString x)).length<=61:=R6 hx60;have lch:(Str.ofString (toString w0.2.2)).length<=61:=R6 w3;have lt:Str.length "turn " = 5:=by decide
    refine⟨_,rfl,.inl ⟨rfl,_,SqL.of OB.eq⟩,_,rfl,_,rfl,ll,_,_,_,rfl,rfl,SqL.of (kpl OB.kp),A6t (f7 hx),_,rfl,V4 hx60,_,_,rfl,rfl,OO,_,_,rfl,rfl,by rw[b8];omega,_,rfl,_,rfl,V4 w3,_,_,rfl,rfl,by rw[b8,b8];omega,?_⟩;dsimp only[W8];refine B03 OB (by rw[L3];show _+1<=_;omega) (E3h x w0.2.2) λOC=>?_;refine⟨_,_,_,_,_,_,_,rfl,OC,by rw[C4 n6l.symm,C4 n6l.symm];exact eA,by rw[L3,L3];show _+1+1<=_;omega,λs=>?_⟩;rw[j9,ht];exact (runD s).app (E3t hb hn wo lt40 o0 o1)
   ·rw[decide_eq_false λz=>c (V.int.inj z)];refine G5 ⟨_,rfl,.inl ⟨rfl,_,SqL.of OD.eq⟩,_,rfl,_,rfl,ll,_,_,_,rfl,rfl,SqL.of (kpl OD.kp),A6t (f7 hx),_,rfl,_,rfl,_,rfl,SZ (n:=3),λta nta=>?_⟩;have sa:=Same.upd (o:=.tup [.int ((w0.1:Nat):Int),.int ((w0.2.1:Nat):Int),.int w0.2.2]) nta;refine⟨x,ta,w0,rfl,B9,⟨hx60,w1,w2,w3⟩,λHA sA=>?_⟩;have OA:=OD.same (sa.tr sA);have eA:=sA _ _ (sa _ _ eD);dsimp only[W8];refine B03 OA OO rfl λOB=>?_;refine⟨_,_,_,_,_,_,_,rfl,OB,by rw[C4 n6l.symm];exact eA,by rw[L3];show _+1<=_;omega,λs=>?_⟩;rw[ht];exact (runD s).app (C73 hb hn wo lt40)
  ·rintro σ' H8 ⟨x6,x7,x8,x9,x10,x11,cs,rfl,O,e8,lc,run⟩;rw[B7] at lc run;rw[lp,<-lA,A1v] at run;refine⟨_,rfl,_,rfl,_,rfl,V4 hs,_,_,rfl,rfl,M0 (Nat.add_le_add (show Str.length "refill " <=7 by decide) (R6 hs)) DD,SZ (n:=1),λl8 nl8=>?_⟩;have s8:=Same.upd (o:=.lst [V.str ("refill " ++Str.ofString (toString st))]) nl8;have O8:=O.same s8;have lcs:(txs cs).length<=200:=by unfold txs;rw[B7];omega
   refine⟨l,l8,_,_,rfl,rfl,O8.eq,B9,by show (txs cs).length+1<=_;rw[sizeLine_eq];omega,λl9 nl9=>?_⟩;have n9:=(O8.hh.ne nl9).1;have n0:H l9=none:=by
    cases z:H l9 with
    | none=>rfl
    | some o=>rw[O8.kp _ _ z n9] at nl9;cases nl9
   have s9:=Same.upd (o:=.lst (txs cs++[V.str ("refill " ++Str.ofString (toString st))])) nl9;refine told l9 (cs++[.deed (.refill st)]) All _ n0 ?_ (by rw[L3];show _+1<=_;omega) (hkz▸pA) (λs=>(run s).app (E3u s0 s1 G.tb)) (O8.kp.trans s9.kp) (O8.hh.same s9);rw[B9,C0b];show some (HO.lst (txs cs++[V.str ("refill " ++itx st)]))=_;rw[E3j];rfl
theorem Own.oth {hd hl l l2:Addr}{H0 H:Hp}{xs ys:!V}(O:Own hd hl l H0 H xs)(O2:Own hd hl l2 H0 H ys)(n:l≠l2)(zs:!V):Own hd hl l H0 (upd H l2 (.lst zs)) xs:=⟨(O2.put zs).hh,(O2.put zs).kp,by rw[C4 n];exact O.eq,O.nw,O.n1,O.n2⟩
def spt:!Sp2->!Str
 | []=>[]
 | b::r=>itx ((b.1:Nat):Int)::itx b.2::spt r
theorem C76:∀(a:!Sp2)(b:Sp2),spt (a++[b])=spt a++[itx ((b.1:Nat):Int),itx b.2]
 | [],b=>rfl
 | x::a,b=>by show _::_::spt (a++[b])=_;rw[C76 a b];rfl
theorem B04:∀a:!Sp2,(spt a).length=2*a.length
 | []=>rfl
 | x::a=>by show (spt a).length+1+1=_;rw[B04 a,J6];omega
theorem E34 (b g:Sp2)(n:Nat):L1 (("soon" : Str)::spt [b,g])++ " " ++itx ((n:Nat):Int)=(Cmd.ask (.soon b g n)).tx:=Y2 (by
 show _=cp (L1 [("soon" : Str),itx ((b.1:Nat):Int),itx b.2,itx ((g.1:Nat):Int),itx g.2,itx ((n:Nat):Int)]);simp only[A0a,V5,B93,spt,A0b,a8,j9,T2,A0f])
theorem C0e {ws:!Str}(h:∀w∈ws,w.length<=61):(L1 ws).length<=ws.length*62:=by
 rw[W2,V5];exact B37 ws h
theorem C77 {m:Nat}{top:Int}(m2:m<=12)(t1:top<=∅):∀{ss:!Sp2},(∀b∈ss,SpB m top b)->∀w∈spt ss,w.length<=61
 | [],_,w,hw=>absurd hw Z4
 | b::r,h,w,hw=>by
  let⟨b1,b2,b3⟩:=h b E5;rcases K7.mp hw with rfl | hw
  ·exact R6 (i60 OO OO)
  ·rcases K7.mp hw with rfl | hw
   ·exact R6 (i60 OO OO)
   ·exact C77 m2 t1 (λx hx=>h x (E3 _ hx)) w hw
abbrev aSt (hd tl l:Addr)(st top:Int)(r:Lake.St):Lake.St:=some (.ref hd)::some (.ref tl)::some (.int st)::some (.int top)::some (.ref l)::r
def E35:Sp:=λvs H Q J=>∃(hd hl tl:Addr)(m:Nat)(st:Int)(ws:!Wy),vs=[.ref hd,.ref tl,.int st]/\Hd H hd hl/\A3g hd H tl m ws/\(1<=m/\m<=12)/\(0<=st/\st<=100000000000000000000)/\
 ∀(l:Addr)(as:!Ask)(H':Hp),H l=none->H' l=some (.lst (txs (as.map Cmd.ask)))->as.length<=8->as[0]?=some .least->(∀a∈as,a≠.ways/\c9 m st a)->Kp hd H H'->Hd H' hd hl->Q (.ref l) H'
theorem E36:FK P w base 5 T.ef E35:=by
 refine T.ef.F.ok A1k (λJ H J J h=>?_) (λJ J J J H J Q J hr h=>?_)
 ·let⟨hd,hl,tl,m,st,ws,rfl,_⟩:=h;rfl
 ·let⟨hd,hl,tl,m,st,ws,rfl,hh,la,⟨m1,m2⟩,⟨s0,s1⟩,told⟩:=h;refine⟨_,(C0 (pS (i:=3) A1k.nd (K5 (A5e rfl) rfl T.eM A5l (A3 (pv 2) (A3 (F5 V7 B4 B4) A4 G6) A0)))
   (C0 (pS (i:=4) A1k.nd (T0 (A3 F9 A4 F2)))
   (C0 (X6 T3 rfl (U9 (T0 (A3 F9 (A3 F9 (A3 F9 A4 F2) F2) F2))) (N8 (i:=5) A1k.nd)
   (C9 (N7 (L8 S9 U5 U6 T6 (pv 4) (A3 (F5 V3 (F5 V3 (pv 5) F9) (pcF T.bL (C0a T) hr (A3 (pcF T.cC (C6p T) hr (A3 (pv 0) (A3 (E6 T5 (pv 1) B4) (A3 (pv 3) A4 A0) B0) A0)) A4 C6))) A4 G6)))))
   (C0 (X6 T3 rfl (U9 (T0 (A3 F9 (A3 F9 (A3 F9 (A3 F9 A4 F2) F2) F2) F2))) (N8 (i:=5) A1k.nd)
   (C0 (pS (i:=6) A1k.nd (T0 A4))
   (C0 (pS (i:=7) A1k.nd (pv 3))
   (C0 (N9 (M5 (P9 m7 (pv 5) F9 (F6 _))
   (C9 (pS (i:=7) A1k.nd (K5 (A5e rfl) rfl T.eM A5l (A3 (F5 V7 B4 B4) (A3 (F5 Q4 (F5 A1z B4 (pv 2)) B4) A4 G6) G6))))
   M9))
   (C0 (X6 T3 rfl (A2m rfl T.cj (A3 B4 A4 F2)) (N8 (i:=8) A1k.nd)
   (C0 (N7 (L8 S9 U5 U6 T6 (pv 6) (A3 (M6 W7 rfl T.aQ U0 (A3 (pcF T.af (A2a T) hr (A3 (pv 0) (A3 (E6 T5 (pv 1) B4) A4 B0) A0)) A4 C6)) A4 C6)))
   (C9 (N7 (L8 S9 U5 U6 T6 (pv 6) (A3 (M6 W7 rfl T.aQ U0 (A3 (pcF T.af (A2a T) hr (A3 (pv 0) (A3 (F5 Q4 (pv 7) B4) A4 G6) A0)) A4 C6)) A4 C6))))))
   (C0 (pS (i:=9) A1k.nd (F5 V3 (F5 V3 (pv 5) F9) (L8 A3m B1k B1l A8v F9 (A3 (pv 6) A4 A0))))
   (C0 (N9 (M5 (P9 m7 (pv 5) F9 (F6 _))
   (C9 (pS (i:=9) A1k.nd (F5 V3 (F5 V3 (pv 9) F9) (M6 W7 rfl T.aQ U0 (A3 (pcF T.af (A2a T) hr (A3 (pv 0) (A3 B4 A4 F2) A0)) A4 C6)))))
   M9))
   (C9 (N7 (L8 S9 U5 U6 T6 (pv 4) (A3 (pv 9) A4 A0)))))))))))
   (C9 (G0 (pv 4))))))),?_⟩
  ac_nf
  let⟨rl,us,e1,nrl,e2,lu,hw⟩:=la;have t18:(10:Int)^p9 18=∅:=by decide
  obtain⟨top,htop⟩:∃top:Int,top=if (10:Int)^p9 18<st then 10^p9 18 else st:=⟨_,rfl⟩
  have tb:0<=top/\top<=∅/\top<=st:=by
   rw[htop,t18];split <;> omega
  let⟨t0,t1,t2⟩:=tb;exists _,rfl,_,_,rfl,rfl,⟨DD,DD,DD⟩,_,_,rfl;rw[<-htop];dsimp only[aSt,K1,K6];refine⟨SZ (n:=1),λl nl=>?_⟩;rw[C74];have O0:=Own.mk0 (xs:=txs ([Ask.least].map Cmd.ask)) (Kp.refl hd H) hh hh nl;obtain⟨H1,hH1⟩:∃H1,H1=upd H l (.lst [V.str (Cmd.ask .least).tx]):=⟨_,rfl⟩;rw[<-hH1];rw[show upd H l (.lst (txs ([Ask.least].map Cmd.ask)))=H1 from hH1.symm] at O0;clear hH1;dsimp only[K6];refine⟨SZ (n:=3),λlw nlw=>?_⟩;have O1:=O0.same (Same.upd (o:=.lst [V.str "highest",.str "any",.str "highest"]) nlw);have nlw1:lw≠hd:=(O0.hh.ne nlw).1;have nlw2:l≠lw:=λz=>by rw[<-z,O0.eq] at nlw;cases nlw
  have szc:∀{cs:!Ask},cs.length<=200->(txs (cs.map Cmd.ask)).length<sizeLine:=λh=>by unfold txs;rw[B7,B7,sizeLine_eq];omega
  have txa:∀(as:!Ask)(a:Ask),txs (as.map Cmd.ask)++[V.str (Cmd.ask a).tx]=txs ((as++[a]).map Cmd.ask):=λas a=>by rw[L7,C0b];rfl
  have getA:∀{as:!Ask}{a:Ask},as[0]?=some .least->(as++[a])[0]?=some .least:=λ{as a} h=>by
   cases as with
   | nil=>cases h
   | cons b r=>exact h
  have okA:∀{as:!Ask}{a:Ask},(∀a∈as,a≠.ways/\c9 m st a)->a≠.ways/\c9 m st a->∀b∈as++[a],b≠.ways/\c9 m st b:=λ{as a} h k b hb=>by
   rcases p7.mp hb with hb | hb
   ·exact h b hb
   ·rw[A2h.mp hb];exact k
  exists lw,rfl,⟨_,SqL.of B9⟩;refine A5a (xs:=[V.str "highest",.str "any",.str "highest"]) (λi σ' H'=>∃(x5:Option V)(as:!Ask),σ'=aSt hd tl l st top [x5,none,none,none,none]/\Own hd hl l H H' (txs (as.map Cmd.ask))/\H' lw=some (.lst [V.str "highest",.str "any",.str "highest"])/\as.length=1+i/\as[0]?=some .least/\∀a∈as,a≠.ways/\c9 m st a) ⟨_,[.least],rfl,O1,B9,rfl,rfl,λa ha=>by rw[A2h.mp ha];exact⟨λz=>(nomatch z),trivial⟩⟩ (λi σ' H' hi ⟨_,_,_,_,e,_⟩=>SqL.of e) ?_ ?_
  ·rintro i v σ' H2 hv ⟨x5,as,rfl,O,ew,las,a0,aok⟩;obtain⟨w0,mk,rfl,lw7,htx,hok⟩:∃(w0:Str)(mk:Tb->Ask),v=.str w0/\w0.length<=7/\(∀t:Tb,t≠[]->(w0++ " ")++tbW t=(Cmd.ask (mk t)).tx)/\∀t,F3 m st t->F3 m ∅ t->mk t≠.ways/\c9 m st (mk t):=by
    have H7:∃(w0:Str)(mk:Tb->Ask),(V.str "highest" : V)=.str w0/\w0.length<=7/\(∀t:Tb,t≠[]->(w0++ " ")++tbW t=(Cmd.ask (mk t)).tx)/\∀t,F3 m st t->F3 m ∅ t->mk t≠.ways/\c9 m st (mk t):=⟨"highest",.highest,rfl,DD,λt n=>B01 (w0:= "highest") (x0:= "highest" ++ " ") (by rw[A0a];decide) λz=>n (A7n.mp z),λt h J=>⟨λz=>(nomatch z),h⟩⟩
    match i,hv with
    | 0,hv=>cases hv;exact H7
    | 1,hv=>cases hv;exact⟨"any",.any,rfl,DD,λt n=>B01 (w0:= "any") (x0:= "any" ++ " ") (by rw[A0a];decide) λz=>n (A7n.mp z),λt h k=>⟨λz=>(nomatch z),h,k⟩⟩
    | 2,hv=>cases hv;exact H7
   have hi3:i<3:=(X4.mp hv).1;clear hv;dsimp only[aSt,K1,K6];have lsp:Str.length " " = 1:=by decide
   exists _,rfl,.inl ⟨rfl,_,SqL.of O.eq⟩,_,rfl,_,_,rfl,rfl,OO,_,rfl,_,rfl,tl,_,_,_,rfl,rfl,SqT.of (O.kp _ _ e1 (A3d hh e1)),rfl,_,rfl;refine A84 (E:=E0) (λd=>∃t,F3 m top t/\d=.list (E2 t)) O.hh (.cons (.int _) (.cons (.int _) .nil)) ⟨_,m,top,rfl,m2,t0,OO,λt ht=>⟨t,ht,rfl⟩⟩ λd v H3 hd' tv k3' h3=>?_;let⟨t,ht,rfl⟩:=hd';have k3:Kp hd H2 H3:=λb o e n=>k3' b o e λq hq=>by cases hq;exact n
   have O3:=O.draw k3 h3;let⟨lt,ut,rfl,_,et,tt⟩:=P7 tv;cases B0u tt;have lnt:=ht.len;have hts:F3 m st t:=⟨ht.len,λp y e=>⟨(ht.bd p y e).1,by have:=(ht.bd p y e).2;omega⟩⟩;have ht18:F3 m ∅ t:=⟨ht.len,λp y e=>⟨(ht.bd p y e).1,by have:=(ht.bd p y e).2;omega⟩⟩;refine⟨lt,_,rfl,et,B0x hts s1,by rw[B7];omega,λH4 s4=>?_⟩;rw[B0w];have O4:=O3.same s4;have ok1:=hok t hts ht18;have R:=B96 m1 m2 s1 ok1.2;have eat:=htx t (B38 ht m1);exists _,_,rfl,rfl,by rw[<-b8,show w0++Str.ofString " " ++tbW t=(Cmd.ask (mk t)).tx from eat];exact M0 R.1 DD,l,_,_,rfl,rfl,O4.eq,szc OO;rw[show w0++Str.ofString " " ++tbW t=(Cmd.ask (mk t)).tx from eat,txa];refine⟨_,as++[mk t],rfl,O4.put _,?_,by rw[L3,las];show 1+i+1=_;omega,getA a0,okA aok ok1⟩;rw[C4 nlw2.symm];exact s4 _ _ (k3 _ _ ew nlw1)
  rintro σ' H2 ⟨x5,as,rfl,O,_,las,a0,aok⟩;clear O1 O0;have las:as.length=4:=las;refine⟨SZ (n:=4),λlx nlx=>?_⟩;have O1:=O.same (Same.upd (o:=.lst [V.str "store",.str "soon",.str "store",.str "soon"]) nlx);have nlx1:lx≠hd:=(O.hh.ne nlx).1;have nlx2:l≠lx:=λz=>by rw[<-z,O.eq] at nlx;cases nlx
  exists lx,rfl,⟨_,SqL.of B9⟩;refine A5a (xs:=[V.str "store",.str "soon",.str "store",.str "soon"]) (λi σ' H'=>∃(x5 x6 x7 x8 x9:Option V)(as:!Ask),σ'=aSt hd tl l st top [x5,x6,x7,x8,x9]/\Own hd hl l H H' (txs (as.map Cmd.ask))/\H' lx=some (.lst [V.str "store",.str "soon",.str "store",.str "soon"])/\as.length=4+i/\as[0]?=some .least/\∀a∈as,a≠.ways/\c9 m st a) ⟨_,_,_,_,_,as,rfl,O1,B9,las,a0,aok⟩ (λi σ' H' hi ⟨_,_,_,_,_,_,_,_,e,_⟩=>SqL.of e) ?_ ?_
  ·rintro i v σ' H3 hv ⟨x5',x6,x7,x8,x9,as',rfl,O3,ex,las',a0',aok'⟩;have hi4:i<4:=(X4.mp hv).1;obtain⟨sn,rfl⟩:∃sn:Bool,v=.str (if sn=true then ("soon" : Str) else ("store" : Str)):=by
    match i,hv with
    | 0,hv=>cases hv;exact⟨false,rfl⟩
    | 1,hv=>cases hv;exact⟨true,rfl⟩
    | 2,hv=>cases hv;exact⟨false,rfl⟩
    | 3,hv=>cases hv;exact⟨true,rfl⟩
   clear hv;dsimp only[aSt,K1,K6];refine⟨SZ (n:=0),λls nls=>?_⟩;have S0:=Own.mk0 (xs:=(spt []).map V.str) O3.kp O3.hh hh nls;have nls1:=O3.hh.ne nls;have nll:l≠ls:=λz=>by rw[<-z,O3.eq] at nls;cases nls
   have nlx3:lx≠ls:=λz=>by rw[<-z,ex] at nls;cases nls
   have s4:=Same.upd (o:=.lst []) nls;have O4:=O3.same s4;have ex4:=s4 _ _ ex;obtain⟨H4,hH4⟩:∃H4,H4=upd H3 ls (.lst []):=⟨_,rfl⟩;rw[show upd H3 ls (.lst ((spt []).map V.str))=H4 from hH4.symm] at S0;rw[<-hH4] at O4 ex4 ⊢;clear hH4 s4;obtain⟨W,hW⟩:∃W:Str,W=(if sn=true then ("soon" : Str) else ("store" : Str)):=⟨_,rfl⟩;rw[<-hW];exists _,rfl;dsimp only[aSt,K1,K6];refine⟨fun σ' H'=>∃high:Int,(0<=high/\high<=∅/\(sn=true->high=top))/\σ'=aSt hd tl l st top [some (.str W),some (.ref ls),some (.int high),x8,x9]/\H4=H',?_,?_⟩
   ·exists _,rfl,rfl,_,rfl;cases sn with
    | false=>rw[show decide (V.str W=V.str "store")=true from decide_eq_true (by rw[hW];rfl)];refine L4 ⟨_,_,rfl,rfl,⟨DD,DD,DD⟩,_,rfl,_,_,rfl,rfl,.inl ⟨DD,DD⟩,_,_,rfl,rfl,_,_,rfl,?_⟩;refine⟨_,?_,rfl,rfl⟩;rw[t18];refine⟨?_,?_,λz=>(nomatch z)⟩ <;> split <;> omega
    | true=>rw[show decide (V.str W=V.str "store")=false from decide_eq_false λz=>absurd (V.str.inj z) (by rw[hW];decide)];exact G5 ⟨top,⟨t0,t1,λJ=>rfl⟩,rfl,rfl⟩
   rintro σ' _ ⟨high,⟨g0,g1,g2⟩,rfl,rfl⟩;exists 2,rfl,OO,OO;refine B1v (n:=2) (λj σ' H'=>∃(x8:Option V)(ss:!Sp2),σ'=aSt hd tl l st top [some (.str W),some (.ref ls),some (.int high),x8,x9]/\Own hd hl l H H' (txs (as'.map Cmd.ask))/\Own hd hl ls H H' ((spt ss).map V.str)/\H' lx=some (.lst [V.str "store",.str "soon",.str "store",.str "soon"])/\ss.length=j/\∀b∈ss,SpB m high b) ⟨_,[],rfl,O4,S0,ex4,rfl,λb hb=>absurd hb Z4⟩ ?_ ?_
   ·rintro j σ' H5 hj ⟨x8',ss,rfl,O,S,ex5,lss,bss⟩;dsimp only[aSt,K1,K6];have lsp:((spt ss).map V.str).length<=4:=by rw[B7,B04];omega
    refine⟨_,rfl,.inl ⟨rfl,_,SqL.of S.eq⟩,_,rfl,_,rfl,tl,_,_,_,rfl,rfl,SqT.of (O.kp _ _ e1 (A3d hh e1)),rfl,A4y OO OO O.hh λu H6 u0 u1 k6 h6=>?_⟩;have S6:=S.draw k6 h6;have O6:=O.draw k6 h6;have ex6:=k6 _ _ ex5 nlx1;let⟨u',rfl,hu⟩:=A9c u0 u1;refine⟨_,rfl,V4 (i60 OO OO),ls,_,_,rfl,rfl,S6.eq,by rw[sizeLine_eq];omega,?_⟩;have S7:=S6.put ((spt ss).map V.str++[V.str (itx ((u':Nat):Int))]);have O7:=O6.oth S6 nll ((spt ss).map V.str++[V.str (itx ((u':Nat):Int))]);have ex7:upd H6 ls (.lst ((spt ss).map V.str++[V.str (itx ((u':Nat):Int))])) lx=some (.lst [V.str "store",.str "soon",.str "store",.str "soon"]):=by rw[C4 nlx3];exact ex6
    refine⟨_,rfl,.inl ⟨rfl,_,SqL.of S7.eq⟩,_,rfl,_,rfl,_,_,rfl,rfl,A4y OO OO S7.hh λy H8 y0 y1 k8 h8=>?_⟩;have S8:=S7.draw k8 h8;have O8:=O7.draw k8 h8;have ex8:=k8 _ _ ex7 nlx1;refine⟨_,rfl,V4 (i60 OO OO),ls,_,_,rfl,rfl,S8.eq,by rw[L3,sizeLine_eq];show _+1<_;omega,?_⟩;refine⟨_,ss++[(u',y)],rfl,O8.oth S8 nll _,?_,by rw[C4 nlx3];exact ex8,by rw[L3,lss];rfl,λb hb=>?_⟩
    ·rw[C76,L7];have:=S8.put ((spt ss).map V.str++[V.str (itx ((u':Nat):Int))]++[V.str (itx y)]);rw[j9] at this;rw[j9];exact this
    ·rcases p7.mp hb with hb | hb
     ·exact bss b hb
     ·rw[A2h.mp hb];exact⟨hu,y0,by show y<=high;omega⟩
   rintro σ' H5 ⟨x8',ss,rfl,O,S,ex5,lss,bss⟩;obtain⟨b,g,rfl⟩:∃b g,ss=[b,g]:=by
    match ss,lss with
    | [b,g],_=>exact⟨b,g,rfl⟩
   have wl:=C77 m2 g1 bss;have hb:=bss b E5;have hg:=bss g (E3 _ E5);have lW:W.length<=5:=by rw[hW];cases sn <;> decide
   have cW:32∉cp W/\cp (W++ " ")=cp W++[32]:=⟨by rw[hW];cases sn <;> decide,by rw[A0a];rfl⟩;have lsp:Str.length " " = 1:=by decide
   have rl:=C0e wl;rw[B04] at rl;have rl:(L1 (spt [b,g])).length<=248:=rl;refine⟨_,rfl,_,_,rfl,rfl,OO,rfl,_,rfl,_,ls,spt [b,g],rfl,rfl,SqL.of S.eq,A86 (λv hv=>M0 (wl v hv) DD) (by rw[B04];show 4<=_;decide),?_⟩;rw[tj];refine⟨_,_,rfl,rfl,by rw[b8];omega,?_⟩;rw[show W++Str.ofString " " ++L1 (spt [b,g])=L1 (W::spt [b,g]) from B01 cW.2 (List.cons_ne_nil _ _)];have rl2:(L1 (W::spt [b,g])).length<=310:=by
    have:=C0e (ws:=W::spt [b,g]) λw hw=>by
     rcases K7.mp hw with rfl | hw
     ·omega
     ·exact wl w hw
    rw[J6,B04] at this;exact this
   dsimp only[aSt,K1,K6];refine⟨fun σ' H'=>∃a:Ask,(a≠.ways/\c9 m st a)/\σ'=aSt hd tl l st top [some (.str W),some (.ref ls),some (.int high),x8',some (.str (Cmd.ask a).tx)]/\Own hd hl l H H' (txs (as'.map Cmd.ask))/\H' lx=some (.lst [V.str "store",.str "soon",.str "store",.str "soon"]),?_,?_⟩
   ·exists _,rfl,rfl,_,rfl;have sb:∀{b:Sp2},SpB m high b->A0d m b:=λh=>⟨h.1,h.2.1,A0w h.2.2 g1⟩;cases sn with
    | false=>rw[show decide (V.str W=V.str "soon")=false from decide_eq_false λz=>absurd (V.str.inj z) (by rw[hW];decide)];refine G5 ⟨.store b g,⟨λz=>(nomatch z),sb hb,sb hg⟩,?_,O,ex5⟩;rw[hW];rfl
    | true=>rw[show decide (V.str W=V.str "soon")=true from decide_eq_true (by rw[hW];rfl)];have hh':=g2 rfl;refine L4 ⟨_,rfl,_,_,rfl,rfl,OO,_,rfl,A4y DD DD O.hh λn H6 n0 n1 k6 h6=>?_⟩;let⟨n',rfl,hn⟩:=A9c (m:=12) n0 (by exact n1);have hn60:((n':Nat):Int).natAbs<10^60:=i60 OO (OO);have ln:(Str.ofString (toString ((n':Nat):Int))).length<=61:=R6 hn60;refine⟨_,rfl,V4 hn60,_,_,rfl,rfl,by rw[b8];omega,?_⟩;refine⟨.soon b g n',⟨λz=>(nomatch z),sb hb,sb hg,by have:=hb.2.2;omega,by have:=hg.2.2;omega,OO⟩,?_,O.draw k6 h6,k6 _ _ ex5 nlx1⟩;rw[<-E34,hW];rfl
   rintro σ' H6 ⟨a,aok6,rfl,O6,ex6⟩;exists _,rfl,.inl ⟨rfl,_,SqL.of O6.eq⟩,_,rfl,l,_,_,rfl,rfl,O6.eq,szc OO;rw[txa];exact⟨_,_,_,_,_,as'++[a],rfl,O6.put _,by rw[C4 nlx2.symm];exact ex6,by rw[L3,las'];show 4+i+1=_;omega,getA a0',okA aok' aok6⟩
  ·rintro σ' H3 ⟨x5',x6,x7,x8,x9,as',rfl,O3,ex,las',a0',aok'⟩;exact⟨_,rfl,told l as' H3 O3.nw O3.eq (by have:as'.length=8:=las';omega) a0' aok' O3.kp O3.hh⟩
theorem E37 {K:A8}{a b:Addr}{xs ys:!V}{g:TG}{tb:TS}{D:A0x}{σ:Lake.St}{H:Hp}(Pv:Nat->Lake.St->Hp->Prop)(hlen:xs.length=ys.length)(h0:Pv 0 σ H)(hl:∀i σ H,i<=xs.length->Pv i σ H->SqL K H a xs/\SqL K H b ys)
  (hs:∀i x y p σ H,xs[i]?=some x->ys[i]?=some y->Pv i σ H->H p=none->g (.ref p) σ (upd H p (.tup [x,y])) fun σ2 H2=>tb { D with nx:=Pv (i+1),ct:=Pv (i+1),bk:=D.nx } σ2 H2) (hd:∀σ H,Pv xs.length σ H->D.nx σ H) :
  ∃W:Nat->Nat->Lake.St->Hp->Prop,(∃m,W 0 m σ H)/\∀i m σ H,W i m σ H->
   ((Itz K a b).stop i H/\D.nx σ H)\/((Itz K a b).go i H/\∃N:Lake.St->Hp->Prop,(∀σ' H',N σ' H'->∃m',m'<m/\W (i+1) m' σ' H')/\∀x H',(Itz K a b).yld i H x H'->g x σ H' fun σ2 H2=>tb { D with nx:=N,ct:=N,bk:=D.nx } σ2 H2):=by
 refine⟨λi m σ H=>m=xs.length-i/\i<=xs.length/\Pv i σ H,⟨xs.length,by simp,Q7 _,h0⟩,?_⟩;rintro i m σ H ⟨rfl,hi,p⟩;let⟨q1,q2⟩:=hl i σ H hi p;by_cases hlt:i<xs.length
 ·refine .inr ⟨⟨xs,ys,xs[i],ys[i]'(OO),q1,q2,by simp [hlt],M8 _⟩,Pv (i+1),fun σ' H' p'=>⟨xs.length-(i+1),OO,rfl,hlt,p'⟩,λx H' y=>?_⟩;let⟨p',u,v,rfl,np,rfl,y⟩:=y;let⟨y1,y2⟩:=y xs ys q1 q2;exact hs i u v p' σ _ y1 y2 p np
 ·have e:i=xs.length:=by omega
  subst e;exact .inl ⟨⟨xs,ys,q1,q2,.inl (G3 _)⟩,hd σ H p⟩
structure D99 (Cd C hd hl:Addr)(qs ps ds:Nat->Addr)(ks:Nat->Kst)(j:Nat)(H:Hp):Prop where
 hh:Hd H hd hl
 on:∀i,i<j->DkK Cd C hd H (qs i) (ps i) (ds i) (ks i)
 off:∀i,j<=i->i<3->T8 Cd H (qs i) .non
 np:∀i k,i<j->k<j->i≠k->ps i≠ps k/\ds i≠ds k
section
variable {Cd:Addr}{qs ps ds:Nat->Addr}{ks:Nat->Kst}{j:Nat}
theorem D99.draw (D:D99 Cd C hd hl qs ps ds ks j H)(h:Hd H' hd hl)(s:Kp hd H H'):D99 Cd C hd hl qs ps ds ks j H':=⟨h,λi hi=>(D.on i hi).draw D.hh s,λi h1 h2=>C7t (D.off i h1 h2) D.hh s,D.np⟩
theorem D99.same (D:D99 Cd C hd hl qs ps ds ks j H)(s:Same H H'):D99 Cd C hd hl qs ps ds ks j H':=D.draw (D.hh.same s) s.kp
theorem D99.say (D:D99 Cd C hd hl qs ps ds ks 3 H){i:Nat}(hi:i<3)(K':DkK Cd C hd H' (qs i) (ps i) (ds i) (ks i))(h:Hd H' hd hl)(fr:Frp (ps i) (ds i) H H'):D99 Cd C hd hl qs ps ds ks 3 H':=
 ⟨h,λk hk=>by
  by_cases c:k=i
  ·rw[c];exact K'
  ·exact (D.on k hk).other (D.on i hi) (D.np k i hk hi c).1 (D.np k i hk hi c).2 fr,λk h1 h2=>absurd h2 OO,D.np⟩
theorem D99.next (D:D99 Cd C hd hl qs ps ds ks j H)(hj:j<3)(hq:∀i k,i<3->k<3->i≠k->qs i≠qs k)(K':DkK Cd C hd H' (qs j) p d (ks j))(np:H p=none)(nd:H d=none)(h:Hd H' hd hl)(fr:∀b o,H b=some o->b≠qs j->H' b=some o) :
  D99 Cd C hd hl qs (λi=>if i=j then p else ps i) (λi=>if i=j then d else ds i) ks (j+1) H':=by
 have ex:∀i,i<j->ps i≠p/\ds i≠d:=λi hi=>by
  let⟨b,_,kp⟩:=(D.on i hi).kp;have:=A4q kp;exact⟨λz=>this.2.1 (z▸np),λz=>this.2.2 (z▸nd)⟩
 refine⟨h,λi hi=>?_,λi h1 h2=>T8.frq (w:=.non) (D.off i OO h2) fr (hq i j h2 hj OO),λi k h1 h2 n=>?_⟩
 ·by_cases c:i=j
  ·subst c;rw[if_pos rfl,if_pos rfl];exact K'
  ·rw[if_neg c,if_neg c];exact (D.on i OO).frq (D.off j (G3 _) hj) fr (hq i j OO hj c)
 ·by_cases c:i=j
  ·rw[if_pos c,if_pos c,if_neg (λz=>n (c.trans z.symm)),if_neg (λz=>n (c.trans z.symm))];have:=ex k (OO);exact⟨this.1.symm,this.2.symm⟩
  ·rw[if_neg c,if_neg c];by_cases c2:k=j
   ·rw[if_pos c2,if_pos c2];exact ex i (OO)
   ·rw[if_neg c2,if_neg c2];exact D.np i k OO OO n
def InR (Cd C hd hl q:Addr)(H0 H:Hp)(s:Option Kst):Prop:=Hd H hd hl/\(∀b o,H0 b=some o->b≠q->H b=some o)/\(∃o,H0 q=some o)/\(∃v,T8 Cd H q v)/\∀k,s=some k->∃p d,H0 p=none/\H0 d=none/\DkK Cd C hd H q p d k
end
inductive Tls (k:Kst):!Ask->!Str->Prop
 | nil:Tls k [] []
 | cons {a t as ts}:A4z k a t->Tls k as ts->Tls k (a::as) (t::ts)
section
variable {k':Kst}{as:!Ask}{ts:!Str}
theorem Tls.snoc {a:Ask}{t:Str}(h:Tls k as ts)(x:A4z k a t):Tls k (as++[a]) (ts++[t]):=by
 induction h with
 | nil=>exact .cons x .nil
 | cons y _ ih=>exact .cons y ih
theorem Tls.len (h:Tls k as ts):ts.length=as.length:=by
 induction h with
 | nil=>rfl
 | cons _ _ ih=>rw[J6,J6,ih]
theorem Tls.ok (h:Tls k as ts)(n:∀a∈as,a≠.ways):∀t∈ts,OkS t:=by
 induction h with
 | nil=>exact λt ht=>absurd ht Z4
 | cons x _ ih=>
  intro t ht;rcases K7.mp ht with rfl | ht
  ·exact E2z (n _ E5) x
  ·exact ih (λa ha=>n a (E3 _ ha)) t ht
theorem Tls.uniq (h:Tls k as ts)(al:B98 k k')(ok:KOk k.m k.st k.g k.kws)(ok':KOk k'.m k'.st k'.g k'.kws)(n:∀a∈as,a≠.ways/\c9 k.m k.st a):∀{us:!Str},Tls k' as us->us=ts:=by
 induction h with
 | nil=>intro us hu;cases hu;rfl
 | cons x _ ih=>
  intro us hu;cases hu with
  | cons y r=>have na:=n _ E5;rw[E20 al ok ok' na.1 na.2 x y,ih (λa ha=>n a (E3 _ ha)) r]
end
theorem C78 {kz:Kw}(up:(F4 kz).Pairwise (· < ·)):A1a kz=L1 (("ways" : Str)::kz.map wyT):=by
 have nd:(F4 kz).Nodup:=up.imp λh=>by omega
 have es:srt (F4 kz)=F4 kz:=(B3x (.refl _) (up.imp λh=>OO)).symm;unfold A1a;rw[es];congr 2;unfold F4;rw[Q8];refine B1m λq hq=>?_;show A27 q.1 _ _ _=wyT q;rw[A9h nd (show (q.1,q.2)∈kz from hq)];rfl
theorem C79 {L:!Int}{ws:!Wy}(h:L.length=ws.length):F4 (L.zip ws)=L:=by
 unfold F4;exact List.map_fst_zip (OO)
theorem E38 {hd:Addr}{H:Hp}{v:V}{m:Nat}{ws:!Wy}(t:ThV (λb=>b≠hd) H v (K2 m ws)):∃tl,v=.ref tl/\A3g hd H tl m ws:=by
 let⟨a,us,rfl,_,e,tu⟩:=y8 t;let⟨v1,v2,rfl,t1,t2⟩:=g6 tu;cases t1;let⟨l,ul,rfl,gl,el,tl⟩:=P7 t2;refine⟨a,rfl,l,ul,e,gl,el,by rw[tl.len,B7],λi w hw=>?_⟩;obtain⟨x,hx⟩:∃x,ul[i]?=some x:=⟨_,M8 (by
  have:=tl.len;rw[B7] at this;let⟨z,_⟩:=X4.mp hw;omega)⟩
 let⟨dd,hdd,tx⟩:=B3s tl hx;rw[M2,hw] at hdd;cases hdd;let⟨b,us,rfl,_,eb,tus⟩:=y8 tx;let⟨v1,v2,v3,rfl,t1,t2,t3⟩:=B9y tus;cases t1;cases t2;cases t3;exact⟨b,hx,eb⟩
theorem C0f {L:!Int}{ws:!Wy}(h:L.length=ws.length)(w:Wy):(∃x,(x,w)∈L.zip ws)↔w∈ws:=by
 constructor
 ·rintro ⟨x,hx⟩;exact (B06 hx).2
 ·intro hw;have:=List.map_snd_zip (l₁:=L) (l₂:=ws) (OO);rw[<-this] at hw;let⟨⟨x,w'⟩,hq,rfl⟩:=L0.mp hw;exact⟨x,hq⟩
theorem C8a {m:Nat}{st:Int}{g:Tb}{L:!Int}{ws:!Wy}(ok:J2 m ws)(tb:F3 m st g)(s0:0<=st)(s1:st<=100000000000000000000)(hl:L.length=ws.length)(nd:L.Nodup)(bd:∀x∈L,A3a x)(s:Option Kst):Run s (p6 m st g (L.zip ws)) (some ⟨m,st,g,L.zip ws,[]⟩):=by
 have key:∀(kz:Kw)(k0:Kw),(F4 (k0++kz)).Nodup->(k0++kz).length<=40->(∀q∈kz,A3a q.1/\A07 m q.2)->Run (some ⟨m,st,noT m,k0,[]⟩) (A1c kz) (some ⟨m,st,noT m,k0++kz,[]⟩):=λkz=>by
  induction kz with
  | nil=>intro k0 _ _ _;rw[p8];exact .nil
  | cons q r ih=>
   intro k0 nd0 l0 b0;let⟨x,w⟩:=q;have e:k0++(x,w)::r=(k0++[(x,w)])++r:=by rw[j9];rfl
   have hn:J7 k0 x=none:=by
    have:=C75 nd0 (i:=k0.length) (x:=x) (w:=w) (by rw[A7g (G3 _),Nat.sub_self];rfl);rw[List.take_left] at this;exact this
   have bq:=b0 _ E5;rw[L3,J6] at l0;refine Run.app (a:=[.deed (.lay x w)]) (C73 bq.1 hn bq.2 OO) ?_;rw[e];exact ih _ (by rw[<-e];exact nd0) (by rw[L3,L3];show _+1+_<=40;omega) λq hq=>b0 q (E3 _ hq)
 unfold p6;refine .cons (s1:=some ⟨m,st,noT m,[],[]⟩) ⟨⟨ok.m1,ok.m2⟩,⟨s0,s1⟩,rfl⟩ ?_;refine Run.app (key (L.zip ws) [] ?_ ?_ λq hq=>?_) (.cons ⟨tb,rfl⟩ .nil)
 ·rw[T2,C79 hl];exact nd
 ·rw[T2,B4s];have:=ok.few;omega
 ·let⟨h1,h2⟩:=B06 (show (q.1,q.2)∈L.zip ws from hq);exact⟨bd _ h1,ok.st _ h2,ok.en _ h2,ok.lo _ h2,ok.hi _ h2⟩
theorem C0g {H:Hp}{q dq Cd:Addr}(hq:H q=none)(hdq:H dq=none):Same H (upd (upd (upd H dq (.own q)) q (.ins Cd dq [])) q (.ins Cd dq [("keeper",.non)])):=λb o e=>by
 have n1:b≠q:=λz=>by rw[z,hq] at e;cases e
 have n2:b≠dq:=λz=>by rw[z,hdq] at e;cases e
 rw[C4 n1,C4 n1,C4 n2];exact e
def th3 {α:Type}(a b c:α)(i:Nat):α:=if i=0 then a else if i=1 then b else c
theorem B4c {α:Type}{p:Nat->α->Prop}{a b c:α}(h0:p 0 a)(h1:p 1 b)(h2:p 2 c):∀i,i<3->p i (th3 a b c i):=λi hi=>by
 rcases (show i=0\/i=1\/i=2 by omega) with rfl | rfl | rfl
 ·exact h0
 ·exact h1
 ·exact h2
section
variable {w:World}{K:A8}{mg:Str->Option Value}{Q:VK}{s s1:Option Kst}{c:Cmd}
theorem InR.dk {Cd C p d:Addr}{k k':Kst}{H':Hp}(I:InR Cd C hd hl q H0 H (some k))(np:H0 p=none)(nd:H0 d=none)(D':DkK Cd C hd H' q p d k')(h:Hd H' hd hl)(fr:Frp p d H H'):InR Cd C hd hl q H0 H' (some k'):=
 ⟨h,(λb o e n=>fr _ _ (I.2.1 b o e n) (λz=>by rw[z,np] at e;cases e) λz=>by rw[z,nd] at e;cases e),I.2.2.1,⟨_,D'.dk⟩,λk2 z=>by cases z;exact⟨p,d,np,nd,D'⟩⟩
theorem E39(I:InR T.ah T.ac hd hl q H0 H s)(ok:B0z s c s1)(h:∀t H',InR T.ah T.ac hd hl q H0 H' s1->Q (.str t) H'):A9g T [.ref q,.str c.tx] H Q E0:=by
 let⟨hh,fr,eq,⟨v,dk⟩,st⟩:=id I;cases c with
 | land m z=>
  have ok:(1<=m/\m<=12)/\(0<=z/\z<=100000000000000000000)/\s1=some ⟨m,z,noT m,[],[]⟩:=by cases s <;> exact ok
  let⟨m1,z1,rfl⟩:=ok;refine E27 T dk hh m1 z1 λp d H' np nd D' h' fr'=>h _ H' ⟨h',λb o e n=>fr' _ _ (fr _ _ e n) n,eq,⟨_,D'.dk⟩,λk z=>?_⟩;cases z;have early:∀{b:Addr},H b=none->H0 b=none:=λ{b} hb=>by
   cases z0:H0 b with
   | none=>rfl
   | some o=>
    by_cases c0:b=q
    ·let⟨dx,e⟩:=dk;rw[<-c0,hb] at e;cases e
    ·rw[fr _ _ z0 c0] at hb;cases hb
  exact⟨p,d,early np,early nd,D'⟩
 | deed dd=>
  cases s with
  | none=>exact ok.elim
  | some k=>let⟨dok,rfl⟩:=ok;let⟨p,d,np,nd,DK⟩:=st k rfl;exact E26 T DK hh dok λt H' D' h' fr'=>h t H' (I.dk np nd D' h' fr')
 | ask a=>
  cases s with
  | none=>exact ok.elim
  | some k=>let⟨ao,rfl⟩:=ok;let⟨p,d,np,nd,DK⟩:=st k rfl;exact B00 T DK hh ao λt H' J D' h' fr'=>h t H' (I.dk np nd D' h' fr')
theorem E4a {Cd C:Addr}(I:InR Cd C hd hl q H0 H s)(ok:B0z s c s1):A0e c.tx c.wd c.os:=by
 let⟨hh,fr,eq,⟨v,dk⟩,st⟩:=id I;cases c with
 | land m z=>
  have ok:(1<=m/\m<=12)/\(0<=z/\z<=100000000000000000000)/\s1=some ⟨m,z,noT m,[],[]⟩:=by cases s <;> exact ok
  exact B95 ok.1.2 ok.2.1.1 ok.2.1.2
 | deed dd=>
  cases s with
  | none=>exact ok.elim
  | some k=>let⟨p,d,np,nd,DK⟩:=st k rfl;exact B39 DK.ok ok.1
 | ask a=>
  cases s with
  | none=>exact ok.elim
  | some k=>let⟨p,d,np,nd,DK⟩:=st k rfl;exact B96 DK.ok.m1 DK.ok.m2 DK.ok.s1 ok.1
theorem E4b {m:Nat}{z:Int}(ok:B0z s (.land m z) s1):s1=some ⟨m,z,noT m,[],[]⟩:=by cases s <;> exact ok.2.2
end
theorem E4c {s:Option Kst}{cs:!Cmd}{i:Nat}{c:Cmd}{f:Option Kst}(h:cs[i]?=some c)(r:Run s (cs.drop i) f):∃s1,B0z s c s1/\Run s1 (cs.drop (i+1)) f:=by
 let⟨hi,e⟩:=X4.mp h;rw[C0u hi,e] at r;cases r with
 | cons a b=>exact⟨_,a,b⟩
theorem E4d {s:Option Kst}{k:Kst}{cs:!Cmd}(r:Run s (cs.drop cs.length) (some k)):s=some k:=by
 rw[List.drop_length] at r;cases r;rfl
theorem C8b {a b c:Addr}{i:Nat}{x:V}(h:[V.ref a,.ref b,.ref c][i]?=some x):i<3/\x=.ref (th3 a b c i):=by
 match i,h with
 | 0,h=>cases h;exact⟨DD,rfl⟩
 | 1,h=>cases h;exact⟨DD,rfl⟩
 | 2,h=>cases h;exact⟨DD,rfl⟩
theorem C8c {K:A8}{mg:Str->Option Value}(T:Txt K mg){hd hl la:Addr}{qs ps ds:Nat->Addr}{ks:Nat->Kst}{as:!Ask}{nn j:Nat}{σ:Lake.St}{te:CA->TE}{H1:Hp}{Q:!V->Hp->Prop}{i:Nat}(hi:i<3)(D:D99 T.ah T.ac hd hl qs ps ds ks 3 H1)(el:H1 la=some (.lst (txs (as.map Cmd.ask))))(nl:la≠hd)(l8:as.length<=8)(aok:∀a∈as,c9 (ks i).m (ks i).st a)
  (hs:∀(x:V)(Hx:Hp)(ca:CA)(R:V->Hp->Prop),D99 T.ah T.ac hd hl qs ps ds ks 3 Hx->KL hd H1 Hx->A9g T [.ref (qs i),x] Hx R E0->te ca ((T7 nn j σ).set j (some x)) Hx R)
  (hd':∀ts Hx,D99 T.ah T.ac hd hl qs ps ds ks 3 Hx->KL hd H1 Hx->Tls (ks i) as ts->Q (ts.map V.str) Hx):A2s σ nn j (λJ=>A00) te (Itl K la) H1 Q:=by
 have lx:(txs (as.map Cmd.ask)).length=as.length:=by unfold txs;rw[B7,B7]
 refine A7x (λk ys Hn=>D99 T.ah T.ac hd hl qs ps ds ks 3 Hn/\KL hd H1 Hn/\∃ts,ys=ts.map V.str/\Tls (ks i) (as.take k) ts) (by rw[lx,sizeLine_eq];omega) ⟨D,A2c λJ J z=>z,[],rfl,.nil⟩ ?_ ?_ ?_
 ·rintro k ys Hn _ ⟨_,kl,ts,rfl,tls⟩;refine⟨?_,SqL.of (kl.lst el nl)⟩;rw[B7,tls.len,X5];exact B1j _ _
 ·rintro k x ys Hn hx ⟨Dn,kl,ts,rfl,tls⟩ ca;unfold txs at hx;rw[M2,M2] at hx;let⟨c,hc,rfl⟩:=A1e.mp hx;let⟨a,ha,rfl⟩:=A1e.mp hc;unfold A00;refine L4 (hs _ Hn ca _ Dn kl (B00 T (Dn.on i hi) Dn.hh (aok a (U4 ha)) λt H' tl D' h' fr=>⟨Dn.say hi D' h' fr,kl.tr ((Dn.on i hi).kl fr),ts++[t],?_,?_⟩))
  ·rw[L7];rfl
  ·rw[A1t,ha];exact tls.snoc tl
 ·rintro ys Hn ⟨Dn,kl,ts,rfl,tls⟩;rw[lx,A1v] at tls;exact hd' ts Hn Dn kl tls
theorem Tls.get0 {k:Kst}{as:!Ask}{ts:!Str}{a:Ask}(h:Tls k as ts)(e:as[0]?=some a):∃t,ts[0]?=some t/\A4z k a t:=by
 cases h with
 | nil=>cases e
 | cons x r=>cases e;exact⟨_,rfl,x⟩
theorem E4e {m:Nat}{st:Int}{t:Tb}(h:F3 m st t)(h1:st<=100000000000000000000)(m1:1<=m)(m2:m<=12):(tbW t).length<=1000000/\Txt.split (tbW t) " " = t.map lvW:=by
 have h60:=C7n h h1;have wl:∀w∈t.map lvW,w.length<=61/\32∉cp w:=λw hw=>by
  let⟨o,ho,rfl⟩:=L0.mp hw;cases o with
  | none=>exact⟨by show Str.length "-" <=61;decide,by show 32∉cp "-";decide⟩
  | some n=>exact⟨R6 (h60 n ho),C4q (A6z (h60 n ho))⟩
 have lt:=h.len;constructor
 ·have:=C0e (ws:=t.map lvW) λw hw=>(wl w hw).1;rw[B7] at this;show (L1 (t.map lvW)).length<=_;omega
 ·exact C4l (λz=>B38 h m1 (A7n.mp z)) (λw hw=>(wl w hw).2) (V5 _)
abbrev lSt (a hd tl gl ll lo ld lr:Addr)(sc st:Int)(pl wn:Nat)(r:Lake.St):Lake.St:=some (.ref a)::some (.ref hd)::some (.int sc)::some (.int st)::some (.int ((pl:Nat):Int))::some (.int ((wn:Nat):Int))::some (.ref tl)::some (.ref gl)::some (.ref ll)::some (.ref lo)::some (.ref ld)::some (.ref lr)::r
def B4d (K:A8):Sp:=λvs H Q J=>∃(a:Addr)(ns:!Int),vs=[.ref a]/\SqL K H a (ns.map V.int)/\ns.length<=63/\∀H',Q (.bl true) H'
set_option tactic.hygienic true in
theorem E4f(D:B3i w T):FK P w base 15 T.iq (B4d K):=by
 have gp:=@E2m P w K mg base T;have gq:=T.du.b;refine T.iq.F.ok Y3 (λJ H J J h=>?_) (λJ J J s H J Q J hr h=>?_)
 ·let⟨a,ns,rfl,_⟩:=h;rfl
 ·let⟨a,ns,rfl,hS,hlen,told⟩:=h;refine⟨_,(C0 (pS (i:=1) Y3.nd (pcF T.dW (D6v T) hr (A3 (pv 0) A4 A0)))
   (C0 (pS (i:=2) Y3.nd (pcF T.dv (E0p T) hr (A3 (pv 1) A4 A0)))
   (C0 (pS (i:=3) Y3.nd (pcF T.dw (E0q T) hr (A3 (pv 1) (A3 (pv 2) A4 A0) A0)))
   (C0 (m6 (E6 G8 (T0 (A3 (w5 (A3 B4 (A3 B4 A4 F2) F2)) (A3 (w5 (A3 B4 (A3 B4 A4 F2) F2)) A4 g4) g4)) (M6 C1n rfl T.fS A9y (A3 (A3s m7 (pcF T.af (A2a T) hr (A3 (pv 1) (A3 B4 A4 F2) A0)) B4 (F6 _)) A4 B17))) (A7s (n:=2) rfl (t8 (N8 (i:=4) Y3.nd) (t8 (N8 (i:=5) Y3.nd) A7r))))
   (C0 (pS (i:=6) Y3.nd (pcF T.dY (E0r T) hr (A3 (pv 1) (A3 (pv 4) (A3 (pv 5) (A3 (pv 2) A4 A0) A0) A0) A0)))
   (C0 (pS (i:=7) Y3.nd (pcF T.cC (C6p T) hr (A3 (pv 1) (A3 (E6 T5 (pv 6) B4) (A3 (pv 3) A4 A0) B0) A0)))
   (C0 (pS (i:=8) Y3.nd (pcF T.cV (E3e T) hr (A3 (pv 1) (A3 (K5 V8 rfl T.aP T9 (A3 (E6 T5 (pv 6) B4) A4 B0)) A4 C6) A0)))
   (C0 (A7w (i:=9) Y3.nd rfl (B6 rfl) (N1.new (N:=["_law_script","_law_hand_here","_law_scale_here","_law_store_here","_law_places","_law_ways_here","_law_land_here","_law_goal","_law_labels_here","_law_others","_law_desks","_law_roads_here","_law_desk","_law_rows","_law_row","_law_asks_here","_law_told"]) (osc:=B5 A0o) KK) rfl (U9 (pv 8)) (λJ=>m9) (λJ=>(F5 A5b (F5 V7 B4 B4) (pv 17))))
   (C0 (C7 (i:=10) Y3.nd rfl (Or.inr rfl) (T0 (A3 (B43 T.fV gp (hr.mono DD) rfl T.fU gq .nil A7) (A3 (B43 T.fV gp (hr.mono DD) rfl T.fU gq .nil A7) (A3 (B43 T.fV gp (hr.mono DD) rfl T.fU gq .nil A7) A4 C6) C6) C6)))
   (C0 (pS (i:=11) Y3.nd (T0 (A3 (pcF T.bD (E3m T) hr (A3 (pv 6) (A3 (pv 3) (A3 (pv 7) (A3 (pv 8) A4 A0) A0) A0) A0)) A4 C6)))
   (C0 (N7 (L8 S9 U5 U6 T6 (pv 11) (A3 (pcF T.dz (E33 T) hr (A3 (pv 1) (A3 (pv 6) (A3 (pv 3) (A3 (pv 7) (A3 (pv 8) A4 A0) A0) A0) A0) A0)) A4 C6)))
   (C0 (N7 (L8 S9 U5 U6 T6 (pv 11) (A3 (pcF T.bD (E3m T) hr (A3 (pv 6) (A3 (pv 3) (A3 (pv 7) (A3 (pv 9) A4 A0) A0) A0) A0)) A4 C6)))
   (C0 (X6 T3 rfl (D1k rfl T.jK (A3 (pv 10) (A3 (pv 11) A4 A0) A0)) (A7s (n:=2) rfl (t8 (N8 (i:=12) Y3.nd (hx:=Or.inr rfl)) (t8 (N8 (i:=13) Y3.nd) A7r)))
   (C9 (X6 T3 rfl (U9 (pv 13)) (N8 (i:=14) Y3.nd)
   (C0 (N7 (pmF (pv 12) T.ck T.bP (C7i T D) hr (A3 (pv 14) A4 A0) (hst:=A0)))
   (C9 (M5 (PW.pt (B1r (P9 m7 (A3t C4h (pv 14) A5h (A5i B4)) F9 (F6 _)) (B1q (U8 (W6 (pcF T.eh (E3b T D) hr (A3 (pv 12) (A3 (pv 14) A4 A0) A0)))))))
   (C9 (G0 A48))
   M9))))))
   (C0 (X6 T3 rfl (U9 (A3t A7t (pv 10) A5h (A5i B4))) (N8 (i:=12) Y3.nd (hx:=Or.inr rfl))
   (C9 (M5 (P9 A9s (pmF (pv 12) T.ck T.bP (C7i T D) hr (A3 F9 A4 F2) (hst:=F2)) (pcF T.ee (E3n T) hr (A3 (pv 6) (A3 (pv 8) A4 A0) A0)) (F6 _))
   (C9 (G0 A48))
   M9)))
   (C0 (pS (i:=15) Y3.nd (pcF T.ef (E36 T) hr (A3 (pv 1) (A3 (pv 6) (A3 (pv 3) A4 A0) A0) A0)))
   (C0 (A7w (i:=16) Y3.nd rfl (B6 rfl) (N1.old (N:=["_law_script","_law_hand_here","_law_scale_here","_law_store_here","_law_places","_law_ways_here","_law_land_here","_law_goal","_law_labels_here","_law_others","_law_desks","_law_roads_here","_law_desk","_law_rows","_law_row","_law_asks_here","_law_told"]) (osc:=B5 A0o) (j:=14) KK) rfl (U9 (pv 15)) (λJ=>m9) (λJ=>(pmF (E6 G8 (pv 10) B4) T.ck T.bP (C7i T D) hr (A3 (pv 14) A4 A0) (hst:=A0))))
   (C0 (N9 (M5 (PW.pt (A3p (U8 (W6 (K5 (B5d rfl) rfl T.ip B5f (A3 (W9 (N1.new (N:=["_law_script","_law_hand_here","_law_scale_here","_law_store_here","_law_places","_law_ways_here","_law_land_here","_law_goal","_law_labels_here","_law_others","_law_desks","_law_roads_here","_law_desk","_law_rows","_law_row","_law_asks_here","_law_told"]) (osc:=B5 A0o) KK) rfl (U9 (pv 16)) (λJ=>m9) (λJ=>(K5 C2j rfl T.bM A7z (A3 (pv 17) (A3 (A7p (v:=V.ty "str") rfl T.aQ U0 rfl) A4 A0) A0)))) A4 A0j)))) (A3o (P9 A9s (K5 V8 rfl T.aP T9 (A3 (L8 A3m B1b C8r B6n (E6 A3u (pv 16) B4) (A3 F9 A4 F2)) A4 C6)) (E6 T5 (pv 6) B4) (F6 _)))))
   (C9 (G0 A48))
   M9))
   (C0 (X6 T3 rfl (U9 (pv 10)) (N8 (i:=12) Y3.nd (hx:=Or.inr rfl))
   (C9 (M5 (P9 (A9x (b6 hr)) (W9 (N1.old (N:=["_law_script","_law_hand_here","_law_scale_here","_law_store_here","_law_places","_law_ways_here","_law_land_here","_law_goal","_law_labels_here","_law_others","_law_desks","_law_roads_here","_law_desk","_law_rows","_law_row","_law_asks_here","_law_told"]) (osc:=B5 A0o) (j:=14) KK) rfl (U9 (pv 15)) (λJ=>m9) (λJ=>(pmF (pv 12) T.ck T.bP (C7i T D) hr (A3 (pv 14) A4 A0) (hst:=A0)))) (pv 16) (F6 _))
   (C9 (G0 A48))
   M9)))
   (C9 (G0 A48)))))))))))))))))))),?_⟩
  ac_nf
  have t18:(10:Int)^p9 18=∅:=by decide
  refine A26 λW hW=>?_;refine⟨_,rfl,a,ns,rfl,hS,λhd hl H1 J J d1 J=>?_⟩;refine N6 W hW λW hW=>?_;refine⟨_,rfl,D7h (E:=E0) (λd=>∃r:Int,(1<=r/\r<=∅)/\d=.int r) d1 ⟨_,rfl,λr r0 r1=>⟨r,⟨r0,r1⟩,rfl⟩⟩ λd v H2 hd' tv J d2=>?_⟩;let⟨sc,⟨sc0,sc1⟩,rfl⟩:=hd';cases tv;refine N6 W hW λW hW=>?_;refine⟨_,rfl,_,rfl,A84 (E:=E0) (λd=>∃r:Int,(0<=r/\r<=100000000000000000000)/\d=.int r) d2 (.cons (.int _) .nil) ⟨_,sc,rfl,OO,sc1,λr r0 r1=>⟨r,⟨r0,r1⟩,rfl⟩⟩ λd v H3 hd' tv J d3=>?_⟩;let⟨st,⟨s0,s1⟩,rfl⟩:=hd';cases tv;refine N6 W hW λW hW=>?_;refine⟨SZ (n:=2),λta nta=>⟨SZ (n:=2),λtb ntb=>⟨SZ (n:=2),λlx nlx=>?_⟩⟩⟩;have s4:Same H3 (upd (upd (upd H3 ta (.tup [.int 5,.int 8])) tb (.tup [.int 12,.int 20])) lx (.lst [.ref ta,.ref tb])):=((Same.upd nta).tr (Same.upd ntb)).tr (Same.upd nlx);have ela:upd (upd (upd H3 ta (.tup [.int 5,.int 8])) tb (.tup [.int 12,.int 20])) lx (.lst [.ref ta,.ref tb]) lx=some (.lst [.ref ta,.ref tb]):=B9;have eta:upd (upd (upd H3 ta (.tup [.int 5,.int 8])) tb (.tup [.int 12,.int 20])) lx (.lst [.ref ta,.ref tb]) ta=some (.tup [.int 5,.int 8]):=(Same.upd nlx) _ _ ((Same.upd ntb) _ _ B9);have etb:upd (upd (upd H3 ta (.tup [.int 5,.int 8])) tb (.tup [.int 12,.int 20])) lx (.lst [.ref ta,.ref tb]) tb=some (.tup [.int 12,.int 20]):=(Same.upd nlx) _ _ B9;generalize upd (upd (upd H3 ta (.tup [.int 5,.int 8])) tb (.tup [.int 12,.int 20])) lx (.lst [.ref ta,.ref tb])=H4 at s4 ela eta etb ⊢;have d4:=d3.same s4;refine⟨_,rfl,A4y DD DD d4 λu H5 u0 u8 k5 d5=>⟨rfl,.inr ⟨_,rfl,?_⟩⟩⟩;have nlx1:lx≠hd:=λz=>by
   let⟨_,e⟩:=d3.at1;have:=((Same.upd (o:=.tup [.int 5,.int 8]) nta).tr (Same.upd (o:=.tup [.int 12,.int 20]) ntb)) _ _ e;rw[<-z,nlx] at this;cases this
  obtain⟨t',pl,wn,hat,et',p1,p2,w2⟩:∃(t':Addr)(pl wn:Nat),atI [V.ref ta,.ref tb] (if decide (V.int u=V.int 0)=true then (1:Int) else 0)=some (.ref t')/\H5 t'=some (.tup [.int ((pl:Nat):Int),.int ((wn:Nat):Int)])/\1<=pl/\pl<=12/\wn<=40:=by
   cases decide (V.int u=V.int 0) with
   | true=>exact⟨tb,12,20,rfl,k5 _ _ etb (A3d d4 etb),DD,DD,DD⟩
   | false=>exact⟨ta,5,8,rfl,k5 _ _ eta (A3d d4 eta),DD,DD,DD⟩
  exists lx,_,_,_,rfl,rfl,SqL.of (k5 _ _ ela nlx1),hat;exists t',_,rfl,SqT.of et',rfl,_,_,rfl,_,_,rfl,rfl;dsimp only[lSt,K1,K6];clear s4 ela eta etb hat et' k5;refine N6 W hW λW hW=>?_;refine⟨_,rfl,_,rfl,_,rfl,_,rfl,A84 (E:=E0) (λd=>∃m ws,J2 m ws/\d=K2 m ws) d5 (.cons (.int _) (.cons (.int _) (.cons (.int _) .nil))) ⟨_,pl,wn,sc,rfl,p1,p2,w2,sc0,sc1,λm ws ok=>⟨m,ws,ok,rfl⟩⟩ λd v H6 hd' tv J d6=>?_⟩;let⟨m,ws,ok,rfl⟩:=hd';let⟨tl,rfl,la6⟩:=E38 tv;refine N6 W hW λW hW=>?_;let⟨rl,us,e1,nrl,e2,lu,hw⟩:=id la6;refine⟨_,rfl,_,rfl,tl,_,_,_,rfl,rfl,SqT.of e1,rfl,_,rfl,A84 (E:=E0) (λd=>∃t,F3 m st t/\d=.list (E2 t)) d6 (.cons (.int _) (.cons (.int _) .nil)) ⟨_,m,st,rfl,ok.m2,s0,OO,λt ht=>⟨t,ht,rfl⟩⟩ λd v H7 hd' tv k7' d7=>?_⟩;let⟨g,tbg,rfl⟩:=hd';have k7:Kp hd H6 H7:=λb o e n=>k7' b o e λq hq=>by cases hq;exact n
  let⟨gl,ug,rfl,ngl,eg7,tg⟩:=P7 tv;cases B0u tg;have la7:=la6.kl d6 (A40 k7);refine N6 W hW λW hW=>?_;exists _,rfl,_,rfl,tl,_,_,_,rfl,rfl,SqT.of (k7 _ _ e1 (A3d d6 e1)),rfl,rl,us,rfl,.inl (SqL.of (k7 _ _ e2 nrl));refine⟨hd,hl,us.length,rfl,d7,by rw[lu];exact ok.few,λll L H8 nll el8 lenL lab k8 d8=>?_⟩;rw[lu] at lenL;have nll1:=(d7.ne nll).1;have la8:=la7.kl d7 (A40 k8);have eg8:=k8 _ _ eg7 ngl;refine N6 W hW λW hW=>?_;obtain⟨L',hL'⟩:∃L':!Int,L'=L.map λx=>∅ - x:=⟨_,rfl⟩;have few:=ok.few;exists _,rfl,ll,rfl,⟨_,SqL.of el8⟩;refine B36 (L'.map V.int) (by rw[hL',B7,B7,B7]) (by rw[B7,sizeLine_eq];omega) (λHx s=>SqL.of (s _ _ el8)) (λi y v hy hv Hx s ca R hR=>?_) λH9 s9 lo nlo=>?_
  ·rw[hL',Q8,M2] at hv;rw[M2] at hy;let⟨x,hx,rfl⟩:=A1e.mp hy;rw[hx] at hv;cases hv;exists _,_,rfl,rfl,⟨DD,DD,DD⟩,_,rfl,_,_,rfl,rfl;show R (.int ((10:Int)^p9 18-x)) Hx;rw[t18];exact hR _ λJ J z=>z
  have s10:=s9.tr (Same.upd (o:=.lst (L'.map V.int)) nlo);have elo:upd H9 lo (.lst (L'.map V.int)) lo=some (.lst (L'.map V.int)):=B9;obtain⟨H10,hH10⟩:∃H10,H10=upd H9 lo (.lst (L'.map V.int)):=⟨_,rfl⟩;rw[<-hH10] at s10 elo ⊢;have d10:=d8.same s10;have nlo1:lo≠hd:=λz=>by
   let⟨_,e⟩:=d8.at1;have:=s9 _ _ e;rw[<-z,nlo] at this;cases this
  clear hH10;have lenL':L'.length=ws.length:=by rw[hL',B7];exact lenL
  have G10:Gd hd H10 tl gl ll m st g L ws:=⟨la8.sm s10,s10 _ _ eg8,s10 _ _ el8,ngl,nll1,ok,tbg,s0,s1,lenL,λx hx=>⟨(lab.bd x hx).1,by have:=(lab.bd x hx).2;omega⟩⟩;have bd':∀x∈L',1<=x/\x<=∅:=λx hx=>by
   rw[hL'] at hx;let⟨y,hy,rfl⟩:=L0.mp hx;have:=lab.bd y hy;omega
  have G10':Gd hd H10 tl gl lo m st g L' ws:={ G10 with el:=elo,nl:=nlo1,len:=lenL',bd:=bd' };have ndL:L.Nodup:=lab.up.imp λh=>by omega
  have ndL':L'.Nodup:=by
   rw[hL'];exact List.Pairwise.map _ (λa b h=>OO) lab.up
  clear s9 nlo s10 elo eg8 el8 la8;dsimp only[K6];refine N6 W hW λW hW=>?_;refine λq0 dq0 hq0 hdq0 J=>⟨q0,dq0,rfl,B9,rfl,?_⟩;have sA:=C0g (Cd:=T.ah) hq0 hdq0;have eA:upd (upd (upd H10 dq0 (.own q0)) q0 (.ins T.ah dq0 [])) q0 (.ins T.ah dq0 [("keeper",.non)]) q0=some (.ins T.ah dq0 [("keeper",.non)]):=B9;generalize upd (upd (upd H10 dq0 (.own q0)) q0 (.ins T.ah dq0 [])) q0 (.ins T.ah dq0 [("keeper",.non)])=HA at sA eA ⊢;refine λq1 dq1 hq1 hdq1 J=>⟨q1,dq1,rfl,B9,rfl,?_⟩;have sB:=C0g (Cd:=T.ah) hq1 hdq1;have eB:upd (upd (upd HA dq1 (.own q1)) q1 (.ins T.ah dq1 [])) q1 (.ins T.ah dq1 [("keeper",.non)]) q1=some (.ins T.ah dq1 [("keeper",.non)]):=B9;generalize upd (upd (upd HA dq1 (.own q1)) q1 (.ins T.ah dq1 [])) q1 (.ins T.ah dq1 [("keeper",.non)])=HB at sB eB ⊢;refine λq2 dq2 hq2 hdq2 J=>⟨q2,dq2,rfl,B9,rfl,?_⟩;have sC:=C0g (Cd:=T.ah) hq2 hdq2;have eC:upd (upd (upd HB dq2 (.own q2)) q2 (.ins T.ah dq2 [])) q2 (.ins T.ah dq2 [("keeper",.non)]) q2=some (.ins T.ah dq2 [("keeper",.non)]):=B9;generalize upd (upd (upd HB dq2 (.own q2)) q2 (.ins T.ah dq2 [])) q2 (.ins T.ah dq2 [("keeper",.non)])=HC at sC eC ⊢;have q01:q0≠q1:=λz=>by rw[<-z,eA] at hq1;cases hq1
  have q02:q0≠q2:=λz=>by rw[<-z,sB _ _ eA] at hq2;cases hq2
  have q12:q1≠q2:=λz=>by rw[<-z,eB] at hq2;cases hq2
  refine⟨SZ (n:=3),λld nld=>?_⟩;have sD:=Same.upd (o:=.lst [.ref q0,.ref q1,.ref q2]) nld;have eld:upd HC ld (.lst [.ref q0,.ref q1,.ref q2]) ld=some (.lst [.ref q0,.ref q1,.ref q2]):=B9;generalize upd HC ld (.lst [.ref q0,.ref q1,.ref q2])=HD at sD eld ⊢;have sAD:=((sA.tr sB).tr sC).tr sD;have dD:=d10.same sAD;have GD:=G10.sm sAD;have GD':=G10'.sm sAD;have eq0:=sD _ _ (sC _ _ (sB _ _ eA));have eq1:=sD _ _ (sC _ _ eB);have eq2:=sD _ _ eC;have nld1:ld≠hd:=λz=>by
   let⟨_,e⟩:=d10.at1;have:=sC _ _ (sB _ _ (sA _ _ e));rw[<-z,nld] at this;cases this
  clear sA sB sC eA eB eC sAD hq0 hq1 hq2 hdq0 hdq1 hdq2 sD nld G10 G10' d10 d8 d7 d6 d5 d4;refine N6 W hW λW hW=>?_;refine⟨_,rfl,_,rfl,_,rfl,_,rfl,hd,tl,gl,ll,m,st,g,L,ws,rfl,GD,λr0 HE n0 e0 sE=>⟨SZ (n:=1),λlr nlr=>?_⟩⟩;have dE:=dD.same sE;have O1:=Own.mk0 (xs:=[V.ref r0]) (Kp.refl hd HE) dE dE nlr;have nr0:=(dD.ne n0).1;generalize upd HE lr (.lst [.ref r0])=HF at O1 ⊢;refine N6 W hW λW hW=>?_;have GE:=GD.sm sE;have GE':=GD'.sm sE;refine⟨_,rfl,.inl ⟨rfl,_,SqL.of O1.eq⟩,_,rfl,_,rfl,_,rfl,_,rfl,_,rfl,hd,hl,tl,gl,ll,m,st,g,L,ws,rfl,O1.hh,GE.kl dE (A40 O1.kp),ndL,λr1 cs kws HG n1 e1' lcs pk run1 kG dG=>?_⟩;have O2:=O1.draw kG dG;have nr1:=(O1.hh.ne n1).1;refine⟨lr,_,_,rfl,rfl,O2.eq,by show 1<sizeLine;decide,?_⟩;have O3:=O2.put ([V.ref r0]++[.ref r1]);have nrl1:r1≠lr:=λz=>by rw[z,O1.eq] at n1;cases n1
  have e1F:upd HG lr (.lst ([V.ref r0]++[.ref r1])) r1=some (.lst (txs cs)):=by rw[C4 nrl1];exact e1'
  generalize upd HG lr (.lst ([V.ref r0]++[.ref r1]))=HH at O3 e1F ⊢;refine N6 W hW λW hW=>?_;refine⟨_,rfl,.inl ⟨rfl,_,SqL.of O3.eq⟩,_,rfl,_,rfl,_,rfl,_,rfl,hd,tl,gl,lo,m,st,g,L',ws,rfl,GE'.kl dE (A40 O3.kp),λr2 HI n2 e2' sI=>?_⟩;have O4:=O3.same sI;have nr2:=(O3.hh.ne n2).1;refine⟨lr,_,_,rfl,rfl,O4.eq,by show 2<sizeLine;decide,?_⟩;have O5:=O4.put ([V.ref r0]++[.ref r1]++[.ref r2]);have nrl2:r2≠lr:=λz=>by rw[z,O3.eq] at n2;cases n2
  have e2F:upd HI lr (.lst ([V.ref r0]++[.ref r1]++[.ref r2])) r2=some (.lst (txs (p6 m st g (L'.zip ws)))):=by rw[C4 nrl2];exact e2'
  have e1H:upd HI lr (.lst ([V.ref r0]++[.ref r1]++[.ref r2])) r1=some (.lst (txs cs)):=by rw[C4 nrl1];exact sI _ _ e1F
  generalize upd HI lr (.lst ([V.ref r0]++[.ref r1]++[.ref r2]))=Hb at O5 e2F e1H ⊢;have kb:=O5.kp;have db:=O5.hh;have Gb:=GE.kl dE (A40 kb);have e0F:=kb _ _ e0 nr0;have elr:=O5.eq;have nlr1:=O5.n1;have eldb:=kb _ _ (sE _ _ eld) nld1;have dk0:T8 T.ah Hb q0 .non:=⟨dq0,kb _ _ (sE _ _ eq0) λz=>by
   let⟨_,_,_,_,_,_,_,_,e⟩:=dD;rw[z,e] at eq0;cases eq0⟩
  have dk1:T8 T.ah Hb q1 .non:=⟨dq1,kb _ _ (sE _ _ eq1) λz=>by
   let⟨_,_,_,_,_,_,_,_,e⟩:=dD;rw[z,e] at eq1;cases eq1⟩
  have dk2:T8 T.ah Hb q2 .non:=⟨dq2,kb _ _ (sE _ _ eq2) λz=>by
   let⟨_,_,_,_,_,_,_,_,e⟩:=dD;rw[z,e] at eq2;cases eq2⟩
  clear O1 O2 O3 O4 O5 GE GE' GD GD' e0 e1' e2' e1F sI sE kG dG dD dE eq0 eq1 eq2 eld n0 n1 n2 nlr;refine N6 W hW λW hW=>?_;have GLb:∀i,i<3->Hb (th3 r0 r1 r2 i)=some (.lst (txs (th3 (p6 m st g (L.zip ws)) cs (p6 m st g (L'.zip ws)) i))):=λi hi=>by
   rcases (show i=0\/i=1\/i=2 by omega) with rfl | rfl | rfl
   ·exact e0F
   ·exact e1H
   ·exact e2F
  have nrs:∀i,i<3->th3 r0 r1 r2 i≠hd:=B4c (p:=λJ r=>r≠hd) nr0 nr1 nr2;obtain⟨ks,hks⟩:∃ks:Nat->Kst,ks=th3 ⟨m,st,g,L.zip ws,[]⟩ ⟨m,st,g,kws,[]⟩ ⟨m,st,g,L'.zip ws,[]⟩:=⟨_,rfl⟩;have hrun:∀i,i<3->Run none (th3 (p6 m st g (L.zip ws)) cs (p6 m st g (L'.zip ws)) i) (some (ks i)):=λi hi=>by
   rw[hks];rcases (show i=0\/i=1\/i=2 by omega) with rfl | rfl | rfl
   ·exact C8a ok tbg s0 s1 lenL ndL (λx hx=>⟨(lab.bd x hx).1,by have:=(lab.bd x hx).2;omega⟩) none
   ·exact run1 none
   ·exact C8a ok tbg s0 s1 lenL' ndL' bd' none
  have hcl:∀i,i<3->(th3 (p6 m st g (L.zip ws)) cs (p6 m st g (L'.zip ws)) i).length<=200:=λi hi=>by
   have lz:∀X:!Int,(p6 m st g (X.zip ws)).length<=200:=λX=>by
    unfold p6 A1c;rw[L3,J6,B7,B4s];show _+1+1<=200;omega
   rcases (show i=0\/i=1\/i=2 by omega) with rfl | rfl | rfl
   ·exact lz L
   ·exact lcs
   ·exact lz L'
  have hqn:∀i k,i<3->k<3->i≠k->th3 q0 q1 q2 i≠th3 q0 q1 q2 k:=λi k hi hk n=>by
   rcases (show i=0\/i=1\/i=2 by omega) with rfl | rfl | rfl <;> rcases (show k=0\/k=1\/k=2 by omega) with rfl | rfl | rfl
   ·exact absurd rfl n
   ·exact q01
   ·exact q02
   ·exact q01.symm
   ·exact absurd rfl n
   ·exact q12
   ·exact q02.symm
   ·exact q12.symm
   ·exact absurd rfl n
  obtain⟨qs,hqs⟩:∃qs,qs=th3 q0 q1 q2:=⟨_,rfl⟩;obtain⟨rs,hrs⟩:∃rs,rs=th3 r0 r1 r2:=⟨_,rfl⟩;obtain⟨CS,hCS⟩:∃CS,CS=th3 (p6 m st g (L.zip ws)) cs (p6 m st g (L'.zip ws)):=⟨_,rfl⟩;have Db:D99 T.ah T.ac hd hl qs (λJ=>hd) (λJ=>hd) ks 0 Hb:=⟨db,λi hi=>absurd hi (C00 i),λi J hi=>by
   rw[hqs];exact B4c (p:=λJ q=>T8 T.ah Hb q .non) dk0 dk1 dk2 i hi,λi k hi=>absurd hi (C00 i)⟩
  have elr:Hb lr=some (.lst [.ref r0,.ref r1,.ref r2]):=elr;have xsq:∀{i:Nat}{x:V},[V.ref q0,.ref q1,.ref q2][i]?=some x->i<3/\x=.ref (qs i):=λh=>by rw[hqs];exact C8b h
  have xsr:∀{i:Nat}{x:V},[V.ref r0,.ref r1,.ref r2][i]?=some x->i<3/\x=.ref (rs i):=λh=>by rw[hrs];exact C8b h
  rw[<-hqs] at hqn;rw[<-hrs] at GLb nrs;rw[<-hCS] at GLb hrun hcl;clear e0F e1H e2F nr0 nr1 nr2 dk0 dk1 dk2 q01 q02 q12 nrl1 nrl2 kb;exists _,rfl,_,rfl,ld,lr,rfl,⟨_,SqL.of eldb⟩,⟨_,SqL.of elr⟩;refine E37 (xs:=[V.ref q0,.ref q1,.ref q2]) (ys:=[V.ref r0,.ref r1,.ref r2]) (λj σ' H'=>∃(x12 x13 x14:Option V)(ps ds:Nat->Addr),σ'=lSt a hd tl gl ll lo ld lr sc st pl wn [x12,x13,x14,none,none]/\D99 T.ah T.ac hd hl qs ps ds ks j H'/\KL hd Hb H') rfl ⟨_,_,_,_,_,rfl,Db,A2c λJ J z=>z⟩ (λi σ' H' hi ⟨_,_,_,_,_,_,_,kl⟩=>⟨SqL.of (kl.lst eldb nld1),SqL.of (kl.lst elr nlr1)⟩) ?_ ?_
  ·rintro j x y p σ' H1 hx hy ⟨x12,x13,x14,ps,ds,rfl,D1,kl1⟩ np;let⟨hj,rfl⟩:=xsq hx;let⟨_,rfl⟩:=xsr hy;exists p,_,rfl,SqT.of B9,rfl,_,_,rfl,_,_,rfl,rfl;have sp:=Same.upd (o:=.tup [.ref (qs j),.ref (rs j)]) np;have D2:=D1.same sp;have kl2:=kl1.tr (A2c sp);obtain⟨H2,hH2⟩:∃H2,H2=upd H1 p (.tup [.ref (qs j),.ref (rs j)]):=⟨_,rfl⟩;rw[<-hH2] at D2 kl2 ⊢;clear hH2 sp D1 kl1 np;dsimp only[lSt,K1,K6];have dkj:=D2.off j (G3 _) hj;let⟨dxj,eqj⟩:=id dkj;have er2:=kl2.lst (GLb j hj) (nrs j hj);have nrq:rs j≠qs j:=λz=>by rw[z,eqj] at er2;cases er2
   exists _,rfl,rs j,rfl,⟨_,SqL.of er2⟩;refine A5a (xs:=txs (CS j)) (λi σ' H'=>∃(x14:Option V)(s:Option Kst),σ'=lSt a hd tl gl ll lo ld lr sc st pl wn [some (.ref (qs j)),some (.ref (rs j)),x14,none,none]/\InR T.ah T.ac hd hl (qs j) H2 H' s/\Run s ((CS j).drop i) (some (ks j))) ⟨_,none,rfl,⟨D2.hh,λb o e J=>e,⟨_,eqj⟩,⟨_,dkj⟩,λk z=>nomatch z⟩,hrun j hj⟩ (λi σ' H' hi ⟨_,_,_,I,_⟩=>SqL.of (I.2.1 _ _ er2 nrq)) ?_ ?_
   ·rintro i v σ' H3 hv ⟨x14',s,rfl,I,run⟩;unfold txs at hv;rw[M2] at hv;let⟨c,hc,rfl⟩:=A1e.mp hv;let⟨sn,cok,run'⟩:=E4c hc run;have R:=E4a I cok;let⟨v0,dx0,e0⟩:=I.2.2.2.1;dsimp only[lSt,K1,K6];exists _,rfl,qs j,dx0,_,rfl,e0,rfl,_,rfl;dsimp only[w4,tC,W8,p8,A0f,T2];refine E39 T I cok λt H4 I4=>?_;exists _,rfl,_,rfl,_,rfl,M0 (C7o R).1 (by rw[sizeLine_eq];decide),rfl,_,rfl;rw[(C7o R).2];cases c with
    | land m' z'=>have es:=E4b cok;subst es;let⟨p',d',np',nd',DK⟩:=I4.2.2.2.2 _ rfl;refine L4 ⟨_,rfl,_,rfl,hd,hl,qs j,p',d',m',z',rfl,I4.1,DK,λH5 h5 D5 fr5=>?_⟩;exact⟨true,rfl,G5 ⟨_,_,rfl,I4.dk np' nd' D5 h5 fr5,run'⟩⟩
    | deed dd=>exact G5 (G5 ⟨_,_,rfl,I4,run'⟩)
    | ask aa=>exact G5 (G5 ⟨_,_,rfl,I4,run'⟩)
   ·rintro σ' H3 ⟨x14',s,rfl,I,run⟩;have lx:(txs (CS j)).length=(CS j).length:=by unfold txs;rw[B7]
    rw[lx] at run;obtain rfl:=E4d run;let⟨p',d',np',nd',DK⟩:=I.2.2.2.2 _ rfl;exact⟨_,_,_,_,_,rfl,D2.next hj hqn DK np' nd' I.1 I.2.1,kl2.tr (T8.nl dkj I.2.1)⟩
  rintro σ' H1 ⟨x12,x13,x14,ps,ds,rfl,D1,kl1⟩;have D1:D99 T.ah T.ac hd hl qs ps ds ks 3 H1:=D1;refine N6 W hW λW hW=>?_;have okk:∀i,i<3->KOk (ks i).m (ks i).st (ks i).g (ks i).kws:=λi hi=>(D1.on i hi).ok;have upL:(F4 (L.zip ws)).Pairwise (· < ·):=by rw[C79 lenL];exact lab.up
  have hwy:∀i,i<2->A1a (ks i).kws=L1 (("ways" : Str)::(L.zip ws).map wyT):=λi hi=>by
   rw[hks];rcases (show i=0\/i=1 by omega) with rfl | rfl
   ·exact C78 upL
   ·exact (E2w pk (by
     have:=okk 1 (DD);rw[hks] at this;exact this.nd)).trans (C78 upL)
  have ew:("ways" : Str)=(Cmd.ask .ways).tx:=Y2 (by
   show _=cp (L1 [("ways" : Str)]);rw[V5,a8])
  have eld1:=kl1.lst eldb nld1;refine⟨_,rfl,_,rfl,ld,_,rfl,SqL.of eld1,λl2 nl2=>?_⟩;have s2:=Same.upd (o:=.lst [.ref q0,.ref q1]) nl2;have D2:=D1.same s2;have kl2:=kl1.tr (A2c s2);have nl21:l2≠hd:=(D1.hh.ne nl2).1;have el2:upd H1 l2 (.lst [.ref q0,.ref q1]) l2=some (.lst [.ref q0,.ref q1]):=B9;obtain⟨H2,hH2⟩:∃H2,H2=upd H1 l2 (.lst [.ref q0,.ref q1]):=⟨_,rfl⟩;rw[show upd H1 l2 (.lst (A1g [V.ref q0,.ref q1,.ref q2] none (some 2)))=H2 from hH2.symm];rw[<-hH2] at D2 kl2 el2;clear hH2 s2 nl2;exists l2,rfl,⟨_,SqL.of el2⟩;refine A5a (xs:=[V.ref q0,.ref q1]) (λj σ' H'=>∃(x12:Option V),σ'=lSt a hd tl gl ll lo ld lr sc st pl wn [x12,x13,x14,none,none]/\D99 T.ah T.ac hd hl qs ps ds ks 3 H'/\KL hd Hb H'/\H' l2=some (.lst [.ref q0,.ref q1])) ⟨_,rfl,D2,kl2,el2⟩ (λi σ' H' hi ⟨_,_,_,_,e⟩=>SqL.of e) ?_ ?_
  ·rintro j x σ' H3 hx ⟨x12',rfl,D3,kl3,e3⟩;have hj2:j<2:=(X4.mp hx).1;let⟨hj,rfl⟩:=xsq (i:=j) (x:=x) (by
    match j,hx with
    | 0,hx=>exact hx
    | 1,hx=>exact hx)
   have DK:=D3.on j hj;let⟨dx3,eq3⟩:=DK.dk;dsimp only[lSt,K1,K6];exists _,rfl,qs j,dx3,_,rfl,eq3,rfl;dsimp only[w4,tC,W8,p8,A0f,T2];rw[ew];refine B00 T DK D3.hh trivial λt H4 tl4 D4 h4 fr4=>?_;have D5:=D3.say hj D4 h4 fr4;have kl4:=kl3.tr (DK.kl fr4);have e4:=DK.kl fr4 |>.lst e3 nl21;refine⟨_,rfl,_,rfl,hd,tl,gl,ll,m,st,g,L,ws,rfl,Gb.kl db kl4,λH5 s5=>⟨rfl,_,rfl,?_⟩⟩;rw[show (not (decide (V.str t=V.str (L1 (("ways" : Str)::(L.zip ws).map wyT)))))=false by rw[show t=_ from tl4,hwy j hj2,decide_eq_true rfl];rfl];exact G5 ⟨_,rfl,D5.same s5,kl4.tr (A2c s5),s5 _ _ e4⟩
  rintro σ' H3 ⟨x12',rfl,D3,kl3,_⟩;clear D2 kl2 el2 D1 eld1 kl1;refine N6 W hW λW hW=>?_;refine⟨_,rfl,_,rfl,_,rfl,hd,hl,tl,m,st,ws,rfl,D3.hh,Gb.la.kl db kl3,⟨ok.m1,ok.m2⟩,⟨s0,s1⟩,λla as H4 nla ela las a0 aok k4 h4=>?_⟩;have D4:=D3.draw h4 k4;have kl4:=kl3.tr (A40 k4);have nla1:=(D3.hh.ne nla).1;dsimp only[lSt,K1,K6];clear D3 kl3 nla;refine N6 W hW λW hW=>?_;have kst:∀i,i<3->(ks i).m=m/\(ks i).st=st:=λi hi=>by
   rw[hks];exact B4c (p:=λ_ (k:Kst)=>k.m=m/\k.st=st) ⟨rfl,rfl⟩ ⟨rfl,rfl⟩ ⟨rfl,rfl⟩ i hi
  have aok':∀i,i<3->∀a∈as,c9 (ks i).m (ks i).st a:=λi hi a ha=>by
   rw[(kst i hi).1,(kst i hi).2];exact (aok a ha).2
  have eld4:=kl4.lst eldb nld1;exists _,rfl,la,rfl,⟨_,SqL.of ela⟩;refine C8c T (i:=0) DD D4 ela nla1 las (aok' 0 DD) (λx Hx ca R Dx klx hx=>?_) λts H5 D5 kl5 tls lt nlt=>?_
  ·let⟨dx0,ex0⟩:=(Dx.on 0 DD).dk;exact⟨_,rfl,ld,_,_,_,rfl,rfl,SqL.of (klx.lst eld4 nld1),by rw[hqs];rfl,qs 0,dx0,_,rfl,ex0,rfl,_,rfl,hx⟩
  have s6:=Same.upd (o:=.lst (ts.map V.str)) nlt;have D6:=D5.same s6;have kl6:=(kl4.tr kl5).tr (A2c s6);have ela6:=(kl5.tr (A2c s6)).lst ela nla1;have nlt1:=(D5.hh.ne nlt).1;have elt:upd H5 lt (.lst (ts.map V.str)) lt=some (.lst (ts.map V.str)):=B9;obtain⟨H6,hH6⟩:∃H6,H6=upd H5 lt (.lst (ts.map V.str)):=⟨_,rfl⟩;rw[<-hH6] at D6 kl6 ela6 elt ⊢;clear hH6 s6 D5 kl5 D4 kl4 eld4 ela;dsimp only[K6];refine N6 W hW λW hW=>?_;have lts:ts.length<=8:=by rw[tls.len];exact las
  let⟨t0,ht0,low,lb,rfl⟩:=tls.get0 a0;have k0:=kst 0 (DD);have tbl:=lb.tab;rw[k0.1,k0.2] at tbl;let⟨sp1,sp2⟩:=E4e tbl s1 ok.m1 ok.m2;refine⟨fun σ' H'=>σ'=lSt a hd tl gl ll lo ld lr sc st pl wn [x12',x13,x14,some (.ref la),some (.ref lt)]/\Same H6 H',?_,?_⟩
  ·exists _,rfl,lt,rfl,⟨_,SqL.of elt⟩;refine B36 (ts.map λJ=>V.bl true) (by rw[B7,B7]) (by rw[B7,sizeLine_eq];omega) (λHx s=>SqL.of (s _ _ elt)) (λi y v hy hv Hx s ca R hR=>?_) λH7 s7 p np=>?_
   ·rw[M2] at hy hv;let⟨x,hx,rfl⟩:=A1e.mp hy;rw[hx] at hv;cases hv;exact⟨_,rfl,_,_,.type "str",.type "str",true,rfl,rfl,.str _,by unfold A0t;rw[if_pos (DD)],hR _ λJ J z=>z⟩
   have s8:=s7.tr (Same.upd (o:=.lst (ts.map λJ=>V.bl true)) np);refine⟨p,ts.map λJ=>true,rfl,SqL.of (B9.trans (by rw[Q8];rfl)),true,by rw[show (ts.map λJ=>true).all id=true by rw[List.all_map];exact B09.mpr λJ J=>rfl],?_⟩;refine G5 ⟨_,rfl,.inl ⟨lt,_,0,V.str (tbW low),rfl,rfl,SqL.of (s8 _ _ elt),f7 (j:=0) (by rw[M2,ht0];rfl),rfl,_,_,rfl,rfl,DD,sp1,λp2 np2=>?_⟩⟩;rw[sp2];have s9:=s8.tr (Same.upd (o:=.lst ((low.map lvW).map V.str)) np2);let⟨rl6,us6,e16,_⟩:=Gb.la.kl db kl6;exists p2,_,rfl,.inl (SqL.of B9),_,rfl,tl,_,_,_,rfl,rfl,SqT.of (s9 _ _ e16),rfl,rfl,_,rfl;rw[B7,B7,tbl.len,decide_eq_true rfl];exact G5 ⟨rfl,s9⟩
  rintro σ' H7 ⟨rfl,s7⟩;have D7:=D6.same s7;have kl7:=kl6.tr (A2c s7);have ela7:=s7 _ _ ela6;have elt7:=s7 _ _ elt;clear D6 kl6 ela6 elt s7;refine N6 W hW λW hW=>?_;have ssw:∀i,i<3->∀w,w∈wsF (ks i).kws↔w∈ws:=λi hi w=>by
   have nd:=(okk i hi).nd;refine (E2u nd w).trans ?_;rw[hks];rcases (show i=0\/i=1\/i=2 by omega) with rfl | rfl | rfl
   ·exact C0f lenL w
   ·exact (exists_congr λx=>pk.mem_iff).trans (C0f lenL w)
   ·exact C0f lenL' w
  have hal:∀i,i<3->B98 (ks 0) (ks i):=λi hi=>⟨(kst 0 DD).1.trans (kst i hi).1.symm,(kst 0 DD).2.trans (kst i hi).2.symm,by
   rw[hks];exact B4c (p:=λ_ (k:Kst)=>g=k.g) rfl rfl rfl i hi,λw=>(ssw 0 DD w).trans (ssw i hi w).symm⟩
  have oks:=tls.ok λa ha=>(aok a ha).1;let⟨ly,dp⟩:=C7s oks;have eld7:=kl7.lst eldb nld1;exists _,rfl,ld,rfl,⟨_,SqL.of eld7⟩;refine A5a (xs:=[V.ref q0,.ref q1,.ref q2]) (λj σ' H'=>∃(y12:Option V),σ'=lSt a hd tl gl ll lo ld lr sc st pl wn [y12,x13,x14,some (.ref la),some (.ref lt)]/\D99 T.ah T.ac hd hl qs ps ds ks 3 H'/\KL hd H7 H') ⟨_,rfl,D7,A2c λJ J z=>z⟩ (λi σ' H' hi ⟨_,_,_,kl⟩=>SqL.of (kl.lst eld7 nld1)) ?_ ?_
  ·rintro j x σ' H8 hx ⟨y12,rfl,D8,kl8⟩;let⟨hj,rfl⟩:=xsq hx;dsimp only[lSt,K1,K6];exists _,rfl,la,rfl,⟨_,SqL.of (kl8.lst ela7 nla1)⟩;refine C8c T (i:=j) hj D8 (kl8.lst ela7 nla1) nla1 las (aok' j hj) (λx Hx ca R Dx klx hx=>?_) λus H9 D9 kl9 tlu lu nlu=>?_
   ·let⟨dxj,exj⟩:=(Dx.on j hj).dk;exact⟨_,rfl,qs j,dxj,_,rfl,exj,rfl,_,rfl,hx⟩
   obtain rfl:=tls.uniq (hal j hj) (okk 0 DD) (okk j hj) (λa ha=>⟨(aok a ha).1,aok' 0 DD a ha⟩) tlu;have s9:=Same.upd (o:=.lst (us.map V.str)) nlu;have elt9:=s9 _ _ ((kl8.tr kl9).lst elt7 nlt1);have cl:(PyData.list (us.map PyData.str)).canLay0=true:=by rw[PyData.canLay0];exact ly
   have dp1:(PyData.list (us.map PyData.str)).depth<=64:=by
    show PyData.depthAll (us.map PyData.str)+1<=64;rw[dp];decide
   exists _,rfl,_,_,.lst (SqL.of B9) (B97 us),.lst (SqL.of elt9) (B97 us),cl,cl,M0 (B1j _ _) dp1,_,rfl;rw[SeqAt.eqv_refl _ cl];exact G5 ⟨_,rfl,D9.same s9,(kl8.tr kl9).tr (A2c s9)⟩
  ·rintro σ' H8 ⟨y12,rfl,_⟩;subst hW;exact told H8
theorem all_mk {l:PySem.W.OpenLaw}{w:World}{K:A8}{h:Heap}{mg:Str->Option Value}{fa:Addr}(X:K.In h)(G:h.Ns mainGlobals mg)(hfa:mg "law" = some (.ref fa))
  (h0:FH K "is_whole" B6y)
  (h1:FH K "is_store" B6z)
  (h2:FH K "is_level" B60)
  (h3:FH K "stepped" B61)
  (h4:FH K "levels_along" B62)
  (h5:FH K "effect_of_none" B63)
  (h6:FH K "effect_of_one" B64)
  (h7:FH K "effect_of" B65)
  (h8:FH K "passed" B66)
  (h9:FH K "joined" B67)
  (h10:FH K "is_place" B68)
  (h11:FH K "is_change" B69)
  (h12:FH K "is_way" B7a)
  (h13:FH K "turned_land" B2y)
  (h14:FH K "changes_of" B2z)
  (h15:FH K "most_taken" B20)
  (h16:FH K "is_table" B21)
  (h17:FH K "is_more" B7b)
  (h18:FH K "behind_way" B7c)
  (h19:FH K "first_row" B7d)
  (h20:FH K "row_behind" B7e)
  (h21:FH K "walk_to" B7f)
  (h22:FH K "behind_ways" B7g)
  (h23:FH K "behind_part" B7h)
  (h24:FH K "end_of" B7i)
  (h25:FH K "rows_from" B7j)
  (h26:FH K "still_rises" B7k)
  (h27:FH K "rising_walk" B22)
  (h28:FH K "parted_at_round" B23)
  (h29:FH K "parts_by" B7l)
  (h30:FH K "filling_parts" B7m)
  (h31:FH K "settled" B24)
  (h32:FH K "highest" B7n)
  (h33:FH K "greatest_of" B25)
  (h34:FH K "boundless" B26)
  (h35:FH K "is_within" B7o)
  (h36:FH K "lacking" B27)
  (h37:FH K "least" B7p)
  (h38:FH K "base_at" B7q)
  (h39:FH K "has_enough" B7r)
  (h40:FH K "comes_through" B7s)
  (h41:FH K "store_enough" B7t)
  (h42:FH K "least_store" B7u)
  (h43:FH K "is_label" B7v)
  (h44:FH K "places_below" B28)
  (h45:FH K "soonest" B3b)
  (h46:FH K "are_figures" B3c)
  (h47:FH K "is_number" B78)
  (h48:FH K "number_by" B79)
  (h49:FH K "level_by" B8a)
  (h50:FH K "written" B8b)
  (h51:FH K "row_of" B8c)
  (h52:FH K "table_row" B3d)
  (h53:FH K "moved_row" B0d)
  (h54:FH K "way_word" B8d)
  (h55:FH K "words_of" B8e)
  (h56:FH K "values_of" B0e)
  (h57:FH K "keeper_by" B8f)
  (h58:FH K "base_of" B8g)
  (h59:FH K "spot_of" B8h)
  (h60:FH K "lay" B8i)
  (h61:FH K "lift" B8j)
  (h62:FH K "turn" B8k)
  (h63:FH K "refill" B8l)
  (h64:FH K "aim" B8m)
  (h65:FH K "tell_least" B8n)
  (h66:FH K "tell_highest" B8o)
  (h67:FH K "tell_ways" B3e)
  (h68:FH K "tell_store" B8p)
  (h69:FH K "tell_soon" B8q)
  (h70:FH K "tell_any" B8r)
  (h71:FH K "_law_hand" B8t)
  (h72:FH K "_law_next" B8u)
  (h73:FH K "_law_take" B8v)
  (h74:FH K "_law_draw" B8w)
  (h75:FH K "_law_scale" B8x)
  (h76:FH K "_law_change" B8y)
  (h77:FH K "_law_store" B8z)
  (h78:FH K "_law_land" B80)
  (h79:FH K "_law_table" B3g)
  (h80:FH K "_law_word" B81)
  (h81:FH K "_law_words" B3h)
  (h82:FH K "_law_labels" B82)
  (h83:FH K "_law_mixed" B83)
  (h84:FH K "_law_lay" B84)
  (h85:FH K "_law_straight" B85)
  (h86:FH K "_law_roads" B86)
  (h87:FH K "_law_ways" B87)
  (h88:FH K "_law_asks" B88)
  (h89:FH K "_law_bare" B89)
  {f90:Addr} {od90 an90:Option Addr} {sl90:Array (Option Value)} {oc90 kV90 dc90 pm90 cd90 ct90:Value} (a90:A1u K mainGlobals "law" = some (some (.ref f90))) (l90:K.lookup f90=some ⟨oc90,od90,.func (A43 "law" "law" (A5k A0o) (A2r A0o) (B5 A0o) .none kV90 dc90 pm90 an90 cd90 ct90),sl90⟩) (c90:C0o K cd90 "law" = true) (k90:A7f K (.ref f90)=true)
  (q_LEAST:CH K "LEAST" (.int 0))
  (q_GAIN:CH K "GAIN" (.int 1))
  (q_TOP:CH K "TOP" (.int 2))
  (q_MANY:CH K "MANY" (.int 0))
  (q_WAYS:CH K "WAYS" (.int 1))
  (q_START:CH K "START" (.int 0))
  (q_END:CH K "END" (.int 1))
  (q_CHANGE:CH K "CHANGE" (.int 2))
  (q_MOST_PLACES:CH K "MOST_PLACES" (.int 12))
  (q_MOST_WAYS:CH K "MOST_WAYS" (.int 40))
  (q_TABLE:CH K "TABLE" (.int 0))
  (q_RISEN:CH K "RISEN" (.int 1))
  (q_FROM:CH K "FROM" (.int 0))
  (q_BY:CH K "BY" (.int 1))
  (q_NUMBERS:CH K "NUMBERS" (.int 0))
  (q_TIMES:CH K "TIMES" (.int 1))
  (q_PLACE:CH K "PLACE" (.int 0))
  (q_LEVEL:CH K "LEVEL" (.int 1))
  (q_MOST_FIGURES:CH K "MOST_FIGURES" (.int 60))
  (q_MOST_SOON:CH K "MOST_SOON" (.int 200))
  (q_ANY:CH K "ANY" (.str "any"))
  (q_FIGURES:CH K "FIGURES" (.str "0123456789"))
  (q_NONE:CH K "NONE" (.str "-"))
  (zz:BN K ["abs","all","bool","enumerate","int","isinstance","len","list","max","min","range","reversed","sorted","str","tuple","zip"])
  (qal_highest_highest:AH K "highest" "highest_highest")
  (qal_least_least:AH K "least" "least_least")
  (qal_least_store_stores:AH K "least_store" "least_store_stores")
  {ac:Addr} (xa_Keeper:A1u K mainGlobals "Keeper" = some (some (.ref ac))) (kh:KH K ac) (kn:NN K ac ["many","full","wanted","laid","lowest"])
  (iw:MH K ac "__init__" "Keeper.__init__" B29)
  (iS:MH K ac "lay" "Keeper.lay" B7w)
  (ix:MH K ac "lift" "Keeper.lift" B7x)
  (iy:MH K ac "turn" "Keeper.turn" B7y)
  (gH:MH K ac "refill" "Keeper.refill" B7z)
  (iT:MH K ac "aim" "Keeper.aim" B70)
  (gU:MH K ac "found" "Keeper.found" B71)
  (gW:MH K ac "moved" "Keeper.moved" B72)
  (iz:MH K ac "ways" "Keeper.ways" B73)
  (gX:MH K ac "store" "Keeper.store" B74)
  (iA:MH K ac "goal" "Keeper.goal" C40)
  (iB:MH K ac "land" "Keeper.land" B3a)
  (gY:MH K ac "least" "Keeper.least" B75)
  (gf:MH K ac "highest" "Keeper.highest" B76)
  (eR:MH K ac "least_store" "Keeper.least_store" B77)
  {ah:Addr} (xa_Desk:A1u K mainGlobals "Desk" = some (some (.ref ah))) (kh_Desk:KH K ah) (kn_Desk:NN K ah ["keeper"])
  (iC:MH K ah "__init__" "Desk.__init__" B3f)
  (iU:MH K ah "say" "Desk.say" B8s)
  {bT:Addr} (xa_NUMBERED:A1u K mainGlobals "NUMBERED" = some (some (.ref bT))) (kd_NUMBERED:KDN w K bT [("land",.inl 2),("lay",.inl 4),("lift",.inl 1),("turn",.inl 2),("refill",.inl 1),("least",.inl 0),("ways",.inl 0),("store",.inl 4),("soon",.inl 5)])
  {cq:Addr} (xa_ANSWERS:A1u K mainGlobals "ANSWERS" = some (some (.ref cq))) (kd_ANSWERS:KDN w K cq [("lay",.inr "lay"),("lift",.inr "lift"),("turn",.inr "turn"),("refill",.inr "refill"),("aim",.inr "aim"),("least",.inr "tell_least"),("highest",.inr "tell_highest"),("ways",.inr "tell_ways"),("store",.inr "tell_store"),("soon",.inr "tell_soon"),("any",.inr "tell_any")])
  {bO:Addr} (xa_TABLED:A1u K mainGlobals "TABLED" = some (some (.ref bO))) (kt_TABLED:KTH K bO [V.str "aim",V.str "highest",V.str "any"]) :
  ∃fd:FuncData,(∀(s:Shared)(v:Value),BindsTo s fd ⟨[v],[]⟩ [("_law_script",v)])/\∀base:Heap,K.In base->base.Ns mainGlobals mg->C5 l.prog w K mg base CX0 15 fa fd ["_law_script"] (B4d K):=by
 have e:=hfa.symm.trans (A2j X G a90);cases e
 let ti:MT K ac "__init__" "Keeper.__init__" B29 ["self","many","store","goal"]:=MT.c iw
 let ti_Desk:MT K ah "__init__" "Desk.__init__" B3f ["self"]:=MT.c iC
 have Fl:=D0x (st:=A0o) l90 c90 k90
 let T:Txt K mg:={
  aj:=FT.c X G h0,
  bf:=FT.c X G h1,
  bg:=FT.c X G h2,
  bG:=FT.c X G h3,
  aD:=FT.c X G h4,
  aO:=FT.c X G h5,
  aY:=FT.c X G h6,
  bW:=FT.c X G h7,
  cR:=FT.c X G h8,
  cS:=FT.c X G h9,
  av:=FT.c X G h10,
  aR:=FT.c X G h11,
  cT:=FT.c X G h12,
  bu:=FT.c X G h13,
  aC:=FT.c X G h14,
  aw:=FT.c X G h15,
  au:=FT.c X G h16,
  cE:=FT.c X G h17,
  bN:=FT.c X G h18,
  aT:=FT.c X G h19,
  aJ:=FT.c X G h20,
  bH:=FT.c X G h21,
  bv:=FT.c X G h22,
  bw:=FT.c X G h23,
  cU:=FT.c X G h24,
  bh:=FT.c X G h25,
  bx:=FT.c X G h26,
  bz:=FT.c X G h27,
  aF:=FT.c X G h28,
  bC:=FT.c X G h29,
  aZ:=FT.c X G h30,
  cF:=FT.c X G h31,
  aq:=FT.c X G h32,
  bA:=FT.c X G h33,
  bX:=FT.c X G h34,
  bY:=FT.c X G h35,
  bR:=FT.c X G h36,
  cB:=FT.c X G h37,
  bI:=FT.c X G h38,
  ax:=FT.c X G h39,
  aB:=FT.c X G h40,
  ba:=FT.c X G h41,
  bB:=FT.c X G h42,
  bi:=FT.c X G h43,
  aE:=FT.c X G h44,
  cG:=FT.c X G h45,
  aN:=FT.c X G h46,
  bZ:=FT.c X G h47,
  aU:=FT.c X G h48,
  cr:=FT.c X G h49,
  cH:=FT.c X G h50,
  bb:=FT.c X G h51,
  ay:=FT.c X G h52,
  ai:=FT.c X G h53,
  cu:=FT.c X G h54,
  cw:=FT.c X G h55,
  cb:=FT.c X G h56,
  cf:=FT.c X G h57,
  bJ:=FT.c X G h58,
  aH:=FT.c X G h59,
  dI:=FT.c X G h60,
  cN:=FT.c X G h61,
  cO:=FT.c X G h62,
  cg:=FT.c X G h63,
  dJ:=FT.c X G h64,
  aK:=FT.c X G h65,
  az:=FT.c X G h66,
  aW:=FT.c X G h67,
  aM:=FT.c X G h68,
  aX:=FT.c X G h69,
  bj:=FT.c X G h70,
  dW:=FT.c X G h71,
  bS:=FT.c X G h72,
  dX:=FT.c X G h73,
  af:=FT.c X G h74,
  dv:=FT.c X G h75,
  ci:=FT.c X G h76,
  dw:=FT.c X G h77,
  dY:=FT.c X G h78,
  cC:=FT.c X G h79,
  dZ:=FT.c X G h80,
  bL:=FT.c X G h81,
  cV:=FT.c X G h82,
  dy:=FT.c X G h83,
  aI:=FT.c X G h84,
  bD:=FT.c X G h85,
  dz:=FT.c X G h86,
  ee:=FT.c X G h87,
  ef:=FT.c X G h88,
  eh:=FT.c X G h89,
  g_LEAST:=CT.c X G q_LEAST,
  g_GAIN:=CT.c X G q_GAIN,
  g_TOP:=CT.c X G q_TOP,
  g_MANY:=CT.c X G q_MANY,
  g_WAYS:=CT.c X G q_WAYS,
  g_START:=CT.c X G q_START,
  g_END:=CT.c X G q_END,
  g_CHANGE:=CT.c X G q_CHANGE,
  g_MOST_PLACES:=CT.c X G q_MOST_PLACES,
  g_MOST_WAYS:=CT.c X G q_MOST_WAYS,
  g_TABLE:=CT.c X G q_TABLE,
  g_RISEN:=CT.c X G q_RISEN,
  g_FROM:=CT.c X G q_FROM,
  g_BY:=CT.c X G q_BY,
  g_NUMBERS:=CT.c X G q_NUMBERS,
  g_TIMES:=CT.c X G q_TIMES,
  g_PLACE:=CT.c X G q_PLACE,
  g_LEVEL:=CT.c X G q_LEVEL,
  g_MOST_FIGURES:=CT.c X G q_MOST_FIGURES,
  g_MOST_SOON:=CT.c X G q_MOST_SOON,
  g_ANY:=CT.c X G q_ANY,
  g_FIGURES:=CT.c X G q_FIGURES,
  g_NONE:=CT.c X G q_NONE,
  iV:=r8 X G zz.1,
  ip:=r8 X G zz.2.1,
  je:=r8 X G zz.2.2.1,
  eS:=r8 X G zz.2.2.2.1,
  fS:=r8 X G zz.2.2.2.2.1,
  bM:=r8 X G zz.2.2.2.2.2.1,
  aP:=r8 X G zz.2.2.2.2.2.2.1,
  cz:=r8 X G zz.2.2.2.2.2.2.2.1,
  fm:=r8 X G zz.2.2.2.2.2.2.2.2.1,
  eM:=r8 X G zz.2.2.2.2.2.2.2.2.2.1,
  cj:=r8 X G zz.2.2.2.2.2.2.2.2.2.2.1,
  fo:=r8 X G zz.2.2.2.2.2.2.2.2.2.2.2.1,
  gh:=r8 X G zz.2.2.2.2.2.2.2.2.2.2.2.2.1,
  aQ:=r8 X G zz.2.2.2.2.2.2.2.2.2.2.2.2.2.1,
  iR:=r8 X G zz.2.2.2.2.2.2.2.2.2.2.2.2.2.2.1,
  jK:=r8 X G zz.2.2.2.2.2.2.2.2.2.2.2.2.2.2.2.1,
  bp:=AH.of X G qal_highest_highest,
  dA:=AH.of X G qal_least_least,
  cY:=AH.of X G qal_least_store_stores,
  ac:=ac,gQ:=A2j X G xa_Keeper,ae:=kh.1,dR:=kn.1,dh:=kn.2.1,dL:=kn.2.2.1,bK:=kn.2.2.2.1,cD:=kn.2.2.2.2.1,
  dj:=ti,gR:=⟨kh.2.1,ti.m.1,ti.m.2,kh.2.2⟩,
  dS:=MT.c iS,
  dl:=MT.c ix,
  dr:=MT.c iy,
  cK:=MT.c gH,
  dU:=MT.c iT,
  cm:=MT.c gU,
  aG:=MT.c gW,
  dt:=MT.c iz,
  bQ:=MT.c gX,
  jr:=MT.c iA,
  aA:=MT.c iB,
  cX:=MT.c gY,
  cA:=MT.c gf,
  br:=MT.c eR,
  ah:=ah,fU:=A2j X G xa_Desk,ck:=kh_Desk.1,dM:=kn_Desk.1,
  du:=ti_Desk,fV:=⟨kh_Desk.2.1,ti_Desk.m.1,ti_Desk.m.2,kh_Desk.2.2⟩,
  bP:=MT.c iU,
  bT:=bT,fY:=A2j X G xa_NUMBERED,
  cq:=cq,gr:=A2j X G xa_ANSWERS,
  bO:=bO,fD:=A2j X G xa_TABLED,kt_TABLED:=kt_TABLED,
  iq:=⟨fa,_,Fl,hfa,Fl.binds (λJ J J J J J us hl=>by let⟨_,rfl⟩:=B6x hl;rfl)⟩ }
 exact⟨A43 "law" "law" (A5k A0o) (A2r A0o) (B5 A0o) .none kV90 dc90 pm90 an90 cd90 ct90,λs v=>.of_eq rfl,λbase J J=>E4f T ⟨KDN.to X G kd_NUMBERED ⟨rfl,rfl,rfl,rfl,rfl,rfl,rfl,rfl,rfl,rfl,rfl,rfl,rfl,rfl,rfl,rfl,rfl,rfl,trivial⟩,KDN.to X G kd_ANSWERS ⟨rfl,⟨_,rfl,T.dI.m⟩,rfl,⟨_,rfl,T.cN.m⟩,rfl,⟨_,rfl,T.cO.m⟩,rfl,⟨_,rfl,T.cg.m⟩,rfl,⟨_,rfl,T.dJ.m⟩,rfl,⟨_,rfl,T.aK.m⟩,rfl,⟨_,rfl,T.az.m⟩,rfl,⟨_,rfl,T.aW.m⟩,rfl,⟨_,rfl,T.aM.m⟩,rfl,⟨_,rfl,T.aX.m⟩,rfl,⟨_,rfl,T.bj.m⟩,trivial⟩⟩⟩
theorem walk {l:PySem.W.OpenLaw}{q:Program}{loose:!Str}{XP:(Str->Option Value)->Heap->Prop}{YP:World->Heap->Prop}{d:DefRec}{K:Params->A8}(hn:l.most=some 63)(hdf:d.params.defaults=[])
  (hY:∀(w:World)(h:Heap),YP w h->(K w.params).In h)
  (F:∀(w:World)(mg:Str->Option Value)(fa:Addr)(h:Heap),(K w.params).In h->h.Ns mainGlobals mg->mg d.name=some (.ref fa)->
   ∃fd:FuncData,(∀(s:Shared)(u:Value),BindsTo s fd ⟨[u],[]⟩ [("_law_script",u)])/\∀base:Heap,(K w.params).In base->base.Ns mainGlobals mg->C5 l.prog w (K w.params) mg base CX0 15 fa fd ["_law_script"] (B4d (K w.params))) :
  PySem.W.WalkO q loose XP YP l.row.toRowW d [] (λf vs=>PySem.call f vs):=
 Lake.walk_of (n:=63) (k:=15) (x:= "_law_script") (CX:=λJ=>CX0) (sp:=λw=>B4d (K w.params)) hn DD hdf ⟨rfl,DD,DD,rfl⟩ hY F (λJ J a ns hl J hS=>⟨a,ns,rfl,hS,hl,λJ=>rfl⟩) λJ J J J J z=>z
end Tactic
open Lean in
local macro_rules|`(command|init_quot)=>do
 let mut b:Array Name:=#[`PySem.Challenge.pw_trudge_k99_whole_roads_to_a_land,`PySem.Challenge.rw_trudge_k99_whole_roads_to_a_land]
 let mut q:=""
 for w in "env_ 41 heap_ 39 46 1131 o_ 43+1088 sts_ 49 128 143 165 180 202 217 239 261 276 291 306 321 362 428 497 565 779 843 896 959+5 1021 1103 tree_ 47 127 142 164 179 201 216 238 260 275 290 305 320 361 427 496 564 690 775 842 893 958+3 1020 1102 1130 view_ 39".splitOn " " do
  if w.back=='_' then q:=w else
   let x:=w.splitOn "+"
   for i in List.range (x.getD 1 "1").toNat! do b:=b.push ((`PySem.Challenge.cw_trudge_k99_whole_roads_to_a_land_holds).str (q++toString (x.head!.toNat!+i)))
 let a<-b.mapM fun c=>`(command|theorem $(mkIdent ((`PySem.W.Fast).str ("tw"++toString c.hash))):ident:True:=trivial)
 return mkNullNode a
init_quot
open PySem PySem.W PyProof.Rows
set_option maxRecDepth 100000 in
set_option maxHeartbeats 0 in
theorem PySem.Challenge.cw_trudge_k99_whole_roads_to_a_land_holds : PySem.Challenge.rw_trudge_k99_whole_roads_to_a_land.Holds := by
 w_on;o_law;k_head;(case hw=>w_witness2)
 k_fill
 refine Tactic.walk (l:=PySem.Challenge.rw_trudge_k99_whole_roads_to_a_land) rfl rfl (λw h Y=>PySem.W.kIn_of Y) ?F
 case F=>
  intro w mg fa h KX G hmg;refine' Tactic.all_mk KX G hmg ?h0 ?h1 ?h2 ?h3 ?h4 ?h5 ?h6 ?h7 ?h8 ?h9 ?h10 ?h11 ?h12 ?h13 ?h14 ?h15 ?h16 ?h17 ?h18 ?h19 ?h20 ?h21 ?h22 ?h23 ?h24 ?h25 ?h26 ?h27 ?h28 ?h29 ?h30 ?h31 ?h32 ?h33 ?h34 ?h35 ?h36 ?h37 ?h38 ?h39 ?h40 ?h41 ?h42 ?h43 ?h44 ?h45 ?h46 ?h47 ?h48 ?h49 ?h50 ?h51 ?h52 ?h53 ?h54 ?h55 ?h56 ?h57 ?h58 ?h59 ?h60 ?h61 ?h62 ?h63 ?h64 ?h65 ?h66 ?h67 ?h68 ?h69 ?h70 ?h71 ?h72 ?h73 ?h74 ?h75 ?h76 ?h77 ?h78 ?h79 ?h80 ?h81 ?h82 ?h83 ?h84 ?h85 ?h86 ?h87 ?h88 ?h89 ?a90 ?l90 ?c90 ?k90 ?q_LEAST ?q_GAIN ?q_TOP ?q_MANY ?q_WAYS ?q_START ?q_END ?q_CHANGE ?q_MOST_PLACES ?q_MOST_WAYS ?q_TABLE ?q_RISEN ?q_FROM ?q_BY ?q_NUMBERS ?q_TIMES ?q_PLACE ?q_LEVEL ?q_MOST_FIGURES ?q_MOST_SOON ?q_ANY ?q_FIGURES ?q_NONE ?zz ?qal_highest_highest ?qal_least_least ?qal_least_store_stores ?xa_Keeper ?kh ?kn ?iw ?iS ?ix ?iy ?gH ?iT ?gU ?gW ?iz ?gX ?iA ?iB ?gY ?gf ?eR ?xa_Desk ?kh_Desk ?kn_Desk ?iC ?iU ?xa_NUMBERED ?kd_NUMBERED ?xa_ANSWERS ?kd_ANSWERS ?xa_TABLED ?kt_TABLED
  (case a90=>k_is);(case l90=>k_is);(case c90=>k_is);(case k90=>k_is)
  (case q_LEAST=>exact⟨_,by k_is⟩);(case q_GAIN=>exact⟨_,by k_is⟩);(case q_TOP=>exact⟨_,by k_is⟩);(case q_MANY=>exact⟨_,by k_is⟩);(case q_WAYS=>exact⟨_,by k_is⟩);(case q_START=>exact⟨_,by k_is⟩);(case q_END=>exact⟨_,by k_is⟩);(case q_CHANGE=>exact⟨_,by k_is⟩);(case q_MOST_PLACES=>exact⟨_,by k_is⟩);(case q_MOST_WAYS=>exact⟨_,by k_is⟩);(case q_TABLE=>exact⟨_,by k_is⟩);(case q_RISEN=>exact⟨_,by k_is⟩);(case q_FROM=>exact⟨_,by k_is⟩);(case q_BY=>exact⟨_,by k_is⟩);(case q_NUMBERS=>exact⟨_,by k_is⟩);(case q_TIMES=>exact⟨_,by k_is⟩);(case q_PLACE=>exact⟨_,by k_is⟩);(case q_LEVEL=>exact⟨_,by k_is⟩);(case q_MOST_FIGURES=>exact⟨_,by k_is⟩);(case q_MOST_SOON=>exact⟨_,by k_is⟩);(case q_ANY=>exact⟨_,by k_is⟩);(case q_FIGURES=>exact⟨_,by k_is⟩);(case q_NONE=>exact⟨_,by k_is⟩)
  (case zz=>exact⟨by k_is,by k_is,by k_is,by k_is,by k_is,by k_is,by k_is,by k_is,by k_is,by k_is,by k_is,by k_is,by k_is,by k_is,by k_is,by k_is,trivial⟩)
  (case qal_highest_highest=>exact⟨_,by k_is,by k_is⟩)
  (case qal_least_least=>exact⟨_,by k_is,by k_is⟩)
  (case qal_least_store_stores=>exact⟨_,by k_is,by k_is⟩)
  (case xa_Keeper=>k_is);(case kh=>exact⟨⟨by k_is,by k_is,by k_is,by k_is⟩,by k_is,by k_is⟩);(case kn=>exact⟨by k_is,by k_is,by k_is,by k_is,by k_is,trivial⟩)
  (case xa_Desk=>k_is);(case kh_Desk=>exact⟨⟨by k_is,by k_is,by k_is,by k_is⟩,by k_is,by k_is⟩);(case kn_Desk=>exact⟨by k_is,trivial⟩)
  (case xa_NUMBERED=>k_is);(case kd_NUMBERED=>refine⟨by rfl,_,_,by k_is,?_⟩;repeat' (first | exact trivial | exact rfl | exact⟨_,rfl⟩ | exact⟨_,rfl,by k_is⟩ | refine And.intro ?_ ?_))
  (case xa_ANSWERS=>k_is);(case kd_ANSWERS=>refine⟨by rfl,_,_,by k_is,?_⟩;repeat' (first | exact trivial | exact rfl | exact⟨_,rfl⟩ | exact⟨_,rfl,by k_is⟩ | refine And.intro ?_ ?_))
  (case xa_TABLED=>k_is);(case kt_TABLED=>exists _,_,_,by k_is,rfl,rfl,DD;repeat' (first | exact .nil | refine .cons ⟨_,rfl⟩ ?_))
  all_goals try (exact⟨_,by k_is,by k_is,_,⟨_,_,_,_,_,_,_,_,_,rfl,by k_is,by k_is⟩,by k_is⟩)
  all_goals (exact⟨_,by k_is,_,⟨_,_,_,_,_,_,_,_,_,rfl,by k_is,by k_is⟩,by k_is⟩)
