import PyProof.Rows.All
import Wide.All
import OpenK.AllK
import Wide.FinOn
import Lean
import PyProof.EqAt
import PyProof.EqKinds
import PyProof.NeData
import PyProof.TupleCall
import KE.KRevIter
import KE.KRevSl
import PyProof.MinMaxWalk
import PyProof.ZipIter
import PyProof.Rows.Range3
import PyProof.Rows.CallKwBuiltin
import PyProof.DictWalks
import PyProof.ReprRoads
import PyProof.ReprLen
import PyProof.CallFns
import KE.KEqDict
import PyProof.P3In
import PyProof.MeetsDictList
import PyProof.Cells
import KE.KDictSum
import KE.KDictOf
import PyProof.Rows.SortWalk
import PySem.Challenge.RW_trudge_k91_deeds_told
set_option Elab.async false
set_option linter.all false
set_option maxRecDepth 100000
set_option genInjectivity false
set_option genSizeOf false
namespace L2
open PySem PySem.Spec PyProof.Rows
theorem el3 {α β γ:Type} {R T K:α→β→γ→Prop} {p:Prop} (h:∃a b c,R a b c∧T a b c∧K a b c) (f:∀a b c,R a b c→T a b c→K a b c→p):p:=h.elim fun a h=>h.elim fun b h=>h.elim fun c h=>f a b c h.1 h.2.1 h.2.2
theorem el5 {α β:Type} {R T K:α→β→Prop} {p:Prop} (h:∃a b,R a b∧T a b∧K a b) (f:∀a b,R a b→T a b→K a b→p):p:=h.elim fun a h=>h.elim fun b h=>f a b h.1 h.2.1 h.2.2
theorem el2 {α:Type} {A B:α→Prop} {p:Prop} (h:∃a,A a∧B a) (f:∀a,A a→B a→p):p:=h.elim fun a h=>f a h.1 h.2
abbrev Key:=Sum Int Str
def keyIs:Key→Value→Bool
 | .inl k,v=>Value.isInt k v
 | .inr x,v=>Value.isStrOf x v
def keyH (w:World):Key→Int
 | .inl k=>hashInt k
 | .inr x=>hashStr w x
theorem keyIs_shape:∀{k:Key} {v:Value},keyIs k v=true→(∃i t,k=Sum.inl i∧v=Value.int i t)∨(∃x t,k=Sum.inr x∧v=Value.str x t)
 | .inl i,v,h=>by
  obtain⟨t,e⟩:=Value.isInt_shape (k:=i) (v:=v) h
  exact .inl ⟨i,t,rfl,e⟩
 | .inr x,v,h=>by
  obtain⟨t,e⟩:=Value.isStrOf_shape (x:=x) (v:=v) h
  exact .inr ⟨x,t,rfl,e⟩
theorem keyIs_int (i:Int) (t:Tok):keyIs (.inl i) (.int i t)=true:=by simp [keyIs,Value.isInt]
theorem keyIs_str (x:Str) (t:Tok):keyIs (.inr x) (.str x t)=true:=by simp [keyIs,Value.isStrOf]
theorem key_ll (a b:Int):decide ((Sum.inl a:Key)=Sum.inl b)=(a == b):=by
 by_cases e:a=b
 ·subst e;simp
 ·have h:¬ (Sum.inl a:Key)=Sum.inl b:=fun q=>e (Sum.inl.inj q)
  rw[decide_eq_false h]
  exact (beq_eq_false_iff_ne.mpr e).symm
theorem key_rr (a b:Str):decide ((Sum.inr a:Key)=Sum.inr b)=decide (a=b):=by
 by_cases e:a=b
 ·subst e;simp
 ·have h:¬ (Sum.inr a:Key)=Sum.inr b:=fun q=>e (Sum.inr.inj q)
  rw[decide_eq_false h,decide_eq_false e]
theorem key_lr (a:Int) (b:Str):decide ((Sum.inl a:Key)=Sum.inr b)=false:=decide_eq_false (fun q=>nomatch q)
theorem key_rl (a:Str) (b:Int):decide ((Sum.inr a:Key)=Sum.inl b)=false:=decide_eq_false (fun q=>nomatch q)
def mixKind (prog:Program) (w:World):PySem.KeyKind prog w Key where
 is:=keyIs
 hash:=keyH w
 inj:=fun v a b ha hb=>by
  rcases keyIs_shape ha with ⟨i,t,rfl,rfl⟩ | ⟨x,t,rfl,rfl⟩
  ·rcases keyIs_shape hb with ⟨j,u,rfl,e⟩ | ⟨y,u,rfl,e⟩
   ·injection e with e1 _;rw[e1]
   ·exact nomatch e
  ·rcases keyIs_shape hb with ⟨j,u,rfl,e⟩ | ⟨y,u,rfl,e⟩
   ·exact nomatch e
   ·injection e with e1 _;rw[e1]
 byValue:=fun k v h=>by
  rcases keyIs_shape h with ⟨i,t,rfl,rfl⟩ | ⟨x,t,rfl,rfl⟩ <;> rfl
 pyHash:=fun hv h=>by
  rcases keyIs_shape hv with ⟨i,t,rfl,rfl⟩ | ⟨x,t,rfl,rfl⟩
  ·exact wpAny_pyHash_int h
  ·exact wpAny_pyHash_str h
 eqBool:=fun hu hv h=>by
  rcases keyIs_shape hu with ⟨i,t,rfl,rfl⟩ | ⟨x,t,rfl,rfl⟩
  ·rcases keyIs_shape hv with ⟨j,u,rfl,rfl⟩ | ⟨y,u,rfl,rfl⟩
   ·rw[key_ll] at h;exact wpAny_eqBool_int h
   ·rw[key_lr] at h;exact SeqAt.EqAt.int_str i t y u _ _ _ _ h
  ·rcases keyIs_shape hv with ⟨j,u,rfl,rfl⟩ | ⟨y,u,rfl,rfl⟩
   ·rw[key_rl] at h;exact SeqAt.EqAt.str_int x t j u _ _ _ _ h
   ·rw[key_rr] at h;exact wpAny_eqBool_str h
 «strs»:=fun k x t v h=>by
  rcases keyIs_shape h with ⟨i,u,rfl,e⟩ | ⟨y,u,rfl,e⟩
  ·exact nomatch e
  ·injection e with e1 _
   subst e1
   cases v <;> rfl
theorem mixKind_is (prog:Program) (w:World) (k:Key) (v:Value):(mixKind prog w).is k v=keyIs k v:=rfl
theorem mixKind_int (prog:Program) (w:World) (i:Int) (t:Tok):(mixKind prog w).is (.inl i) (.int i t)=true:=keyIs_int i t
theorem mixKind_str (prog:Program) (w:World) (x:Str) (t:Tok):(mixKind prog w).is (.inr x) (.str x t)=true:=keyIs_str x t
set_option genInjectivity true in
inductive V where
 | non | bl (b:Bool) | int (i:Int) | str (x:Str) | byt (b:Array UInt8) | flt (b:UInt64) | ref (a:Addr) | ty (n:String)
 deriving DecidableEq
def RelV:V→Value→Prop
 | .non,u=>u=Value.none
 | .bl b,u=>u=Value.bool b
 | .int i,u=>∃t,u=Value.int i t
 | .str x,u=>∃t,u=Value.str x t
 | .byt b,u=>∃t,u=Value.bytes b t
 | .flt b,u=>∃t,u=Value.float b t
 | .ref a,u=>u=Value.ref a
 | .ty n,u=>u=Value.type n
abbrev Vals:List V→List Value→Prop:=Paired RelV
theorem Vals.length {xs:List V} {us:List Value} (r:Vals xs us):xs.length=us.length:=Paired.length r
theorem Vals.get:∀{xs:List V} {us:List Value} {i:Nat} {x:V},Vals xs us→xs[i]?=some x→∃u,us[i]?=some u∧RelV x u
 | _,_,_,_,.nil,e=>by simp at e
 | _,_,0,_,.cons r _,e=>by simp at e;subst e;exact⟨_,rfl,r⟩
 | _,_,i + 1,x,.cons _ t,e=>by
  obtain⟨u,h1,h2⟩:=Vals.get (i:=i) (x:=x) t (by simpa using e)
  exact⟨u,by simpa using h1,h2⟩
theorem Vals.set {x:V} {u:Value} (r:RelV x u):∀{xs:List V} {us:List Value} (i:Nat),Vals xs us→Vals (xs.set i x) (us.set i u)
 | _,_,_,.nil=>.nil
 | _,_,0,.cons _ t=>.cons r t
 | _,_,i + 1,.cons q t=>.cons q (Vals.set r i t)
theorem Vals.append {xs ys:List V} {us ws:List Value} (h:Vals xs us) (s:Vals ys ws):Vals (xs++ys) (us++ws):=by
 induction h with
 | nil=>exact s
 | cons r t ih=>exact .cons r ih
theorem Vals.take:∀{xs:List V} {us:List Value} (n:Nat),Vals xs us→Vals (xs.take n) (us.take n)
 | _,_,0,_=>.nil
 | _,_,_ + 1,.nil=>.nil
 | _,_,n + 1,.cons r t=>.cons r (Vals.take n t)
theorem Vals.drop:∀{xs:List V} {us:List Value} (n:Nat),Vals xs us→Vals (xs.drop n) (us.drop n)
 | _,_,0,r=>r
 | _,_,_ + 1,.nil=>.nil
 | _,_,n + 1,.cons _ t=>Vals.drop n t
def RelO:Option V→Option Value→Prop
 | some v,some u=>RelV v u
 | none,none=>True
 | _,_=>False
def KV {κ:Type}:List (κ×V)→List (κ×Value)→Prop:=Paired fun (p:κ×V) (q:κ×Value)=>p.1=q.1∧RelV p.2 q.2
def kV:Key→V
 | .inl i=>.int i
 | .inr x=>.str x
inductive HO where
 | lst (xs:List V)
 | tup (xs:List V)
 | dK (kvs:List (Key×V)) | dT (kvs:List (List Key×V))
 | set (S:Int→Bool) (n:Nat)
 | ins (C dx:Addr) (fs:List (Str×V))
 | own (x:Addr)
 | xd (fs:List (Str×V))
 | met (f x:Addr)
 | rng (lo hi:Int)
 | frz (o:Obj) (u:HO)
 | tbl (ps:Array Value)
 | ext (φ:Heap→Prop)
abbrev Hp:=Addr→Option HO
def upd (H:Hp) (a:Addr) (o:HO):Hp:=fun b=>if b=a then some o else H b
theorem upd_same {H:Hp} {a:Addr} {o:HO}:upd H a o a=some o:=by unfold upd;rw[if_pos rfl]
theorem upd_ne {H:Hp} {a b:Addr} {o:HO} (h:b≠a):upd H a o b=H b:=by unfold upd;rw[if_neg h]
theorem ne_of {H:Hp} {a b:Addr} {o u:HO} (h:H a=some o) (h':H b=some u) (d:o≠u):a≠b:=by
 intro e;subst e;rw[h] at h';exact d (Option.some.inj h')
theorem ne_of_none {H:Hp} {a b:Addr} {o:HO} (h:H a=some o) (h':H b=none):a≠b:=by
 intro e;subst e;rw[h] at h';cases h'
section
variable (P:Program) (w:World)
def ObjOk (H:Hp) (h:Heap) (a:Addr):HO→Prop
 | .lst xs=>xs.length≤sizeLine∧∃(its:List Value) (n:Nat),Vals xs its∧h.get? a=some { cls:=.type "list",data:=.seq its.toArray n }
 | .tup xs=>xs.length≤sizeLine∧∃its:List Value,Vals xs its∧IsTup h a its.toArray
 | .dK kvs=>kvs.length≤sizeLine∧(a == sysModules)=false∧∃vs,KV kvs vs∧h.DictOf (mixKind P w) a vs
 | .dT kvs=>kvs.length≤sizeLine∧(a == sysModules)=false∧∃xs:List (List Key×Addr×Value),
   Paired (fun (p:List Key×V) (q:List Key×Addr×Value)=>p.1=q.1∧H q.2.1=some (.tup (p.1.map kV))∧RelV p.2 q.2.2) kvs xs∧
   ∃o es ep,h.get? a=some o∧o.ExactDict∧o.data=.dict es ep∧es.toList=xs.map (entryOfKey (tupleKind (mixKind P w)))∧(xs.map (·.1)).Nodup
 | .set S n=>h.SetOf (intKind P w) a S n
 | .ins C dx fs=>H dx=some (.own a)∧fs.length≤1000∧dx≠a∧h.get? a=some (PySem.W.instObj C dx)∧
   ∃mA,h.Ns1 dx mA∧(∀f,RelO (fs.lookup f) (mA f))∧PySem.Within mA (fs.map (·.1))
 | .own _=>∃o,h.get? a=some o
 | .xd fs=>∃mA,h.Ns1 a mA∧∀f,RelO (fs.lookup f) (mA f)
 | .rng lo hi=>∃t u v,h.get? a=some { cls:=.type "range",data:=.fields #[.int lo t,.int hi u,.int 1 v] }
 | .frz o u=>h.get? a=some o∧ObjOk H h a u
 | .tbl ps=>h.get? a=some { cls:=.none,data:=.fields ps }
 | .met f x=>h.get? a=some (PySem.W.methodObj (.ref f) (.ref x))
 | .ext φ=>φ h∧(∃o,h.get? a=some o)∧∀h1 h2:Heap,φ h1→(∀o,h1.get? a=some o→h2.get? a=some o)→φ h2
def HOk (H:Hp) (h:Heap):Prop:=∀a o,H a=some o→ObjOk P w H h a o
end
section
variable {P:Program} {w:World} {H H':Hp} {h h':Heap} {a:Addr} {o:HO}
theorem ObjOk.lt (x:ObjOk P w H h a o):a < h.objs.size:=by
 cases o with
 | lst xs=>obtain⟨_,_,_,_,e⟩:=x;exact Heap.lt_size e
 | tup xs=>obtain⟨_,_,_,p⟩:=x;exact p.lt
 | dK kvs=>obtain⟨_,_,_,_,o,_,_,e,_⟩:=x;exact Heap.lt_size e
 | dT kvs=>obtain⟨_,_,_,_,o,_,_,e,_⟩:=x;exact Heap.lt_size e
 | set S n=>obtain⟨o,_,_,_,e,_⟩:=x;exact Heap.lt_size e
 | ins C dx fs=>obtain⟨_,_,_,e,_⟩:=x;exact Heap.lt_size e
 | own y=>obtain⟨_,e⟩:=x;exact Heap.lt_size e
 | xd fs=>obtain⟨_,⟨_,_,_,e,_⟩,_⟩:=x;exact Heap.lt_size e
 | rng lo hi=>obtain⟨_,_,_,e⟩:=x;exact Heap.lt_size e
 | frz ob u=>obtain⟨e,_⟩:=x;exact Heap.lt_size e
 | tbl ps=>exact Heap.lt_size (show h.get? a=some _ from x)
 | met f y=>exact Heap.lt_size (show h.get? a=some _ from x)
 | ext φ=>obtain⟨_,⟨_,e⟩,_⟩:=x;exact Heap.lt_size e
theorem Paired.mapP {α β:Type} {F G:α→β→Prop} {l₁:List α} {l₂:List β} (h:Paired F l₁ l₂) (f:∀a b,F a b→G a b):Paired G l₁ l₂:=by
 induction h with
 | nil=>exact .nil
 | cons r t ih=>exact .cons (f _ _ r) ih
theorem ObjOk.stay (x:ObjOk P w H h a o) (k:∀b u,(b=a∨H b=some (.own a))→h.get? b=some u→h'.get? b=some u)
  (ho:∀b,H b=some (.own a)→H' b=some (.own a)) (ht:∀b xs,H b=some (.tup xs)→H' b=some (.tup xs)):ObjOk P w H' h' a o:=by
 induction o with
 | lst xs=>obtain⟨z,its,n,r,e⟩:=x;exact⟨z,its,n,r,k _ _ (.inl rfl) e⟩
 | tup xs=>obtain⟨z,its,r,ob,e,c⟩:=x;exact⟨z,its,r,ob,k _ _ (.inl rfl) e,c⟩
 | dK kvs=>obtain⟨z,y,vs,r,ob,es,ep,e,c⟩:=x;exact⟨z,y,vs,r,ob,es,ep,k _ _ (.inl rfl) e,c⟩
 | dT kvs=>
  obtain⟨z,y,xs,r,ob,es,ep,e,c⟩:=x
  exact⟨z,y,xs,Paired.mapP r fun p q z=>⟨z.1,ht _ _ z.2.1,z.2.2⟩,ob,es,ep,k _ _ (.inl rfl) e,c⟩
 | set S n=>obtain⟨ob,es,ep,t,e,c⟩:=x;exact⟨ob,es,ep,t,k _ _ (.inl rfl) e,c⟩
 | ins C dx fs=>
  obtain⟨d,z,ne,e,mA,⟨od,es,ep,e2,c⟩,r⟩:=x
  exact⟨ho _ d,z,ne,k _ _ (.inl rfl) e,mA,⟨od,es,ep,k _ _ (.inr d) e2,c⟩,r⟩
 | own y=>obtain⟨ob,e⟩:=x;exact⟨ob,k _ _ (.inl rfl) e⟩
 | xd fs=>obtain⟨mA,⟨od,es,ep,e,c⟩,r⟩:=x;exact⟨mA,⟨od,es,ep,k _ _ (.inl rfl) e,c⟩,r⟩
 | rng lo hi=>obtain⟨t,u,v,e⟩:=x;exact⟨t,u,v,k _ _ (.inl rfl) e⟩
 | frz ob u ih=>obtain⟨e,q⟩:=x;exact⟨k _ _ (.inl rfl) e,ih q⟩
 | tbl ps=>
  have e:h.get? a=some { cls:=.none,data:=.fields ps }:=x
  show h'.get? a=some { cls:=.none,data:=.fields ps }
  exact k a _ (.inl rfl) e
 | met f y=>
  have e:h.get? a=some (PySem.W.methodObj (.ref f) (.ref y)):=x
  show h'.get? a=some (PySem.W.methodObj (.ref f) (.ref y))
  exact k a _ (.inl rfl) e
 | ext φ=>obtain⟨p,⟨o,e⟩,st⟩:=x;exact⟨st _ _ p fun o q=>k _ _ (.inl rfl) q,⟨o,k _ _ (.inl rfl) e⟩,st⟩
theorem HOk.lt (x:HOk P w H h) (e:H a=some o):a < h.objs.size:=(x a o e).lt
theorem HOk.fresh (x:HOk P w H h) (e:h.objs.size≤a):H a=none:=by
 cases q:H a with
 | none=>rfl
 | some u=>exact absurd (Nat.lt_of_lt_of_le (x.lt q) e) (Nat.lt_irrefl _)
theorem HOk.kept (x:HOk P w H h) (k:∀b u,h.get? b=some u→h'.get? b=some u):HOk P w H h':=fun a o e=>
 (x a o e).stay (fun b u _ q=>k b u q) (fun _ q=>q) fun _ _ q=>q
theorem HOk.laid (x:HOk P w H h) (k:∀b u,h.get? b=some u→h'.get? b=some u) (hp:h.objs.size≤a) (new:ObjOk P w (upd H a o) h' a o):HOk P w (upd H a o) h':=fun b u e=>by
 have hn:=x.fresh hp
 by_cases hb:b=a
 ·subst hb;rw[upd_same] at e;cases e;exact new
 ·rw[upd_ne hb] at e
  exact (x b u e).stay (fun c v _ q=>k c v q) (fun c q=>by rw[upd_ne (ne_of_none q hn)];exact q) fun c xs q=>by rw[upd_ne (ne_of_none q hn)];exact q
end
def Rd (H:Hp) (a:Addr) (u:HO):Prop:=H a=some u∨∃o,H a=some (.frz o u)
theorem Rd.ok {P:Program} {w:World} {H:Hp} {h:Heap} {a:Addr} {u:HO} (r:Rd H a u) (x:HOk P w H h):ObjOk P w H h a u:=by
 rcases r with r | ⟨o,r⟩
 ·exact x a u r
 ·obtain⟨_,q⟩:=x a _ r
  exact q
def Mut:Option HO→Prop
 | some (.lst _)=>True
 | some (.dK _)=>True
 | some (.dT _)=>True
 | some (.set _ _)=>True
 | some (.ins _ _ _)=>True
 | some (.ext _)=>True
 | _=>False
section
variable {P:Program} {w:World} {H:Hp} {h h':Heap} {x e:Addr} {o':HO}
theorem HOk.write (ok:HOk P w H h) (mu:Mut (H x)) (he:e=x∨H e=some (.own x)) (k:∀b u,b≠e→h.get? b=some u→h'.get? b=some u) (heo:∃u,h'.get? e=some u)
  (new:ObjOk P w (upd H x o') h' x o'):HOk P w (upd H x o') h':=fun b u q=>by
 have nown:∀c y,H c=some (.own y)→c≠x:=fun c y r z=>by subst z;rw[r] at mu;exact mu
 have ntup:∀c xs,H c=some (.tup xs)→c≠x:=fun c xs r z=>by subst z;rw[r] at mu;exact mu
 by_cases hb:b=x
 ·subst hb;rw[upd_same] at q;cases q;exact new
 ·rw[upd_ne hb] at q
  by_cases hbe:b=e
  ·have q':H b=some (.own x):=by
    rcases he with z | z
    ·exact absurd (hbe.trans z) hb
    ·rw[hbe];exact z
   rw[q] at q';cases q'
   obtain⟨v,hv⟩:=heo
   exact⟨v,by rw[hbe];exact hv⟩
  ·refine (ok b u q).stay (fun c v hc r=>k c v ?_ r) (fun c r=>by rw[upd_ne (nown c b r)];exact r) fun c xs r=>by rw[upd_ne (ntup c xs r)];exact r
   rcases hc with rfl | hc
   ·exact hbe
   ·rintro rfl
    rcases he with z | z
    ·exact nown c b hc z
    ·rw[hc] at z;cases z;exact hb rfl
end
structure Un (fs ex:List Addr) (H H':Hp) (h h':Heap):Prop where
 keep:∀b o,h.get? b=some o→H b=none→b∉fs→b∉ex→h'.get? b=some o
 slot:∀b o,h.get? b=some o→H b=none→b∈fs→b∉ex→∃sl,h'.get? b=some { o with slots:=sl }
 free:∀b o,h.get? b=some o→H b=none→b∉ex→H' b=none
 there:∀b o,h.get? b=some o→b∉ex→∃o',h'.get? b=some o'
 tups:∀b xs,H b=some (.tup xs)→H' b=some (.tup xs)
 frzs:∀b o u,H b=some (.frz o u)→H' b=some (.frz o u)
 tbls:∀b ps,H b=some (.tbl ps)→∃more,H' b=some (.tbl (ps++more))
section
variable {fs fs' ex ex':List Addr} {H H1 H2:Hp} {h h1 h2 h':Heap} {a x e:Addr} {o:HO}
theorem Un.any (u:Un fs ex H H1 h h1) {b:Addr} {ob:Obj} (q:h.get? b=some ob) (n:H b=none) (hx:b∉ex):∃sl,h1.get? b=some { ob with slots:=sl }:=by
 by_cases hb:b∈fs
 ·exact u.slot b ob q n hb hx
 ·exact⟨ob.slots,u.keep b ob q n hb hx⟩
theorem Un.kept (k:∀b u,h.get? b=some u→h'.get? b=some u):Un fs ex H H h h':=
 ⟨fun b ob q _ _ _=>k b ob q,fun b ob q _ _ _=>⟨ob.slots,k b ob q⟩,fun _ _ _ n _=>n,fun b ob q _=>⟨ob,k b ob q⟩,fun _ _ q=>q,fun _ _ _ q=>q,fun _ ps q=>⟨#[],by rw[q];simp⟩⟩
theorem Un.refl:Un fs ex H H h h:=Un.kept fun _ _ q=>q
theorem Un.laid (k:∀b u,h.get? b=some u→h'.get? b=some u) (hp:h.objs.size≤a) (hn:H a=none):Un fs ex H (upd H a o) h h' where
 keep:=fun b u q _ _ _=>k b u q
 slot:=fun b u q _ _ _=>⟨u.slots,k b u q⟩
 free:=fun b u q n _=>by rw[upd_ne (Nat.ne_of_lt (Nat.lt_of_lt_of_le (Heap.lt_size q) hp))];exact n
 there:=fun b u q _=>⟨u,k b u q⟩
 tups:=fun b xs q=>by rw[upd_ne (ne_of_none q hn)];exact q
 frzs:=fun b u xs q=>by rw[upd_ne (ne_of_none q hn)];exact q
 tbls:=fun b ps q=>⟨#[],by rw[upd_ne (ne_of_none q hn),q];simp⟩
theorem Un.write (mu:Mut (H x)) (he:e=x∨H e=some (.own x)) (k:∀b u,b≠e→h.get? b=some u→h'.get? b=some u) (heo:∃u,h'.get? e=some u):Un fs ex H (upd H x o) h h':=by
 have hx:∀b,H b=none→b≠x:=fun b n z=>by subst z;rw[n] at mu;exact mu
 have hb:∀b,H b=none→b≠e:=fun b n z=>by
  subst z
  rcases he with r | r
  ·exact hx b n r
  ·rw[n] at r;cases r
 have hm:∀b u,H b=some u→¬ Mut (some u)→b≠x:=fun b u q nm z=>by subst z;rw[q] at mu;exact nm mu
 refine⟨fun b u q n _ _=>k b u (hb b n) q,fun b u q n _ _=>⟨u.slots,k b u (hb b n) q⟩,fun b u q n _=>by rw[upd_ne (hx b n)];exact n,fun b u q _=>?_,
  fun b xs q=>by rw[upd_ne (hm b _ q fun z=>z)];exact q,fun b u xs q=>by rw[upd_ne (hm b _ q fun z=>z)];exact q,fun b ps q=>⟨#[],by rw[upd_ne (hm b _ q fun z=>z),q];simp⟩⟩
 by_cases hbe:b=e
 ·subst hbe;exact heo
 ·exact⟨u,k b u hbe q⟩
end
def trk (h:Heap) (H:Hp):List Addr:=(List.range h.objs.size).filter fun a=>(H a).isSome
def hidT (h:Heap) (H:Hp):Heap:=PySem.W.hideAll h (trk h H)
theorem hidT_size (h:Heap) (H:Hp):(hidT h H).objs.size=h.objs.size:=PySem.W.hideAll_size _ _
theorem hidT_get {h:Heap} {H:Hp} {b:Addr} {o:Obj} (e:h.get? b=some o) (n:H b=none):(hidT h H).get? b=some o:=
 PySem.W.hideAll_get _ e fun hm=>by
  have q:(H b).isSome=true:=(List.mem_filter.mp hm).2
  rw[n] at q;simp at q
theorem of_hidT {h:Heap} {H:Hp} {b:Addr} {o:Obj} (e:(hidT h H).get? b=some o):h.get? b=some o∧H b=none:=by
 have e':h.get? b=some o:=PySem.W.of_hideAll (trk h H) e
 refine⟨e',?_⟩
 cases q:H b with
 | none=>rfl
 | some x=>
  have hm:b∈trk h H:=List.mem_filter.mpr ⟨List.mem_range.mpr (Heap.lt_size e'),by simp [q]⟩
  have z:(hidT h H).get? b=none:=PySem.W.hideAll_none (trk h H) hm
  rw[z] at e;cases e
def allNews (g h:Heap) (L:Addr):List (Addr×Obj):=(List.range h.objs.size).filterMap fun a=>if a=L∨(g.get? a).isSome=true then none else (h.get? a).map fun o=>(a,o)
def rest (g h:Heap) (L d:Addr):List (Addr×Obj):=(allNews g h L).filter fun p=>decide (p.1≠d)
structure Mod (K:PySem.W.Frag) (mg:Str→Option Value) (base:Heap):Prop where
 kin:K.In base
 glob:base.Ns mainGlobals mg
 blt:∃mb,base.Ns builtinsNs mb∧∀x:Str,x≠ "__name__" →mb x=bootBuiltins x
 nolimit:base.NoLimit
structure Cx where
 prog:Program
 w:World
 K:PySem.W.Frag
 mg:Str→Option Value
 base:Heap
 A:Around
 N:List Str
 s₀:Shared
 H₀:Hp
 env:Env
 outer:List Env
 stack:List Env
 ex:List Addr
 fn:Str→Bool
 calm:Bool
 pn:List (Addr×Obj)
 xe:Value→Shared→Prop
def frs (l:List Env):List Addr:=l.filterMap (·.frame)
abbrev Cx.fs (X:Cx):List Addr:=frs X.outer
def Vis (sc:Scope) (x:Str):Prop:=sc.names.lookup x=some .local∨sc.names.lookup x=some .cell∨sc.names.lookup x=some .free
def Loc (sc:Scope) (x:Str):Prop:=sc.names.lookup x=some .local∨sc.names.lookup x=some .cell
def Look (env:Env) (h:Heap) (m:Str→Option Value) (x:Str) (u:Value):Prop:=
 (env.kindOf x=some .local∧m x=some u)∨((env.kindOf x=some .cell∨env.kindOf x=some .free)∧∃c,env.cells.lookup x=some c∧h.IsCell c (some u))
structure Cx.Ok (X:Cx):Prop where
 mod:Mod X.K X.mg X.base
 kind:X.env.scope.kind=.function
 glob:X.env.globals=mainGlobals
 blt:X.env.builtins=builtinsNs
 above:X.s₀.heap.objs.size≤X.env.locals
 inj:∀x y c,X.env.cells.lookup x=some c→X.env.cells.lookup y=some c→x=y
 has:∀x,(X.env.kindOf x=some .cell∨X.env.kindOf x=some .free)→∃c,X.env.cells.lookup x=some c
 cab:∀x c,X.fn x=true→X.env.cells.lookup x=some c→X.s₀.heap.objs.size≤c
 hd:X.calm=true→X.A.handled=none
 frames:X.A.frames=some X.stack
 stk:X.stack=X.outer∨(X.stack=X.env::X.outer∧X.env.frame=some X.env.locals)
 exf:∀b∈X.ex,b≠X.env.locals∧∀x c,X.env.cells.lookup x=some c→c≠b
 bs:∀b o,X.base.get? b=some o→X.s₀.heap.get? b=some o∧X.H₀ b=none
 bsz:X.base.objs.size≤X.s₀.heap.objs.size
 noex:∀b o,X.base.get? b=some o→b∉X.ex
 exfs:∀b∈X.ex,b∉X.fs
 funs:X.s₀.heap.FunFrames X.base X.outer
 frf:∀b∈X.fs,X.H₀ b=none
structure Inv (X:Cx) (pins:List (Addr×Obj)) (σ:List (Option V)) (H:Hp) (s:Shared):Prop where
 ok:X.Ok
 os:s.os=X.s₀.os
 bare:AllBare s.gens
 base:Un X.fs X.ex X.H₀ H X.s₀.heap s.heap
 loc:∃m,s.heap.Ns X.env.locals m∧∀(i:Nat) (x:Str) (v:V),X.N[i]?=some x→σ[i]?=some (some v)→Vis X.env.scope x→∃u,RelV v u∧Look X.env s.heap m x u
 cell:∀x c,X.env.cells.lookup x=some c→∃v,s.heap.IsCell c v
 free:H X.env.locals=none
 freeC:∀x c,X.env.cells.lookup x=some c→H c=none
 pin:∀p∈X.pn++pins,s.heap.get? p.1=some p.2∧H p.1=none∧p.1≠X.env.locals∧p.1∉X.fs∧∀v,p.2.data≠.cell v
 hok:HOk X.prog X.w H s.heap
 len:σ.length=X.N.length
section
variable {X:Cx} {pins:List (Addr×Obj)} {σ:List (Option V)} {H H':Hp} {s:Shared} {h':Heap}
theorem Cx.Ok.nofr (ok:X.Ok) {b:Addr} {o:Obj} (e:X.base.get? b=some o):b∉X.fs:=fun hb=>by
 have:=(ok.funs.mem hb).1
 rw[e] at this;cases this
theorem Inv.bs (I:Inv X pins σ H s):∀b o,X.base.get? b=some o→s.heap.get? b=some o∧H b=none:=fun b o e=>
 ⟨I.base.keep b o (I.ok.bs b o e).1 (I.ok.bs b o e).2 (I.ok.nofr e) (I.ok.noex b o e),I.base.free b o (I.ok.bs b o e).1 (I.ok.bs b o e).2 (I.ok.noex b o e)⟩
theorem Inv.bk (I:Inv X pins σ H s):∀b o,X.base.get? b=some o→s.heap.get? b=some o:=fun b o e=>(I.bs b o e).1
theorem Inv.mod (I:Inv X pins σ H s):Mod X.K X.mg X.base:=I.ok.mod
theorem Inv.kIn (I:Inv X pins σ H s):X.K.In s.heap:=I.ok.mod.kin.keeps I.bk
theorem Inv.lt (I:Inv X pins σ H s):X.env.locals < s.heap.objs.size:=let ⟨_,hn,_⟩:=I.loc;hn.lt
theorem Inv.sz (I:Inv X pins σ H s):X.s₀.heap.objs.size≤s.heap.objs.size:=Nat.le_trans I.ok.above (Nat.le_of_lt I.lt)
theorem Inv.nofs (I:Inv X pins σ H s) {a:Addr} (h:s.heap.objs.size≤a):a∉X.fs:=fun hb=>by
 obtain⟨_,o,ho,_⟩:=I.ok.funs.mem hb
 exact absurd (Nat.lt_of_lt_of_le (Heap.lt_size ho) (Nat.le_trans I.sz h)) (Nat.lt_irrefl _)
theorem Inv.cne (I:Inv X pins σ H s):∀x c,X.env.cells.lookup x=some c→c≠X.env.locals:=fun x c e z=>by
 obtain⟨v,o,ho,hd⟩:=I.cell x c e
 obtain⟨m,⟨o',es,ep,ho',hd',_⟩,_⟩:=I.loc
 rw[z,ho'] at ho;cases ho;rw[hd'] at hd;cases hd
theorem Inv.funs (I:Inv X pins σ H s):s.heap.FunFrames X.base X.outer:=by
 have all:∀(l:List Env),(∀b∈frs l,b∈X.fs)→X.s₀.heap.FunFrames X.base l→s.heap.FunFrames X.base l:=by
  intro l
  induction l with
  | nil=>intro _ _;trivial
  | cons env r ih=>
   intro hs hl
   obtain⟨hk,⟨L,o,hf,hn,ho,hd⟩,hr⟩:=hl
   have hL:L∈X.fs:=hs L (by unfold frs;rw[List.filterMap_cons,hf];exact List.mem_cons_self)
   obtain⟨sl,e⟩:=I.base.slot L o ho (I.ok.frf L hL) hL fun z=>I.ok.exfs L z hL
   exact⟨hk,⟨L,_,hf,hn,e,hd⟩,ih (fun b hb=>hs b (by unfold frs;rw[List.filterMap_cons,hf];exact List.mem_cons_of_mem _ hb)) hr⟩
 exact all X.outer (fun _ hb=>hb) I.ok.funs
theorem Inv.stack (I:Inv X pins σ H s):s.heap.FunFrames X.base X.stack:=by
 rcases I.ok.stk with e | ⟨e,hf⟩
 ·rw[e];exact I.funs
 ·rw[e]
  obtain⟨m,hn,_⟩:=I.loc
  refine .cons (by rw[I.ok.kind];decide) hf hn ?_ I.funs
  exact Heap.get?_none_of_le (Nat.le_trans I.ok.bsz I.ok.above)
theorem Inv.stkSub (I:Inv X pins σ H s):∀b∈frs X.stack,b∈X.env.locals::X.fs:=fun b hb=>by
 rcases I.ok.stk with e | ⟨e,hf⟩
 ·rw[e] at hb;exact List.mem_cons_of_mem _ hb
 ·rw[e] at hb
  unfold frs at hb
  rw[List.filterMap_cons,hf] at hb
  exact hb
theorem Inv.stkFree (I:Inv X pins σ H s):∀b∈frs X.stack,H b=none:=fun b hb=>by
 rcases List.mem_cons.mp (I.stkSub b hb) with e | hb
 ·rw[e];exact I.free
 ·obtain⟨_,o,ho,_⟩:=I.ok.funs.mem hb
  exact I.base.free b o ho (I.ok.frf b hb) fun z=>I.ok.exfs b z hb
theorem Inv.step {g':Array GenState} {t':Nat} {d':Drawn} {ch:List Addr} (I:Inv X pins σ H s)
  (hch:∀b∈ch,(b∈X.ex∨X.s₀.heap.objs.size≤b)∧b≠X.env.locals∧(∀x c,X.env.cells.lookup x=some c→c≠b)∧∀p∈X.pn++pins,p.1≠b)
  (keep:∀b o,b≠X.env.locals→b∉X.fs→b∉ch→s.heap.get? b=some o→H b=none→h'.get? b=some o)
  (slot:∀b o,b≠X.env.locals→b∈X.fs→b∉ch→s.heap.get? b=some o→H b=none→∃sl,h'.get? b=some { o with slots:=sl }) (free:∀b o,b∉ch→s.heap.get? b=some o→H b=none→H' b=none)
  (there:∀b o,b∉ch→s.heap.get? b=some o→∃o',h'.get? b=some o')
  (tups:∀b xs,H b=some (.tup xs)→H' b=some (.tup xs)) (frzs:∀b o u,H b=some (.frz o u)→H' b=some (.frz o u)) (tbls:∀b ps,H b=some (.tbl ps)→∃more,H' b=some (.tbl (ps++more)))
  (ns:∀m,s.heap.Ns X.env.locals m→h'.Ns X.env.locals m) (hok:HOk X.prog X.w H' h') (hg:AllBare g') :
  Inv X pins σ H' { s with heap:=h',gens:=g',drawn:=d',toks:=t' }:=by
 have neL:∀b o,X.s₀.heap.get? b=some o→b≠X.env.locals:=fun b o e=>Nat.ne_of_lt (Nat.lt_of_lt_of_le (Heap.lt_size e) I.ok.above)
 have neC:∀b o,X.s₀.heap.get? b=some o→b∉X.ex→b∉ch:=fun b o e hx hb=>by
  rcases (hch b hb).1 with z | z
  ·exact hx z
  ·exact absurd (Nat.lt_of_lt_of_le (Heap.lt_size e) z) (Nat.lt_irrefl _)
 have cellK:∀x c,X.env.cells.lookup x=some c→∀v,s.heap.IsCell c v→h'.IsCell c v:=fun x c e v zz1=>el2 zz1 fun o ho hd=>by
  have nch:c∉ch:=fun z=>(hch c z).2.2.1 x c e rfl
  by_cases hc:c∈X.fs
  ·obtain⟨sl,q⟩:=slot c o (I.cne x c e) hc nch ho (I.freeC x c e)
   exact⟨_,q,hd⟩
  ·exact⟨o,keep c o (I.cne x c e) hc nch ho (I.freeC x c e),hd⟩
 refine⟨I.ok,I.os,hg,⟨fun b o e n hb hx=>?_,fun b o e n hb hx=>?_,fun b o e n hx=>?_,fun b o e hx=>?_,fun b xs e=>tups b xs (I.base.tups b xs e),fun b o xs e=>frzs b o xs (I.base.frzs b o xs e),fun b ps e=>?_⟩,?_,fun x c e=>?_,?_,fun x c e=>?_,fun p hp=>?_,hok,I.len⟩
 ·exact keep b o (neL b o e) hb (neC b o e hx) (I.base.keep b o e n hb hx) (I.base.free b o e n hx)
 ·obtain⟨sl,e1⟩:=I.base.slot b o e n hb hx
  obtain⟨sl',e2⟩:=slot b _ (neL b o e) hb (neC b o e hx) e1 (I.base.free b o e n hx)
  exact⟨sl',e2⟩
 ·obtain⟨o',e1⟩:=I.base.there b o e hx
  exact free b o' (neC b o e hx) e1 (I.base.free b o e n hx)
 ·obtain⟨o',e1⟩:=I.base.there b o e hx
  exact there b o' (neC b o e hx) e1
 ·obtain⟨m1,e1⟩:=I.base.tbls b ps e
  obtain⟨m2,e2⟩:=tbls b _ e1
  exact⟨m1++m2,by rw[e2,Array.append_assoc]⟩
 ·obtain⟨m,hn,hl⟩:=I.loc
  refine⟨m,ns m hn,fun i x v e1 e2 e3=>?_⟩
  obtain⟨u,r,l⟩:=hl i x v e1 e2 e3
  refine⟨u,r,?_⟩
  rcases l with l | ⟨k,c,e,z⟩
  ·exact .inl l
  ·exact .inr ⟨k,c,e,cellK x c e _ z⟩
 ·obtain⟨v,z⟩:=I.cell x c e
  exact⟨v,cellK x c e v z⟩
 ·obtain⟨m,⟨o,_,_,ho,_⟩,_⟩:=I.loc
  exact free _ o (fun z=>(hch _ z).2.1 rfl) ho I.free
 ·obtain⟨v,o,ho,hd⟩:=I.cell x c e
  exact free c o (fun z=>(hch c z).2.2.1 x c e rfl) ho (I.freeC x c e)
 ·obtain⟨e,n,ne,nf,d⟩:=I.pin p hp
  have nch:p.1∉ch:=fun z=>(hch p.1 z).2.2.2 p hp rfl
  exact⟨keep p.1 p.2 ne nf nch e n,free p.1 p.2 nch e n,ne,nf,d⟩
theorem Inv.un {t':Nat} (I:Inv X pins σ H s) (u:Un X.fs [] H H' s.heap h') (hok:HOk X.prog X.w H' h'):Inv X pins σ H' { s with heap:=h',toks:=t' }:=by
 obtain⟨m,⟨o,es,ep,ho,r⟩,_⟩:=id I.loc
 obtain⟨sl,hL⟩:=u.any ho I.free (by simp)
 exact I.step (g':=s.gens) (d':=s.drawn) (ch:=[]) (fun _ z=>nomatch z) (fun b o _ hb _ e n=>u.keep b o e n hb (by simp)) (fun b o _ hb _ e n=>u.slot b o e n hb (by simp)) (fun b o _ e n=>u.free b o e n (by simp)) (fun b o _ e=>u.there b o e (by simp)) u.tups u.frzs u.tbls (fun m' hm=>by
  obtain⟨o',es',ep',ho',r'⟩:=hm
  rw[ho] at ho';cases ho'
  exact⟨_,es',ep',hL,r'⟩) hok I.bare
theorem Inv.call {g':Array GenState} {t':Nat} {d':Drawn} {ch:List Addr} (I:Inv X pins σ H s) (u:Un (frs X.stack) ch H H' s.heap h') (hok:HOk X.prog X.w H' h') (hg:AllBare g')
  (hch:∀b∈ch,(b∈X.ex∨X.s₀.heap.objs.size≤b)∧b≠X.env.locals∧(∀x c,X.env.cells.lookup x=some c→c≠b)∧∀p∈X.pn++pins,p.1≠b) :
  Inv X pins σ H' { s with heap:=h',gens:=g',drawn:=d',toks:=t' }:=by
 obtain⟨m,⟨o,es,ep,ho,r⟩,_⟩:=id I.loc
 obtain⟨sl,hL⟩:=u.any ho I.free fun z=>(hch _ z).2.1 rfl
 exact I.step (ch:=ch) hch (fun b o hL hb hc e n=>u.keep b o e n (fun z=>(List.mem_cons.mp (I.stkSub b z)).elim hL hb) hc) (fun b o _ _ hc e n=>u.any e n hc) (fun b o hc e n=>u.free b o e n hc) (fun b o hc e=>u.there b o e hc) u.tups u.frzs u.tbls (fun m' hm=>by
  obtain⟨o',es',ep',ho',r'⟩:=hm
  rw[ho] at ho';cases ho'
  exact⟨_,es',ep',hL,r'⟩) hok hg
theorem Inv.turned {t':Nat} {it:Addr} (I:Inv X pins σ H s) (k:∀b o,b≠it→s.heap.get? b=some o→h'.get? b=some o) (hn:H it=none) (hL:it≠X.env.locals)
  (h1:it∈X.ex∨X.s₀.heap.objs.size≤it) (h2:∀x c,X.env.cells.lookup x=some c→c≠it) (h3:∀p∈X.pn++pins,p.1≠it):Inv X pins σ H { s with heap:=h',toks:=t' }:=by
 have nit:∀b u,H b=some u→b≠it:=fun b u e z=>by rw[z,hn] at e;cases e
 refine I.step (g':=s.gens) (d':=s.drawn) (ch:=[it]) (fun b hb=>?_) (fun b o _ _ hc e _=>k b o (fun z=>hc (by simp [z])) e) (fun b o _ _ hc e _=>⟨o.slots,k b o (fun z=>hc (by simp [z])) e⟩) (fun _ _ _ _ n=>n)
  (fun b o hc e=>⟨o,k b o (fun z=>hc (by simp [z])) e⟩) (fun _ _ e=>e) (fun _ _ _ e=>e) (fun b ps e=>⟨#[],by rw[e];simp⟩) (fun m hm=>?_) (fun b u e=>?_) I.bare
 ·have e:b=it:=by simpa using hb
  subst e
  exact⟨h1,hL,h2,h3⟩
 ·obtain⟨o,es,ep,ho,r⟩:=hm
  exact⟨o,es,ep,k _ o (Ne.symm hL) ho,r⟩
 ·refine (I.hok b u e).stay (fun c v hc q=>k c v ?_ q) (fun _ q=>q) fun _ _ q=>q
  rcases hc with z | z
  ·rw[z];exact nit b u e
  ·exact nit c _ z
theorem Inv.tok (I:Inv X pins σ H s) (t:Nat):Inv X pins σ H { s with toks:=t }:=I.un (h':=s.heap) (t':=t) Un.refl I.hok
theorem Inv.kept {t':Nat} (I:Inv X pins σ H s) (k:∀b u,s.heap.get? b=some u→h'.get? b=some u):Inv X pins σ H { s with heap:=h',toks:=t' }:=I.un (Un.kept k) (I.hok.kept k)
theorem Inv.laid {a:Addr} {o:HO} {t':Nat} (I:Inv X pins σ H s) (k:∀b u,s.heap.get? b=some u→h'.get? b=some u) (hp:s.heap.objs.size≤a) (new:ObjOk X.prog X.w (upd H a o) h' a o) :
  Inv X pins σ (upd H a o) { s with heap:=h',toks:=t' }:=I.un (Un.laid k hp (I.hok.fresh hp)) (I.hok.laid k hp new)
theorem Inv.write {x e:Addr} {o:HO} {t':Nat} (I:Inv X pins σ H s) (mu:Mut (H x)) (he:e=x∨H e=some (.own x)) (k:∀b u,b≠e→s.heap.get? b=some u→h'.get? b=some u) (heo:∃u,h'.get? e=some u)
  (new:ObjOk X.prog X.w (upd H x o) h' x o):Inv X pins σ (upd H x o) { s with heap:=h',toks:=t' }:=I.un (Un.write mu he k heo) (I.hok.write mu he k heo new)
theorem Inv.weak {σ':List (Option V)} (I:Inv X pins σ H s) (hl:σ'.length=σ.length) (w:∀(i:Nat) v,σ'[i]?=some (some v)→σ[i]?=some (some v)):Inv X pins σ' H s:=
 ⟨I.ok,I.os,I.bare,I.base,let ⟨m,hn,hl'⟩:=I.loc;⟨m,hn,fun i x v e1 e2 e3=>hl' i x v e1 (w i v e2) e3⟩,I.cell,I.free,I.freeC,I.pin,I.hok,hl.trans I.len⟩
theorem Inv.pins_of {pins':List (Addr×Obj)} (I:Inv X pins σ H s) (h:∀p∈pins',s.heap.get? p.1=some p.2∧H p.1=none∧p.1≠X.env.locals∧p.1∉X.fs∧∀v,p.2.data≠.cell v):Inv X pins' σ H s:=
 ⟨I.ok,I.os,I.bare,I.base,I.loc,I.cell,I.free,I.freeC,fun p hp=>(List.mem_append.mp hp).elim (fun z=>I.pin p (List.mem_append_left _ z)) (h p),I.hok,I.len⟩
theorem nodup_ix {N:List Str} (hN:N.Nodup) {i j:Nat} {x:Str} (a:N[i]?=some x) (b:N[j]?=some x):i=j:=by
 obtain⟨h1,e1⟩:=List.getElem?_eq_some_iff.mp a
 obtain⟨h2,e2⟩:=List.getElem?_eq_some_iff.mp b
 exact (List.getElem_inj hN).mp (e1.trans e2.symm)
theorem store_ok2 {M:Model} {A:Around} {E:Value→Shared→Prop} {i:Nat} {x:Str} {v:V} {u:Value} {Q:Unit→Shared→Prop} (I:Inv X pins σ H s) (hN:X.N.Nodup) (hi:X.N[i]?=some x) (hx:Loc X.env.scope x) (r:RelV v u)
  (h:∀s',Inv X pins (σ.set i (some v)) H s'→(∃a,Heap.SameBut a s.heap s'.heap∧(a=X.env.locals∨X.env.cells.lookup x=some a))→Q () s') (hf:X.fn x=true∨X.env.scope.names.lookup x=some .local:=by first | exact .inl rfl | exact .inr rfl | assumption):wpAny M A (storeName X.env x u) Q E s:=by
 obtain⟨m,hn,hl⟩:=id I.loc
 have hcls:(X.env.scope.kind == .class||(X.env.scope.kind == .module&&X.env.locals != X.env.globals))=false:=by rw[I.ok.kind];rfl
 have hiσ:i < σ.length:=by rw[I.len];exact (List.getElem?_eq_some_iff.mp hi).1
 have cne:=I.cne
 have tracked:∀{a:Addr} {h':Heap},(∃o,s.heap.get? a=some o∧H a=none)→Heap.SameBut a s.heap h'→HOk X.prog X.w H h':=fun {a h'} ha hs b ob e=>by
  obtain⟨_,_,hfree⟩:=ha
  refine (I.hok b ob e).stay (fun c w' hc q=>(hs.2 c ?_).trans q) (fun _ q=>q) fun _ _ q=>q
  rintro rfl
  rcases hc with rfl | hc
  ·rw[hfree] at e;cases e
  ·rw[hfree] at hc;cases hc
 rcases hx with hk | hk
 ·refine wpAny_storeName_local hk hn (fun h' hn' hs=>?_) hcls
  obtain⟨oL,_,_,hoL,_⟩:=id hn
  refine h _ ⟨I.ok,I.os,I.bare,⟨fun b o e n hb hx=>?_,fun b o e n hb hx=>?_,I.base.free,fun b o e hx=>?_,I.base.tups,I.base.frzs,I.base.tbls⟩,⟨_,hn',fun j y v' e1 e2 e3=>?_⟩,fun y c e=>?_,I.free,I.freeC,fun p hp=>?_,tracked ⟨oL,hoL,I.free⟩ hs,by simpa using I.len⟩ ⟨_,hs,.inl rfl⟩
  ·exact (hs.2 b (Nat.ne_of_lt (Nat.lt_of_lt_of_le (Heap.lt_size e) I.ok.above))).trans (I.base.keep b o e n hb hx)
  ·obtain⟨sl,e1⟩:=I.base.slot b o e n hb hx
   exact⟨sl,(hs.2 b (Nat.ne_of_lt (Nat.lt_of_lt_of_le (Heap.lt_size e) I.ok.above))).trans e1⟩
  ·obtain⟨o',e1⟩:=I.base.there b o e hx
   exact⟨o',(hs.2 b (Nat.ne_of_lt (Nat.lt_of_lt_of_le (Heap.lt_size e) I.ok.above))).trans e1⟩
  ·by_cases hj:j=i
   ·subst hj
    rw[hi] at e1;cases e1
    rw[List.getElem?_set_self hiσ] at e2
    cases e2
    exact⟨u,r,.inl ⟨hk,by simp⟩⟩
   ·rw[List.getElem?_set_ne (Ne.symm hj)] at e2
    obtain⟨u',r',q⟩:=hl j y v' e1 e2 e3
    refine⟨u',r',?_⟩
    rcases q with ⟨k,e⟩ | ⟨k,c,e,z⟩
    ·refine .inl ⟨k,?_⟩
     have:y≠x:=fun e=>hj (nodup_ix hN e1 (e▸hi))
     simp [this,e]
    ·exact .inr ⟨k,c,e,z.sameBut hs (cne y c e)⟩
  ·obtain⟨w',z⟩:=I.cell y c e
   exact⟨w',z.sameBut hs (cne y c e)⟩
  ·obtain⟨e,n,ne,nf,d⟩:=I.pin p hp
   exact⟨(hs.2 p.1 ne).trans e,n,ne,nf,d⟩
 ·have hfn:X.fn x=true:=by
   rcases hf with z | z
   ·exact z
   ·rw[z] at hk;cases hk
  obtain⟨c,hc⟩:=I.ok.has x (.inl hk)
  obtain⟨w',z⟩:=I.cell x c hc
  refine wpAny_storeName_cell I.ok.kind hk hc z (fun h' hc' hs=>?_)
  obtain⟨oc,hoc,hocd⟩:=id z
  refine h { s with heap:=h' } ⟨I.ok,I.os,I.bare,⟨fun b o e n hb hx=>?_,fun b o e n hb hx=>?_,I.base.free,fun b o e hx=>?_,I.base.tups,I.base.frzs,I.base.tbls⟩,⟨m,hn.sameBut hs (Ne.symm (cne x c hc)),fun j y v' e1 e2 e3=>?_⟩,fun y c' e=>?_,I.free,I.freeC,fun p hp=>?_,tracked ⟨oc,hoc,I.freeC x c hc⟩ hs,by simpa using I.len⟩ ⟨c,hs,.inr hc⟩
  ·exact (hs.2 b (Nat.ne_of_lt (Nat.lt_of_lt_of_le (Heap.lt_size e) (I.ok.cab x c hfn hc)))).trans (I.base.keep b o e n hb hx)
  ·obtain⟨sl,e1⟩:=I.base.slot b o e n hb hx
   exact⟨sl,(hs.2 b (Nat.ne_of_lt (Nat.lt_of_lt_of_le (Heap.lt_size e) (I.ok.cab x c hfn hc)))).trans e1⟩
  ·obtain⟨o',e1⟩:=I.base.there b o e hx
   exact⟨o',(hs.2 b (Nat.ne_of_lt (Nat.lt_of_lt_of_le (Heap.lt_size e) (I.ok.cab x c hfn hc)))).trans e1⟩
  ·by_cases hj:j=i
   ·subst hj
    rw[hi] at e1;cases e1
    rw[List.getElem?_set_self hiσ] at e2
    cases e2
    exact⟨u,r,.inr ⟨.inl hk,c,hc,hc'⟩⟩
   ·rw[List.getElem?_set_ne (Ne.symm hj)] at e2
    obtain⟨u',r',q⟩:=hl j y v' e1 e2 e3
    refine⟨u',r',?_⟩
    rcases q with q | ⟨k,c',e,z'⟩
    ·exact .inl q
    ·refine .inr ⟨k,c',e,z'.sameBut hs ?_⟩
     rintro rfl
     exact hj (nodup_ix hN e1 (I.ok.inj _ _ _ e hc▸hi))
  ·by_cases hcc:c'=c
   ·subst hcc;exact⟨_,hc'⟩
   ·obtain⟨w2,z2⟩:=I.cell y c' e
    exact⟨w2,z2.sameBut hs hcc⟩
  ·obtain⟨e,n,ne,nf,d⟩:=I.pin p hp
   refine⟨(hs.2 p.1 ?_).trans e,n,ne,nf,d⟩
   intro q
   rw[q,hoc] at e
   have q':oc=p.2:=Option.some.inj e
   exact d w' (by rw[←q'];exact hocd)
theorem store_ok {M:Model} {A:Around} {E:Value→Shared→Prop} {i:Nat} {x:Str} {v:V} {u:Value} {Q:Unit→Shared→Prop} (I:Inv X pins σ H s) (hN:X.N.Nodup) (hi:X.N[i]?=some x) (hx:Loc X.env.scope x) (r:RelV v u)
  (h:∀s',Inv X pins (σ.set i (some v)) H s'→Q () s') (hf:X.fn x=true∨X.env.scope.names.lookup x=some .local:=by first | exact .inl rfl | exact .inr rfl | assumption):wpAny M A (storeName X.env x u) Q E s:=
 store_ok2 I hN hi hx r (fun s' I' _=>h s' I') hf
theorem Inv.call' {s':Shared} {ch:List Addr} (I:Inv X pins σ H s) (ho:s'.os=s.os) (u:Un (frs X.stack) ch H H' s.heap s'.heap) (hok:HOk X.prog X.w H' s'.heap) (hg:AllBare s'.gens)
  (hch:∀b∈ch,(b∈X.ex∨X.s₀.heap.objs.size≤b)∧b≠X.env.locals∧(∀x c,X.env.cells.lookup x=some c→c≠b)∧∀p∈X.pn++pins,p.1≠b):Inv X pins σ H' s':=by
 obtain⟨h',g',d',t',o'⟩:=s'
 have e:o'=s.os:=ho
 subst e
 exact I.call (g':=g') (t':=t') (d':=d') u hok hg hch
end
abbrev XK:=Value→Option Addr→Hp→Prop
abbrev St:=List (Option V)
abbrev VK:=V→Hp→Prop
abbrev TE:=St→Hp→VK→Prop
abbrev TT:=St→Hp→(Bool→Hp→Prop)→Prop
abbrev TA:=St→Hp→(List V→Hp→Prop)→Prop
structure Ends where
 nx:St→Hp→Prop
 rt:VK
 bk:St→Hp→Prop:=fun _ _=>False
 ct:St→Hp→Prop:=fun _ _=>False
abbrev TS:=Ends→St→Hp→Prop
def EP (X:Cx) (pins:List (Addr×Obj)) (σ:St) (Q:VK) (u:Value) (s':Shared):Prop:=∃v H',Inv X pins σ H' s'∧RelV v u∧Q v H'
def TP (X:Cx) (pins:List (Addr×Obj)) (σ:St) (Q:Bool→Hp→Prop) (b:Bool) (s':Shared):Prop:=∃H',Inv X pins σ H' s'∧Q b H'
def AP (X:Cx) (pins:List (Addr×Obj)) (σ:St) (Q:List V→Hp→Prop) (us:List Value) (s':Shared):Prop:=∃vs H',Inv X pins σ H' s'∧Vals vs us∧Q vs H'
def SP (X:Cx) (pins:List (Addr×Obj)) (D:Ends) (f:Flow) (s':Shared):Prop:=
 match f with
 | .next=>∃σ' H',Inv X pins σ' H' s'∧D.nx σ' H'
 | .brk=>∃σ' H',Inv X pins σ' H' s'∧D.bk σ' H'
 | .cont=>∃σ' H',Inv X pins σ' H' s'∧D.ct σ' H'
 | .ret u=>∃v σ' H',Inv X pins σ' H' s'∧RelV v u∧D.rt v H'
def PE (X:Cx) (e:Expr) (t:TE):Prop:=
 ∀(pins:List (Addr×Obj)) (s:Shared) (σ:St) (H:Hp) (Q:VK),Inv X pins σ H s→t σ H Q→wpAny (model X.prog X.w) X.A (eval e X.env) (EP X pins σ Q) X.xe s
def PT (X:Cx) (e:Expr) (t:TT):Prop:=
 ∀(pins:List (Addr×Obj)) (s:Shared) (σ:St) (H:Hp) (Q:Bool→Hp→Prop),Inv X pins σ H s→t σ H Q→wpAny (model X.prog X.w) X.A (isTrue e X.env (eval e X.env)) (TP X pins σ Q) X.xe s
def PW (X:Cx) (e:Expr) (t:TT):Prop:=
 ∀(whole:Sem Value) (pins:List (Addr×Obj)) (s:Shared) (σ:St) (H:Hp) (Q:Bool→Hp→Prop),Inv X pins σ H s→t σ H Q→wpAny (model X.prog X.w) X.A (isTrue e X.env whole) (TP X pins σ Q) X.xe s
theorem PW.pt {X:Cx} {e:Expr} {t:TT} (h:PW X e t):PT X e t:=h _
def PA (X:Cx) (es:List Expr) (t:TA):Prop:=
 ∀(pos:Pos) (pins:List (Addr×Obj)) (s:Shared) (σ:St) (H:Hp) (Q:List V→Hp→Prop),Inv X pins σ H s→t σ H Q→wpAny (model X.prog X.w) X.A (spliced (backTo pos (starEach es X.env))) (AP X pins σ Q) X.xe s
def PS (X:Cx) (st:Stmt) (t:TS):Prop:=
 ∀(pins:List (Addr×Obj)) (s:Shared) (σ:St) (H:Hp) (D:Ends),Inv X pins σ H s→t D σ H→wpAny (model X.prog X.w) X.A (exec st X.env) (SP X pins D) X.xe s
def PSs (X:Cx) (st:List Stmt) (t:TS):Prop:=
 ∀(pins:List (Addr×Obj)) (s:Shared) (σ:St) (H:Hp) (D:Ends),Inv X pins σ H s→t D σ H→wpAny (model X.prog X.w) X.A (execs st X.env) (SP X pins D) X.xe s
theorem thn {α:Type} {t:Sem α} {Q Q':α→Shared→Prop} {M:Model} {A:Around} {E:Value→Shared→Prop} {s:Shared} (h:wpAny M A t Q E s) (hQ:∀a s,Q a s→Q' a s):wpAny M A t Q' E s:=wpAny_mono h hQ fun _ _ x=>x
section
variable {X:Cx}
def tVar (i:Nat):TE:=fun σ H Q=>∃v,σ[i]?=some (some v)∧Q v H
def tC (v:V):TE:=fun _ H Q=>Q v H
theorem pe_var {i:Nat} {x:Str} {pos:Pos} (hN:X.N[i]?=some x) (hv:Vis X.env.scope x) (hd:(x == ("__debug__" : Str))=false:=by decide) (hcd:(x == ("__classdict__" : Str))=false:=by decide):PE X (.Name x pos) (tVar i):=by
 intro pins s σ H Q I h
 obtain⟨v,e,h⟩:=h
 obtain⟨m,hn,hl⟩:=I.loc
 obtain⟨u,r,l⟩:=hl i x v hN e hv
 have fin:EP X pins σ Q u s:=⟨v,H,I,r,h⟩
 rcases l with ⟨hk,hm⟩ | ⟨hk,c,hc,hcell⟩
 ·exact wpAny_Name (wpAny_loadName_local I.ok.kind hk hn hm fin) hd
 ·rcases hk with hk | hk
  ·exact wpAny_Name (wpAny_loadName_cell I.ok.kind hk hc hcell fin) hd
  ·exact wpAny_Name (wpAny_loadName_free I.ok.kind hk hc hcell fin hcd) hd
theorem pe_int {i j pos}:PE X (.Constant (.int i) j pos) (tC (.int i)):=fun _ _ _ H _ I h=>wpAny_Constant_int ⟨.int i,H,I.tok _,⟨_,rfl⟩,h⟩
theorem pe_bl {b j pos}:PE X (.Constant (.bool b) j pos) (tC (.bl b)):=fun _ _ _ H _ I h=>Constant_bool ⟨.bl b,H,I,rfl,h⟩
theorem pe_non {j pos}:PE X (.Constant .none j pos) (tC .non):=fun _ _ _ H _ I h=>Constant_none ⟨.non,H,I,rfl,h⟩
theorem pe_str {x j pos}:PE X (.Constant (.str x) j pos) (tC (.str x)):=fun _ _ _ H _ I h=>Calls.Constant_str ⟨.str x,H,I.tok _,⟨_,rfl⟩,h⟩
def Gl (X:Cx) (x:Str):Prop:=X.env.kindOf x=some .globalImplicit
theorem ld_glob {E:Value→Shared→Prop} {pins:List (Addr×Obj)} {s:Shared} {σ:St} {H:Hp} {x:Str} {u:Value} {pos:Pos} {Q:Value→Shared→Prop} (I:Inv X pins σ H s) (hg:Gl X x) (hm:X.mg x=some u) (h:Q u s)
  (hd:(x == ("__debug__" : Str))=false:=by decide):wpAny (model X.prog X.w) X.A (eval (.Name x pos) X.env) Q E s:=
 Calls.Name_function_global I.ok.kind hg (Calls.loadGlobal_global (by rw[I.ok.glob];exact I.mod.glob.keeps I.bk) hm h) hd
theorem ld_blt {E:Value→Shared→Prop} {pins:List (Addr×Obj)} {s:Shared} {σ:St} {H:Hp} {x:Str} {u:Value} {pos:Pos} {Q:Value→Shared→Prop} (I:Inv X pins σ H s) (hg:Gl X x) (hm:X.mg x=none) (hv:bootBuiltins x=some u) (h:Q u s)
  (hn:x≠ "__name__" :=by decide) (hd:(x == ("__debug__" : Str))=false:=by decide):wpAny (model X.prog X.w) X.A (eval (.Name x pos) X.env) Q E s:=by
 obtain⟨mb,h1,h2⟩:=I.mod.blt
 exact Calls.Name_function_global I.ok.kind hg (Calls.loadGlobal_builtin (by rw[I.ok.glob];exact I.mod.glob.keeps I.bk) hm (by rw[I.ok.blt];exact h1.keeps I.bk) ((h2 x hn).trans hv) h) hd
theorem pe_glob {x:Str} {v:V} {u:Value} {pos:Pos} (hg:Gl X x) (hm:X.mg x=some u) (r:RelV v u) (hd:(x == ("__debug__" : Str))=false:=by decide):PE X (.Name x pos) (tC v):=
 fun _ _ _ H _ I h=>ld_glob I hg hm ⟨v,H,I,r,h⟩ hd
theorem pe_bltn {x:Str} {v:V} {u:Value} {pos:Pos} (hg:Gl X x) (hm:X.mg x=none) (hv:bootBuiltins x=some u) (r:RelV v u) (hn:x≠ "__name__" :=by decide) (hd:(x == ("__debug__" : Str))=false:=by decide):PE X (.Name x pos) (tC v):=
 fun _ _ _ H _ I h=>ld_blt I hg hm hv ⟨v,H,I,r,h⟩ hn hd
variable {a b:Expr} {ta tb:TE} {pos:Pos}
def PC (X:Cx) (op:CmpOp) (a b:Expr) (t:TE):Prop:=
 ∀(pins:List (Addr×Obj)) (s:Shared) (σ:St) (H:Hp) (Q:VK),Inv X pins σ H s→t σ H Q→
  wpAny (model X.prog X.w) X.A (eval a X.env) (fun v s₁=>wpAny (model X.prog X.w) X.A (eval b X.env) (fun u s₂=>wpAny (model X.prog X.w) X.A (compareOp op v u) (EP X pins σ Q) X.xe s₂) X.xe s₁) X.xe s
def tB (t:TE):TT:=fun σ H Q=>t σ H fun x H1=>∃c,x=.bl c∧Q c H1
theorem pt_cmp {op:CmpOp} {t:TE} (h:PC X op a b t) (h1:behindInMarks op b=false:=by first | exact nobehind _ (by decide) (by decide) | rfl):PT X (.Compare a [op] [b] pos) (tB t):=by
 intro pins s σ H Q I hw
 refine wpAny_isTrue_Compare1 (thn (h pins s σ H _ I hw) fun v s1 h1=>thn h1 fun u s2 h2=>thn h2 fun c s3 zz6=>el5 zz6 fun x H1 I1 r1 q1=>?_) h1
 obtain⟨d,rfl,q⟩:=q1
 cases r1
 exact wpAny_truthy_bool ⟨H1,I1,q⟩
theorem pt_val {e:Expr} {t:TE} (h:PE X e t) (he:∀whole,isTrue e X.env whole=(do let v ←whole;standAt e.pos;holding [v] (truthy v)):=by intro _;rfl):PT X e (tB t):=by
 intro pins s σ H Q I hw
 refine isTrue_plain (thn (h pins s σ H _ I hw) fun v s1 zz7=>el5 zz7 fun x H1 I1 r1 q1=>?_) (he _)
 obtain⟨d,rfl,q⟩:=q1
 cases r1
 exact wpAny_truthy_bool ⟨H1,I1,q⟩
variable {tA tB':TT} {rest:List Expr}
def tAnd (t u:TT):TT:=fun σ H Q=>t σ H fun c H1=>if c=true then u σ H1 Q else Q false H1
def tOr (t u:TT):TT:=fun σ H Q=>t σ H fun c H1=>if c=true then Q true H1 else u σ H1 Q
def tNot (t:TT):TT:=fun σ H Q=>t σ H fun c H1=>Q (!c) H1
theorem pw_and1 (ha:PT X a tA):PW X (.BoolOp .And [a] pos) tA:=by
 intro wh pins s σ H Q I h
 refine isTrue_and (thn (ha pins s σ H Q I h) fun c s1 e=>?_)
 cases c with
 | true=>exact isTrue_and_nil e
 | false=>exact e
theorem pw_or1 (ha:PT X a tA):PW X (.BoolOp .Or [a] pos) tA:=by
 intro wh pins s σ H Q I h
 refine isTrue_or (thn (ha pins s σ H Q I h) fun c s1 e=>?_)
 cases c with
 | false=>exact isTrue_or_nil e
 | true=>exact e
theorem pw_and (ha:PT X a tA) (hb:PW X (.BoolOp .And (b::rest) pos) tB'):PW X (.BoolOp .And (a::b::rest) pos) (tAnd tA tB'):=by
 intro wh pins s σ H Q I h
 refine isTrue_and (thn (ha pins s σ H _ I h) fun c s1 zz8=>el2 zz8 fun H1 I1 q1=>?_)
 cases c with
 | true=>exact hb wh pins s1 σ H1 Q I1 q1
 | false=>exact⟨H1,I1,q1⟩
theorem pw_or (ha:PT X a tA) (hb:PW X (.BoolOp .Or (b::rest) pos) tB'):PW X (.BoolOp .Or (a::b::rest) pos) (tOr tA tB'):=by
 intro wh pins s σ H Q I h
 refine isTrue_or (thn (ha pins s σ H _ I h) fun c s1 zz9=>el2 zz9 fun H1 I1 q1=>?_)
 cases c with
 | true=>exact⟨H1,I1,q1⟩
 | false=>exact hb wh pins s1 σ H1 Q I1 q1
theorem pt_not (ha:PT X a tA):PT X (.UnaryOp .Not a pos) (tNot tA):=by
 intro pins s σ H Q I h
 exact isTrue_not (ha pins s σ H (fun c H1=>Q (!c) H1) I h)
def tAndV (ta tb:TE):TE:=fun σ H Q=>ta σ H fun x H1=>∃c,x=.bl c∧if c=true then tb σ H1 Q else Q (.bl false) H1
def tOrV (ta tb:TE):TE:=fun σ H Q=>ta σ H fun x H1=>∃c,x=.bl c∧if c=true then Q (.bl true) H1 else tb σ H1 Q
def tNotV (ta:TE):TE:=fun σ H Q=>ta σ H fun x H1=>∃c,x=.bl c∧Q (.bl (!c)) H1
theorem pe_one {op} {t:TE} (h:PE X a t):PE X (.BoolOp op [a] pos) t:=fun pins s σ H Q I hw=>BoolOp_one (h pins s σ H Q I hw)
theorem pe_and (ha:PE X a ta) (hb:PE X (.BoolOp .And (b::rest) pos) tb):PE X (.BoolOp .And (a::b::rest) pos) (tAndV ta tb):=by
 intro pins s σ H Q I h
 refine BoolOp_and (thn (ha pins s σ H _ I h) fun v s1 zz10=>el5 zz10 fun x H1 I1 r1 q1=>?_)
 obtain⟨c,rfl,q1⟩:=q1
 cases r1
 refine wpAny_truthy_bool ?_
 cases c with
 | true=>exact hb pins s1 σ H1 Q I1 q1
 | false=>exact⟨.bl false,H1,I1,rfl,q1⟩
theorem pe_or (ha:PE X a ta) (hb:PE X (.BoolOp .Or (b::rest) pos) tb):PE X (.BoolOp .Or (a::b::rest) pos) (tOrV ta tb):=by
 intro pins s σ H Q I h
 refine BoolOp_or (thn (ha pins s σ H _ I h) fun v s1 zz11=>el5 zz11 fun x H1 I1 r1 q1=>?_)
 obtain⟨c,rfl,q1⟩:=q1
 cases r1
 refine wpAny_truthy_bool ?_
 cases c with
 | false=>exact hb pins s1 σ H1 Q I1 q1
 | true=>exact⟨.bl true,H1,I1,rfl,q1⟩
theorem pe_not (ha:PE X a ta):PE X (.UnaryOp .Not a pos) (tNotV ta):=by
 intro pins s σ H Q I h
 refine UnaryOp_ (thn (ha pins s σ H _ I h) fun v s1 zz12=>el5 zz12 fun x H1 I1 r1 q1=>?_)
 obtain⟨c,rfl,q1⟩:=q1
 cases r1
 exact not_of (wpAny_truthy_bool ⟨.bl (!c),H1,I1,rfl,q1⟩)
def tIf (t:TT) (ta tb:TE):TE:=fun σ H Q=>t σ H fun c H1=>if c=true then ta σ H1 Q else tb σ H1 Q
theorem pe_ifExp {c:Expr} (hc:PT X c tA) (ha:PE X a ta) (hb:PE X b tb):PE X (.IfExp c a b pos) (tIf tA ta tb):=by
 intro pins s σ H Q I h
 refine wpAny_IfExp (thn (hc pins s σ H _ I h) fun d s1 zz13=>el2 zz13 fun H1 I1 q1=>?_)
 cases d with
 | true=>exact ha pins s1 σ H1 Q I1 q1
 | false=>exact hb pins s1 σ H1 Q I1 q1
end
def SqL (K:PySem.W.Frag) (H:Hp) (a:Addr) (xs:List V):Prop:=
 Rd H a (.lst xs)∨
  ∃(o:Obj) (its:Array Value) (n:Nat),K.lookup a=some o∧o.cls=.type "list" ∧o.dict=none∧o.data=.seq its n∧its.size≤sizeLine∧Vals xs its.toList
def SqT (K:PySem.W.Frag) (H:Hp) (a:Addr) (xs:List V):Prop:=
 Rd H a (.tup xs)∨
  ∃(o:Obj) (its:Array Value) (n:Nat),K.lookup a=some o∧o.cls=.type "tuple" ∧o.data=.seq its n∧its.size≤sizeLine∧Vals xs its.toList
def absV:Value→Option V
 | .none=>some .non
 | .bool b=>some (.bl b)
 | .int i _=>some (.int i)
 | .str x _=>some (.str x)
 | .bytes b _=>some (.byt b)
 | .float b _=>some (.flt b)
 | .ref a=>some (.ref a)
 | .type n=>some (.ty n)
 | _=>none
theorem RelV.abs {x:V} {u:Value} (r:RelV x u):absV u=some x:=by
 cases x with
 | non=>cases r;rfl
 | bl _=>cases r;rfl
 | int _=>obtain⟨t,rfl⟩:=r;rfl
 | str _=>obtain⟨t,rfl⟩:=r;rfl
 | byt _=>obtain⟨t,rfl⟩:=r;rfl
 | flt _=>obtain⟨t,rfl⟩:=r;rfl
 | ref _=>cases r;rfl
 | ty _=>cases r;rfl
theorem RelV.inj {x y:V} {u:Value} (r:RelV x u) (q:RelV y u):x=y:=Option.some.inj (r.abs.symm.trans q.abs)
theorem Vals.inj {xs ys:List V} {us:List Value} (h:Vals xs us) (k:Vals ys us):xs=ys:=by
 induction h generalizing ys with
 | nil=>cases k;rfl
 | cons r t ih=>
  cases k with
  | cons r' t'=>rw[r.inj r',ih t']
section
variable {X:Cx} {pins:List (Addr×Obj)} {σ:St} {H:Hp} {s:Shared} {a:Addr} {xs ys:List V}
theorem SqL.of {K:PySem.W.Frag} (h:H a=some (.lst xs)):SqL K H a xs:=.inl (.inl h)
theorem SqT.of {K:PySem.W.Frag} (h:H a=some (.tup xs)):SqT K H a xs:=.inl (.inl h)
theorem Inv.list (I:Inv X pins σ H s) (h:SqL X.K H a xs):∃its:List Value,Vals xs its∧PlainL s.heap a its.toArray∧xs.length≤sizeLine:=by
 rcases h with h | ⟨o,its,n,hk,hc,hd,hs,hz,r⟩
 ·obtain⟨z,its,n,r,e⟩:=h.ok I.hok
  exact⟨its,r,⟨_,n,e,rfl,rfl,rfl⟩,z⟩
 ·refine⟨its.toList,r,⟨o,n,I.kIn a o hk,hc,hd,by simpa using hs⟩,?_⟩
  have e:=r.length
  simp only[Array.length_toList] at e
  lia
theorem Inv.tuple (I:Inv X pins σ H s) (h:SqT X.K H a xs):∃its:List Value,Vals xs its∧IsTup s.heap a its.toArray∧xs.length≤sizeLine:=by
 rcases h with h | ⟨o,its,n,hk,hc,hs,hz,r⟩
 ·obtain⟨z,its,r,p⟩:=h.ok I.hok
  exact⟨its,r,p,z⟩
 ·refine⟨its.toList,r,⟨o,I.kIn a o hk,hc,n,by simpa using hs⟩,?_⟩
  have e:=r.length
  simp only[Array.length_toList] at e
  lia
theorem Inv.list_inj (I:Inv X pins σ H s) (h:SqL X.K H a xs) (h':SqL X.K H a ys):xs=ys:=by
 obtain⟨its,r,⟨o,n,e,_,_,d⟩,_⟩:=I.list h
 obtain⟨its',r',⟨o',n',e',_,_,d'⟩,_⟩:=I.list h'
 rw[e] at e';cases e'
 rw[d] at d'
 injection d' with d1 _
 have:its=its':=by simpa using congrArg Array.toList d1
 subst this
 exact r.inj r'
theorem Inv.tuple_inj (I:Inv X pins σ H s) (h:SqT X.K H a xs) (h':SqT X.K H a ys):xs=ys:=by
 obtain⟨its,r,⟨o,e,_,n,d⟩,_⟩:=I.tuple h
 obtain⟨its',r',⟨o',e',_,n',d'⟩,_⟩:=I.tuple h'
 rw[e] at e';cases e'
 rw[d] at d'
 injection d' with d1 _
 have:its=its':=by simpa using congrArg Array.toList d1
 subst this
 exact r.inj r'
end
abbrev Cx.wish (X:Cx) (E:Value→Shared→Prop):Cx:={ X with xe:=E }
abbrev Cx.nox (X:Cx):Cx:=X.wish fun _ _=>False
theorem Cx.Ok.wish {X:Cx} (ok:X.Ok) (E:Value→Shared→Prop):(X.wish E).Ok:=
 ⟨ok.mod,ok.kind,ok.glob,ok.blt,ok.above,ok.inj,ok.has,ok.cab,ok.hd,ok.frames,ok.stk,ok.exf,ok.bs,ok.bsz,ok.noex,ok.exfs,ok.funs,ok.frf⟩
theorem Cx.Ok.unwish {X:Cx} {E:Value→Shared→Prop} (ok:(X.wish E).Ok):X.Ok:=
 ⟨ok.mod,ok.kind,ok.glob,ok.blt,ok.above,ok.inj,ok.has,ok.cab,ok.hd,ok.frames,ok.stk,ok.exf,ok.bs,ok.bsz,ok.noex,ok.exfs,ok.funs,ok.frf⟩
section
variable {X:Cx} {pins:List (Addr×Obj)} {σ:St} {H:Hp} {s:Shared} {E:Value→Shared→Prop}
theorem Inv.wish (I:Inv X pins σ H s) (E:Value→Shared→Prop):Inv (X.wish E) pins σ H s:=⟨I.ok.wish E,I.os,I.bare,I.base,I.loc,I.cell,I.free,I.freeC,I.pin,I.hok,I.len⟩
theorem Inv.unwish (I:Inv (X.wish E) pins σ H s):Inv X pins σ H s:=⟨I.ok.unwish,I.os,I.bare,I.base,I.loc,I.cell,I.free,I.freeC,I.pin,I.hok,I.len⟩
theorem SP.unwish {D:Ends} {f:Flow} {s':Shared} (h:SP (X.wish E) pins D f s'):SP X pins D f s':=by
 cases f with
 | next=>obtain⟨σ',H',I,q⟩:=h;exact⟨σ',H',I.unwish,q⟩
 | brk=>obtain⟨σ',H',I,q⟩:=h;exact⟨σ',H',I.unwish,q⟩
 | cont=>obtain⟨σ',H',I,q⟩:=h;exact⟨σ',H',I.unwish,q⟩
 | ret u=>obtain⟨v,σ',H',I,r,q⟩:=h;exact⟨v,σ',H',I.unwish,r,q⟩
theorem PSs.nox {st:List Stmt} {t:TS} (h:PSs X.nox st t):PSs X st t:=fun pins s σ H D I hw=>
 wpAny_mono (h pins s σ H D (I.wish _) hw) (fun _ _ q=>q.unwish) fun _ _ z=>False.elim z
end
section
variable {X:Cx} {st:Stmt} {rest:List Stmt} {t u:TS} {e:Expr} {te:TE} {pos:Pos}
def tNext:TS:=fun D σ H=>D.nx σ H
def tSeq (t u:TS):TS:=fun D σ H=>t { D with nx:=u D } σ H
theorem pss_nil:PSs X [] tNext:=fun _ _ σ H _ I h=>wpAny_execs_nil ⟨σ,H,I,h⟩
theorem pss_cons (h1:PS X st t) (h2:PSs X rest u):PSs X (st::rest) (tSeq t u):=by
 intro pins s σ H D I h
 refine wpAny_execs_cons (thn (h1 pins s σ H { D with nx:=u D } I h) fun f s1 q=>?_)
 cases f with
 | next=>
  obtain⟨σ',H',I',q⟩:=q
  exact h2 pins s1 σ' H' D I' q
 | ret v=>exact q
 | brk=>exact q
 | cont=>exact q
theorem pss_one (h1:PS X st t):PSs X [st] t:=by
 intro pins s σ H D I h
 refine wpAny_execs_cons (thn (h1 pins s σ H D I h) fun f s1 q=>?_)
 cases f with
 | next=>exact wpAny_execs_nil q
 | ret v=>exact q
 | brk=>exact q
 | cont=>exact q
theorem Inv.quiet {pins:List (Addr×Obj)} {σ:St} {H:Hp} {s:Shared} (I:Inv X pins σ H s):interactive X.env=false:=by simp [interactive,I.ok.kind]
def tDrop (te:TE):TS:=fun D σ H=>te σ H fun _ H1=>D.nx σ H1
theorem ps_expr (he:PE X e te) (hs:swapsWith e none pos.line X.env=pure false:=by rfl):PS X (.Expr e pos) (tDrop te):=by
 intro pins s σ H D I h
 exact wpAny_Expr_any (thn (he pins s σ H _ I h) fun v s1 zz20=>el5 zz20 fun x H1 I1 r1 q1=>⟨σ,H1,I1,q1⟩) I.quiet hs
def tRet (te:TE):TS:=fun D σ H=>te σ H D.rt
theorem ps_ret (he:PE X e te):PS X (.Return (some e) pos) (tRet te):=by
 intro pins s σ H D I h
 exact wpAny_Return_some (thn (he pins s σ H _ I h) fun v s1 zz21=>el5 zz21 fun x H1 I1 r1 q1=>⟨x,σ,H1,I1,r1,q1⟩)
def tIfS (c:TT) (t u:TS):TS:=fun D σ H=>c σ H fun b H1=>if b=true then t D σ H1 else u D σ H1
theorem ps_if {c:Expr} {a b:List Stmt} {tc:TT} (hc:PT X c tc) (ha:PSs X a t) (hb:PSs X b u):PS X (.If c a b pos) (tIfS tc t u):=by
 intro pins s σ H D I h
 refine wpAny_If (thn (hc pins s σ H _ I h) fun d s1 zz22=>el2 zz22 fun H1 I1 q1=>?_)
 cases d with
 | true=>exact ha pins s1 σ H1 D I1 q1
 | false=>exact hb pins s1 σ H1 D I1 q1
end
abbrev TG:=V→St→Hp→(St→Hp→Prop)→Prop
abbrev TGs:=List V→St→Hp→(St→Hp→Prop)→Prop
def PG (X:Cx) (target:Expr) (t:TG):Prop:=
 ∀(pins:List (Addr×Obj)) (s:Shared) (σ:St) (H:Hp) (v:V) (u:Value) (Q:St→Hp→Prop),Inv X pins σ H s→RelV v u→t v σ H Q→
  wpAny (model X.prog X.w) X.A (assign target X.env u) (fun _ s'=>∃σ' H',Inv X pins σ' H' s'∧Q σ' H') X.xe s
def PGs (X:Cx) (ts:List Expr) (t:TGs):Prop:=
 ∀(pins:List (Addr×Obj)) (s:Shared) (σ:St) (H:Hp) (vs:List V) (us:List Value) (Q:St→Hp→Prop),Inv X pins σ H s→Vals vs us→t vs σ H Q→
  wpAny (model X.prog X.w) X.A (assignInOrder ((assignEach ts X.env).map (·.2)) us) (fun _ s'=>∃σ' H',Inv X pins σ' H' s'∧Q σ' H') X.xe s
abbrev TSet:=V→V→V→Hp→(Hp→Prop)→Prop
def PSet (X:Cx) (t:TSet):Prop:=
 ∀(pins:List (Addr×Obj)) (s:Shared) (σ:St) (H:Hp) (o i v:V) (ov iv u:Value) (Q:Hp→Prop),Inv X pins σ H s→RelV o ov→RelV i iv→RelV v u→t o i v H Q→
  wpAny (model X.prog X.w) X.A (setItem ov iv u) (fun _ s'=>∃H',Inv X pins σ H' s'∧Q H') X.xe s
abbrev TIp:=V→V→Hp→VK→Prop
def PIp (X:Cx) (op:Operator) (t:TIp):Prop:=
 ∀(pins:List (Addr×Obj)) (s:Shared) (σ:St) (H:Hp) (x y:V) (v u:Value) (Q:VK),Inv X pins σ H s→RelV x v→RelV y u→t x y H Q→
  wpAny (model X.prog X.w) X.A (inplaceOp op v u) (EP X pins σ Q) X.xe s
section
variable {X:Cx} {pos:Pos}
def gName (i:Nat):TG:=fun v σ H Q=>Q (σ.set i (some v)) H
theorem pg_name {i:Nat} {x:Str} (hN:X.N.Nodup) (hi:X.N[i]?=some x) (hx:Loc X.env.scope x) (hf:X.fn x=true∨X.env.scope.names.lookup x=some .local:=by first | exact .inl rfl | exact .inr rfl | assumption):PG X (.Name x pos) (gName i):=by
 intro pins s σ H v u Q I r h
 exact wpAny_assign_Name (store_ok I hN hi hx r (fun s' I'=>⟨_,H,I',h⟩) hf)
def gNil:TGs:=fun vs σ H Q=>vs=[]∧Q σ H
def gCons (t:TG) (u:TGs):TGs:=fun vs σ H Q=>∃v r,vs=v::r∧t v σ H fun σ' H'=>u r σ' H' Q
theorem pgs_nil:PGs X [] gNil:=by
 intro pins s σ H vs us Q I r h
 obtain⟨e,h⟩:=h
 subst e
 cases r
 exact assignInOrder_nil ⟨σ,H,I,h⟩
theorem pgs_cons {e:Expr} {es:List Expr} {t:TG} {u:TGs} (h1:PG X e t) (h2:PGs X es u)
  (hs:(assignEach (e::es) X.env).map (·.2)=assign e X.env::(assignEach es X.env).map (·.2):=by rfl):PGs X (e::es) (gCons t u):=by
 intro pins s σ H vs us Q I r h
 obtain⟨v,vr,e1,h⟩:=h
 subst e1
 cases r with
 | cons r rr=>
  rw[hs]
  refine assignInOrder_cons (thn (h1 pins s σ H _ _ _ I r h) fun _ s1 zz23=>zz23.elim fun σ1 zz24=>zz24.elim fun H1 zz25=>zz25.elim fun I1 q1=>?_)
  exact h2 pins s1 σ1 H1 _ _ Q I1 rr q1
def gTup (K:PySem.W.Frag) (n:Nat) (t:TGs):TG:=fun v σ H Q=>∃a xs,v=.ref a∧SqT K H a xs∧xs.length=n∧t xs σ H Q
theorem pg_tup {es:List Expr} {k:Nat} {t:TGs} {n:Nat} (hc:X.calm=true) (h:PGs X es t)
  (hn:(assignEach es X.env).length=n:=by rfl) (hst:(assignEach es X.env).findIdx? (·.1)=none:=by rfl):PG X (.Tuple es k pos) (gTup X.K n t):=by
 intro pins s σ H v u Q I r hw
 obtain⟨a,xs,e1,hq,hl,hw⟩:=hw
 subst e1
 cases r
 obtain⟨its,rv,ht,hz⟩:=I.tuple hq
 refine assign_Tuple_tuple (I.ok.hd hc) ht (by simp [hn,←hl,rv.length]) hst fun h' hx=>?_
 have I1:Inv X pins σ H { s with heap:=h' }:=I.kept (t':=s.toks) fun b o e=>hx b o (Nat.ne_of_lt (Heap.lt_size e)) e
 exact h pins _ σ H xs _ Q I1 (by simpa using rv) hw
def gSub (to ti:TE) (t:TSet):TG:=fun v σ H Q=>to σ H fun o H1=>ti σ H1 fun i H2=>t o i v H2 fun H3=>Q σ H3
theorem pg_sub {o i:Expr} {to ti:TE} {t:TSet} (ho:PE X o to) (hi:PE X i ti) (hs:PSet X t)
  (ha:∀v,assign (.Subscript o i pos) X.env v=(do
   let ov ←holding [v] (eval o X.env)
   let iv ←holding [v,ov] (eval i X.env)
   standAt pos
   holding [v,ov,iv] (setItem ov iv v)
   release [v,ov,iv] []):=by intro _;rfl):PG X (.Subscript o i pos) (gSub to ti t):=by
 intro pins s σ H v u Q I r h
 rw[ha]
 refine wpAny_bind (wpAny_holding (thn (ho pins s σ H _ I h) fun ov s1 zz26=>el5 zz26 fun x H1 I1 r1 q1=>?_))
 refine wpAny_bind (wpAny_holding (thn (hi pins s1 σ H1 _ I1 q1) fun iv s2 zz27=>el5 zz27 fun y H2 I2 r2 q2=>?_))
 refine wpAny_bind (wpAny_standAt (wpAny_bind (wpAny_holding (thn (hs pins s2 σ H2 x y v ov iv u _ I2 r1 r2 r q2) fun _ s3 zz28=>el2 zz28 fun H3 I3 q3=>?_))))
 exact wpAny_release ⟨σ,H3,I3,q3⟩
def tAsg (te:TE) (g:TG):TS:=fun D σ H=>te σ H fun x H1=>g x σ H1 D.nx
theorem ps_asg {tg e:Expr} {te:TE} {g:TG} (he:PE X e te) (hg:PG X tg g) (hs:swapsWithSole [tg] e pos.line X.env=pure false:=by rfl) (hw:swappedStores [tg] e X.env=pure none:=by rfl)
  (h1:(assignEach [tg] X.env).map (·.2)=[assign tg X.env]:=by rfl):PS X (.Assign [tg] e pos) (tAsg te g):=by
 intro pins s σ H D I h
 refine wpAny_Assign_stores (thn (he pins s σ H _ I h) fun v s1 zz29=>el5 zz29 fun x H1 I1 r1 q1=>?_) hs hw
 rw[h1]
 exact thn (hg pins s1 σ H1 x v _ I1 r1 q1) fun _ s2 q=>q
theorem ps_set {i:Nat} {x:Str} {e:Expr} {te:TE} {pos':Pos} (hN:X.N.Nodup) (hi:X.N[i]?=some x) (hx:Loc X.env.scope x) (he:PE X e te) (hs:swapsWith e (some (.Name x pos')) pos.line X.env=pure false:=by rfl) (hf:X.fn x=true∨X.env.scope.names.lookup x=some .local:=by first | exact .inl rfl | exact .inr rfl | assumption) :
  PS X (.Assign [.Name x pos'] e pos) (tAsg te (gName i)):=by
 intro pins s σ H D I h
 refine wpAny_Assign_Name (thn (he pins s σ H _ I h) fun v s1 zz30=>el5 zz30 fun y H1 I1 r1 q1=>?_) hs
 exact store_ok I1 hN hi hx r1 (fun s2 I2=>⟨_,H1,I2,q1⟩) hf
def tAugS (to ti te:TE) (tget:V→V→Hp→VK→Prop) (tip:TIp) (tset:TSet):TS:=fun D σ H=>to σ H fun o H1=>ti σ H1 fun i H2=>tget o i H2 fun x H3=>te σ H3 fun y H4=>tip x y H4 fun z H5=>tset o i z H5 fun H6=>D.nx σ H6
def PGet (X:Cx) (t:V→V→Hp→VK→Prop):Prop:=
 ∀(pins:List (Addr×Obj)) (s:Shared) (σ:St) (H:Hp) (o i:V) (ov iv:Value) (Q:VK),Inv X pins σ H s→RelV o ov→RelV i iv→t o i H Q→
  wpAny (model X.prog X.w) X.A (getItem ov iv) (EP X pins σ Q) X.xe s
theorem ps_augS {o i e:Expr} {to ti te:TE} {tget:V→V→Hp→VK→Prop} {tip:TIp} {tset:TSet} {op:Operator} {tpos:Pos} (ho:PE X o to) (hi:PE X i ti) (hg:PGet X tget) (he:PE X e te) (hp:PIp X op tip) (hs:PSet X tset)
  (ha:∀ov iv new,augStore i ov iv new=(do holding [new,ov,iv] (setItem ov iv new);release [new,ov,iv] [];pure .next):=by intros;rfl):PS X (.AugAssign (.Subscript o i tpos) op e pos) (tAugS to ti te tget tip tset):=by
 intro pins s σ H D I h
 refine wpAny_AugAssign_SubscriptAny (thn (ho pins s σ H _ I h) fun ov s1 zz34=>el5 zz34 fun x1 H1 I1 r1 q1=>?_) ha
 refine thn (hi pins s1 σ H1 _ I1 q1) fun iv s2 zz35=>el5 zz35 fun x2 H2 I2 r2 q2=>?_
 refine thn (hg pins s2 σ H2 x1 x2 ov iv _ I2 r1 r2 q2) fun old s3 zz36=>el5 zz36 fun x3 H3 I3 r3 q3=>?_
 refine thn (he pins s3 σ H3 _ I3 q3) fun v s4 zz37=>el5 zz37 fun x4 H4 I4 r4 q4=>?_
 refine thn (hp pins s4 σ H4 x3 x4 old v _ I4 r3 r4 q4) fun new s5 zz38=>el5 zz38 fun x5 H5 I5 r5 q5=>?_
 exact thn (hs pins s5 σ H5 x1 x2 x5 ov iv new _ I5 r1 r2 r5 q5) fun _ s6 zz39=>el2 zz39 fun H6 I6 q6=>⟨σ,H6,I6,q6⟩
def ipI (f:Int→Int→Int):TIp:=fun x y H Q=>∃i j,x=.int i∧y=.int j∧Q (.int (f i j)) H
theorem ip_add:PIp X .Add (ipI fun i j=>i + j):=by
 intro pins s σ H x y v u Q I r1 r2 h
 obtain⟨i,j,e1,e2,q⟩:=h
 subst e1;subst e2
 obtain⟨t,rfl⟩:=r1
 obtain⟨t',rfl⟩:=r2
 exact iadd_int ⟨.int _,H,I.tok _,⟨_,rfl⟩,q⟩
theorem ip_sub:PIp X .Sub (ipI fun i j=>i - j):=by
 intro pins s σ H x y v u Q I r1 r2 h
 obtain⟨i,j,e1,e2,q⟩:=h
 subst e1;subst e2
 obtain⟨t,rfl⟩:=r1
 obtain⟨t',rfl⟩:=r2
 exact isub_int ⟨.int _,H,I.tok _,⟨_,rfl⟩,q⟩
def tWhile (c:TT) (tb:TS):TS:=fun D σ H=>∃W:Nat→St→Hp→Prop,(∃m,W m σ H)∧∀m σ H,W m σ H→
 c σ H fun b H1=>if b=true then ∃N:St→Hp→Prop,(∀σ' H',N σ' H'→∃m',m' < m∧W m' σ' H')∧tb { D with nx:=N,ct:=N,bk:=D.nx } σ H1 else D.nx σ H1
theorem ps_while {c:Expr} {body:List Stmt} {tc:TT} {tb:TS} (hp:PassesOwn (model X.prog X.w) X.A X.env X.xe) (hc:PT X c tc) (hb:PSs X body tb):PS X (.While c body [] pos) (tWhile tc tb):=by
 intro pins s σ H D I h
 obtain⟨W,⟨m0,w0⟩,turn⟩:=h
 refine wpAny_While (codeAny_whileLoop (fun n s'=>∃σ' H',Inv X pins σ' H' s'∧W n σ' H') ?_ m0 ⟨σ,H,I,w0⟩)
 rintro n s1 ⟨σ1,H1,I1,w1⟩
 refine wpAny_passesOwn hp (thn (hc pins s1 σ1 H1 _ I1 (turn n σ1 H1 w1)) fun b s2 zz40=>el2 zz40 fun H2 I2 q2=>?_)
 cases b with
 | true=>
  obtain⟨N,hN,q2⟩:=q2
  rw[if_pos rfl]
  refine wpAny_passesOwn hp (thn (hb pins s2 σ1 H2 _ I2 q2) fun f s3 q3=>?_)
  cases f with
  | next=>
   obtain⟨σ3,H3,I3,n3⟩:=q3
   obtain⟨m',hm,w3⟩:=hN σ3 H3 n3
   exact⟨m',hm,σ3,H3,I3,w3⟩
  | cont=>
   obtain⟨σ3,H3,I3,n3⟩:=q3
   obtain⟨m',hm,w3⟩:=hN σ3 H3 n3
   exact⟨m',hm,σ3,H3,I3,w3⟩
  | brk=>exact q3
  | ret v=>exact q3
 | false=>
  rw[if_neg Bool.false_ne_true]
  exact wpAny_execs_nil ⟨σ1,H2,I2,q2⟩
end
structure It where
 go:Nat→Hp→Prop
 yld:Nat→Hp→V→Hp→Prop
 stop:Nat→Hp→Prop
def FpOk (X:Cx) (pins:List (Addr×Obj)) (H:Hp) (b:Addr):Prop:=
 H b=none∧b≠X.env.locals∧b∉X.fs∧(b∈X.ex∨X.s₀.heap.objs.size≤b)∧(∀x c,X.env.cells.lookup x=some c→c≠b)∧∀p∈X.pn++pins,p.1≠b
theorem Inv.fpOk {X:Cx} {pins:List (Addr×Obj)} {σ:St} {H H':Hp} {s:Shared} {b:Addr} (I:Inv X pins σ H s) (hb:s.heap.objs.size≤b) (hn:H' b=none):FpOk X pins H' b:=by
 refine⟨hn,Nat.ne_of_gt (Nat.lt_of_lt_of_le I.lt hb),I.nofs hb,.inr (Nat.le_trans I.sz hb),fun x c e z=>?_,fun p hp z=>?_⟩
 ·obtain⟨v,q⟩:=I.cell x c e
  exact absurd (Nat.lt_of_lt_of_le q.lt (by rw[z];exact hb)) (Nat.lt_irrefl _)
 ·exact absurd (Nat.lt_of_lt_of_le (Heap.lt_size (I.pin p hp).1) (by rw[z];exact hb)) (Nat.lt_irrefl _)
structure Turn (P:Program) (w:World) (K:PySem.W.Frag) (tg:Expr) (J:It) (fp:List Addr) (it:Addr) (tn:Nat→Heap→Prop):Prop where
 mem:it∈fp
 obj:∀i h,tn i h→∀b∈fp,∃o,h.get? b=some o∧∀v,o.data≠.cell v
 keep:∀i h h',tn i h→(∀b∈fp,∀o,h.get? b=some o→h'.get? b=some o)→tn i h'
 item:∀(X:Cx),X.prog=P→X.w=w→X.K=K→X.calm=true→∀(i:Nat) (pins:List (Addr×Obj)) (s:Shared) (σ:St) (H:Hp) (E:Value→Shared→Prop),Inv X pins σ H s→(∀b∈fp,FpOk X pins H b)→tn i s.heap→J.go i H→
  wpAny (model P w) X.A (pyNext (.ref it)) (fun r s1=>∃u,r=some u∧
   wpAny (model P w) X.A (letOwnedTupleGo tg (.ref it) u) (fun _ s2=>∃x H',Inv X pins σ H' s2∧RelV x u∧J.yld i H x H'∧tn (i + 1) s2.heap∧∀b∈fp,H' b=none) E s1) E s
 done:∀(X:Cx),X.prog=P→X.w=w→X.K=K→X.calm=true→∀(i:Nat) (pins:List (Addr×Obj)) (s:Shared) (σ:St) (H:Hp) (E:Value→Shared→Prop),Inv X pins σ H s→(∀b∈fp,FpOk X pins H b)→tn i s.heap→J.stop i H→
  wpAny (model P w) X.A (pyNext (.ref it)) (fun r s1=>r=none∧Inv X pins σ H s1) E s
 self:∀(A:Around) (i:Nat) (s:Shared) (Q:Value→Shared→Prop) (E:Value→Shared→Prop),tn i s.heap→Q (.ref it) s→wpAny (model P w) A (pyIter (.ref it)) Q E s
abbrev TI:=St→Hp→(It→Hp→Prop)→Prop
def PIE (X:Cx) (pins:List (Addr×Obj)) (σ:St) (tg:Expr) (R:It→Hp→Prop) (itv:Value) (s2:Shared):Prop:=
 ∃(it:Addr) (fp:List Addr) (tn:Nat→Heap→Prop) (J:It) (H':Hp),itv=.ref it∧Inv X pins σ H' s2∧Turn X.prog X.w X.K tg J fp it tn∧tn 0 s2.heap∧(∀b∈fp,FpOk X pins H' b)∧R J H'
def PI (X:Cx) (tg iter:Expr) (wi:TI):Prop:=
 ∀(pins:List (Addr×Obj)) (s:Shared) (σ:St) (H:Hp) (R:It→Hp→Prop),Inv X pins σ H s→wi σ H R→
  wpAny (model X.prog X.w) X.A (eval iter X.env) (fun v s1=>wpAny (model X.prog X.w) X.A (pyIter v) (PIE X pins σ tg R) X.xe s1) X.xe s
theorem go_of {M:Model} {A:Around} {E:Value→Shared→Prop} {s:Shared} {tg:Expr} {it:Addr} {u:Value} {o:Obj} {n:String} {vs:Array Value} {Q:Unit→Shared→Prop} (ho:s.heap.get? it=some o) (hc:o.cls=.type n) (hd:o.data=.fields vs)
  (hn:["enumerate", "zip", "dict_itemiterator", "dict_reverseitemiterator", "odict_iterator", "itertools.zip_longest", "itertools.pairwise"].contains n=false) (hQ:Q () s):wpAny M A (letOwnedTupleGo tg (.ref it) u) Q E s:=by
 unfold letOwnedTupleGo
 cases tg <;> first
  | exact wpAny_pure hQ
  | (cases u <;> first
    | exact wpAny_pure hQ
    | (refine wpAny_bind (wpAny_load ho ?_)
       rw[hc,hd]
       show wpAny M A (if (["enumerate", "zip", "dict_itemiterator", "dict_reverseitemiterator", "odict_iterator", "itertools.zip_longest", "itertools.pairwise"].contains n&&vs[0]? == some (rawInt _))=true then _ else _) Q E s
       rw[if_neg (by intro h;rw[hn,Bool.false_and] at h;cases h)]
       exact wpAny_pure hQ))
def Itl (K:PySem.W.Frag) (a:Addr):It:=
 ⟨fun i H=>∃xs x,SqL K H a xs∧xs[i]?=some x,fun i H x H'=>H'=H∧∀xs,SqL K H a xs→xs[i]?=some x,fun i H=>∃xs,SqL K H a xs∧xs.length≤i⟩
def Itt (K:PySem.W.Frag) (a:Addr):It:=
 ⟨fun i H=>∃xs x,SqT K H a xs∧xs[i]?=some x,fun i H x H'=>H'=H∧∀xs,SqT K H a xs→xs[i]?=some x,fun i H=>∃xs,SqT K H a xs∧xs.length≤i⟩
def Itr (lo:Int) (n:Nat):It:=⟨fun i _=>i < n,fun i H x H'=>H'=H∧x=.int (lo + i),fun i _=>n≤i⟩
theorem turn_list {P:Program} {w:World} {K:PySem.W.Frag} {tg:Expr} (a it:Addr):Turn P w K tg (Itl K a) [it] it (fun i h=>h.IsListIter it a i) where
 mem:=by simp
 obj:=fun i h st b hb=>by
  have e:b=it:=by simpa using hb
  subst e
  obtain⟨o,e,c,d⟩:=st
  exact⟨o,e,fun v z=>by rw[d] at z;cases z⟩
 keep:=fun i h h' st k=>st.at fun o e=>k it (by simp) o e
 item:=by
  intro X hP hw hK hc i pins s σ H E I hf st hg
  subst hP hw hK
  obtain⟨xs,x,hq,hx⟩:=hg
  obtain⟨its,rv,p,hz⟩:=I.list hq
  obtain⟨u,hu,ru⟩:=rv.get hx
  obtain⟨f0,f1,f2,f3,f4,f5⟩:=hf it (by simp)
  refine wpAny_pyNext_list_item st p.isList (x:=u) (by simpa using hu) fun h' st' sb=>?_
  have I1:Inv X pins σ H { s with heap:=h' }:=I.turned (t':=s.toks) (fun b o hb e=>(sb.2 b hb).trans e) f0 f1 f3 f4 f5
  obtain⟨o,e,c,d⟩:=id st'
  exact⟨u,rfl,go_of (s:={ s with heap:=h' }) e c d (by decide) ⟨x,H,I1,ru,⟨rfl,fun ys hy=>by rw[I.list_inj hy hq];exact hx⟩,st',fun b hb=>(hf b hb).1⟩⟩
 done:=by
  intro X hP hw hK hc i pins s σ H E I hf st hg
  subst hP hw hK
  obtain⟨xs,hq,hx⟩:=hg
  obtain⟨its,rv,p,hz⟩:=I.list hq
  obtain⟨f0,f1,f2,f3,f4,f5⟩:=hf it (by simp)
  have hl:=rv.length
  exact wpAny_pyNext_list_end (I.ok.hd hc) st p.isList (by simp;lia) fun h' eb=>⟨rfl,I.turned (t':=s.toks) (fun b o hb e=>eb b o hb e) f0 f1 f3 f4 f5⟩
 self:=fun _ _ _ _ _ st h=>wpAny_pyIter_listiter st h
theorem turn_tuple {P:Program} {w:World} {K:PySem.W.Frag} {tg:Expr} (a it:Addr):Turn P w K tg (Itt K a) [it] it (fun i h=>h.IsTupleIter it a i) where
 mem:=by simp
 obj:=fun i h st b hb=>by
  have e:b=it:=by simpa using hb
  subst e
  obtain⟨o,e,c,d⟩:=st
  exact⟨o,e,fun v z=>by rw[d] at z;cases z⟩
 keep:=fun i h h' st k=>st.at fun o e=>k it (by simp) o e
 item:=by
  intro X hP hw hK hc i pins s σ H E I hf st hg
  subst hP hw hK
  obtain⟨xs,x,hq,hx⟩:=hg
  obtain⟨its,rv,p,hz⟩:=I.tuple hq
  obtain⟨u,hu,ru⟩:=rv.get hx
  obtain⟨f0,f1,f2,f3,f4,f5⟩:=hf it (by simp)
  refine wpAny_pyNext_tuple_item st (show s.heap.IsTuple a its.toArray from p) (x:=u) (by simpa using hu) fun h' st' sb=>?_
  have I1:Inv X pins σ H { s with heap:=h' }:=I.turned (t':=s.toks) (fun b o hb e=>(sb.2 b hb).trans e) f0 f1 f3 f4 f5
  obtain⟨o,e,c,d⟩:=id st'
  exact⟨u,rfl,go_of (s:={ s with heap:=h' }) e c d (by decide) ⟨x,H,I1,ru,⟨rfl,fun ys hy=>by rw[I.tuple_inj hy hq];exact hx⟩,st',fun b hb=>(hf b hb).1⟩⟩
 done:=by
  intro X hP hw hK hc i pins s σ H E I hf st hg
  subst hP hw hK
  obtain⟨xs,hq,hx⟩:=hg
  obtain⟨its,rv,p,hz⟩:=I.tuple hq
  obtain⟨f0,f1,f2,f3,f4,f5⟩:=hf it (by simp)
  have hl:=rv.length
  exact wpAny_pyNext_tuple_end (I.ok.hd hc) st (show s.heap.IsTuple a its.toArray from p) (by simp;lia) fun h' eb=>⟨rfl,I.turned (t':=s.toks) (fun b o hb e=>eb b o hb e) f0 f1 f3 f4 f5⟩
 self:=fun _ _ _ _ _ st h=>wpAny_pyIter_tupleiter st h
theorem turn_range {P:Program} {w:World} {K:PySem.W.Frag} {tg:Expr} (it:Addr) (lo:Int) (n:Nat):Turn P w K tg (Itr lo n) [it] it (fun i h=>IsRangeIter h it (lo + (i:Nat) * 1) ((n:Int) - (i:Nat)) 1) where
 mem:=by simp
 obj:=fun i h st b hb=>by
  have e:b=it:=by simpa using hb
  subst e
  exact⟨_,st,fun v z=>by
   have z':Data.fields _=Data.cell v:=z
   cases z'⟩
 keep:=fun i h h' st k=>k it (by simp) _ st
 item:=by
  intro X hP hw hK hc i pins s σ H E I hf st hg
  subst hP hw hK
  obtain⟨f0,f1,f2,f3,f4,f5⟩:=hf it (by simp)
  have W:=Walks.range (prog:=X.prog) (w:=X.w) (I.ok.hd hc) it lo 1 n
  refine W.item i s _ _ hg st fun v h' tk hv st' kk=>?_
  obtain⟨t,rfl⟩:=hv
  have I1:Inv X pins σ H { s with heap:=h',toks:=tk }:=I.turned (fun b o hb e=>kk b o (by simpa using hb) e) f0 f1 f3 f4 f5
  refine⟨_,rfl,go_of (s:={ s with heap:=h',toks:=tk }) (n:= "range_iterator") st' rfl rfl (by decide) ⟨.int (lo + i),H,I1,⟨t,?_⟩,⟨rfl,rfl⟩,st',fun b hb=>(hf b hb).1⟩⟩
  rw[Int.mul_one]
 done:=by
  intro X hP hw hK hc i pins s σ H E I hf st hg
  subst hP hw hK
  obtain⟨f0,f1,f2,f3,f4,f5⟩:=hf it (by simp)
  exact wpAny_pyNext_range_end (I.ok.hd hc) st (by have:n≤i:=hg;lia) fun h' eb=>⟨rfl,I.turned (t':=s.toks) (fun b o hb e=>eb b o hb e) f0 f1 f3 f4 f5⟩
 self:=fun _ _ _ _ _ st h=>wpAny_pyIter_rangeiter st h
section
variable {X:Cx} {tg:Expr}
def iList (K:PySem.W.Frag) (tl:TE):TI:=fun σ H R=>tl σ H fun x H1=>∃a,x=.ref a∧(∃xs,SqL K H1 a xs)∧R (Itl K a) H1
def iTup (K:PySem.W.Frag) (tl:TE):TI:=fun σ H R=>tl σ H fun x H1=>∃a,x=.ref a∧(∃xs,SqT K H1 a xs)∧R (Itt K a) H1
theorem pi_list {l:Expr} {tl:TE} (hl:PE X l tl):PI X tg l (iList X.K tl):=by
 intro pins s σ H R I h
 refine thn (hl pins s σ H _ I h) fun v s1 zz41=>el5 zz41 fun x H1 I1 r1 q1=>?_
 obtain⟨a,e,⟨xs,hq⟩,q⟩:=q1
 subst e
 cases r1
 obtain⟨its,rv,p,hz⟩:=I1.list hq
 refine wpAny_pyIter_list p.isList ?_
 refine⟨s1.heap.objs.size,[s1.heap.objs.size],_,_,H1,rfl,I1.kept (t':=s1.toks) fun b o e=>Heap.get?_push_of_some _ e,turn_list a _,⟨_,Heap.get?_push_size _ rfl,rfl,rfl⟩,fun b hb=>?_,q⟩
 have e:b=s1.heap.objs.size:=by simpa using hb
 subst e
 exact I1.fpOk (Nat.le_refl _) (I1.hok.fresh (Nat.le_refl _))
theorem pi_tup {l:Expr} {tl:TE} (hl:PE X l tl):PI X tg l (iTup X.K tl):=by
 intro pins s σ H R I h
 refine thn (hl pins s σ H _ I h) fun v s1 zz42=>el5 zz42 fun x H1 I1 r1 q1=>?_
 obtain⟨a,e,⟨xs,hq⟩,q⟩:=q1
 subst e
 cases r1
 obtain⟨its,rv,p,hz⟩:=I1.tuple hq
 refine wpAny_pyIter_tuple (show s1.heap.IsTuple a its.toArray from p) ?_
 refine⟨s1.heap.objs.size,[s1.heap.objs.size],_,_,H1,rfl,I1.kept (t':=s1.toks) fun b o e=>Heap.get?_push_of_some _ e,turn_tuple a _,⟨_,Heap.get?_push_size _ rfl,rfl,rfl⟩,fun b hb=>?_,q⟩
 have e:b=s1.heap.objs.size:=by simpa using hb
 subst e
 exact I1.fpOk (Nat.le_refl _) (I1.hok.fresh (Nat.le_refl _))
theorem range_it {pins:List (Addr×Obj)} {σ:St} {H:Hp} {s:Shared} {R:It→Hp→Prop} {E:Value→Shared→Prop} {lo hi:Int} {t u v:Tok} {tk:Nat} (I:Inv X pins σ H s) (h1:-(2 ^ 62)≤lo) (h2:lo < 2 ^ 62) (h3:-(2 ^ 62)≤hi) (h4:hi < 2 ^ 62)
  (q:R (Itr lo (hi - lo).toNat) H):wpAny (model X.prog X.w) X.A (pyIter (.ref s.heap.objs.size)) (PIE X pins σ tg R) E { s with heap:=s.heap.push { cls:=.type "range",data:=.fields #[.int lo t,.int hi u,.int 1 v] },toks:=tk }:=by
 refine wpAny_pyIter_range (IsRange.new ..) (small_one h1 h2 h3 h4) ?_
 have I1:Inv X pins σ H { s with heap:=s.heap.push { cls:=.type "range",data:=.fields #[.int lo t,.int hi u,.int 1 v] },toks:=tk }:=I.kept fun b o e=>Heap.get?_push_of_some _ e
 refine⟨(s.heap.push { cls:=.type "range",data:=.fields #[.int lo t,.int hi u,.int 1 v] }).objs.size,[(s.heap.push { cls:=.type "range",data:=.fields #[.int lo t,.int hi u,.int 1 v] }).objs.size],_,_,H,rfl,
  I1.kept (t':=tk) fun b o e=>Heap.get?_push_of_some _ e,turn_range _ lo (hi - lo).toNat,?_,fun b hb=>?_,q⟩
 ·have e1:lo + ((0:Nat):Int) * 1=lo:=by simp
  have e2:(((hi - lo).toNat:Nat):Int) - ((0:Nat):Int)=Builtin.Range.rangeSize lo hi 1:=by rw[rangeSize_one];split <;> lia
  show IsRangeIter _ _ (lo + ((0:Nat):Int) * 1) ((((hi - lo).toNat:Nat):Int) - ((0:Nat):Int)) 1
  rw[e1,e2]
  exact Heap.get?_push_size _ rfl
 ·have e:b=(s.heap.push { cls:=.type "range",data:=.fields #[.int lo t,.int hi u,.int 1 v] }).objs.size:=by simpa using hb
  subst e
  exact I1.fpOk (Nat.le_refl _) (I1.hok.fresh (Nat.le_refl _))
def iRng1 (ta:TA):TI:=fun σ H R=>ta σ H fun vs H1=>∃j:Int,vs=[.int j]∧-(2 ^ 62)≤j∧j < 2 ^ 62∧R (Itr 0 j.toNat) H1
theorem pi_range1 {a:Expr} {ta:TA} {p pos:Pos} (hg:Gl X "range") (hm:X.mg "range" = none) (ha:PA X [a] ta) (hs:starEach [a] X.env=[(false,eval a X.env)]:=by rfl):PI X tg (.Call (.Name "range" p) [a] [] pos) (iRng1 ta):=by
 intro pins s σ H R I h
 refine Call_ (ld_blt I hg hm boot_range (PyProof.Rows.callWith_type1 (thn (ha pos pins s σ H _ I h) fun us s1 zz43=>el5 zz43 fun vs H1 I1 r1 q1=>?_) hs rfl))
 obtain⟨j,e,q1,q2,q⟩:=q1
 subst e
 cases r1 with
 | cons r rr=>
  cases rr
  obtain⟨t,rfl⟩:=r
  exact call_range_1 (range_it I1 (by lia) (by lia) q1 q2 (by simpa using q))
def tFor (wi:TI) (g:TG) (tb:TS):TS:=fun D σ H=>wi σ H fun J H1=>∃W:Nat→Nat→St→Hp→Prop,(∃m,W 0 m σ H1)∧∀i m σ H,W i m σ H→
 (J.stop i H∧D.nx σ H)∨(J.go i H∧∃N:St→Hp→Prop,(∀σ' H',N σ' H'→∃m',m' < m∧W (i + 1) m' σ' H')∧∀x H',J.yld i H x H'→g x σ H' fun σ2 H2=>tb { D with nx:=N,ct:=N,bk:=D.nx } σ2 H2)
def pinsAt (fp:List Addr) (h:Heap):List (Addr×Obj):=fp.filterMap fun b=>(h.get? b).map fun o=>(b,o)
theorem mem_pinsAt {fp:List Addr} {h:Heap} {b:Addr} {o:Obj} (hb:b∈fp) (e:h.get? b=some o):(b,o)∈pinsAt fp h:=List.mem_filterMap.mpr ⟨b,hb,by rw[e];rfl⟩
theorem of_pinsAt {fp:List Addr} {h:Heap} {p:Addr×Obj} (hp:p∈pinsAt fp h):p.1∈fp∧h.get? p.1=some p.2:=by
 obtain⟨b,hb,e⟩:=List.mem_filterMap.mp hp
 cases q:h.get? b with
 | none=>rw[q] at e;cases e
 | some o=>
  rw[q] at e
  have e':(b,o)=p:=Option.some.inj e
  subst e'
  exact⟨hb,q⟩
theorem Inv.pinned {pins:List (Addr×Obj)} {σ:St} {H:Hp} {s:Shared} {fp:List Addr} (I:Inv X pins σ H s) (hf:∀b∈fp,FpOk X pins H b) (ho:∀b∈fp,∃o,s.heap.get? b=some o∧∀v,o.data≠.cell v):Inv X (pins++pinsAt fp s.heap) σ H s:=
 I.pins_of fun p hp=>(List.mem_append.mp hp).elim (fun z=>I.pin p (List.mem_append_right _ z)) fun z=>by
  obtain⟨hb,e⟩:=of_pinsAt z
  obtain⟨f0,f1,f2,_⟩:=hf p.1 hb
  obtain⟨o,e',d⟩:=ho p.1 hb
  rw[e] at e';cases e'
  exact⟨e,f0,f1,f2,d⟩
theorem Inv.unpinned {pins pl:List (Addr×Obj)} {σ:St} {H:Hp} {s:Shared} (I:Inv X (pins++pl) σ H s):Inv X pins σ H s:=I.pins_of fun p hp=>I.pin p (List.mem_append_right _ (List.mem_append_left _ hp))
theorem ps_for {iter:Expr} {body:List Stmt} {wi:TI} {g:TG} {tb:TS} {pos:Pos} (hp:PassesOwn (model X.prog X.w) X.A X.env X.xe) (hc:X.calm=true) (hi:PI X tg iter wi) (hg:PG X tg g) (hb:PSs X body tb)
  (hs:∀x,foldedSetIterable iter X.env x=pure x:=by intro _;rfl):PS X (.For tg iter body [] pos) (tFor wi g tb):=by
 intro pins s σ H D I h
 refine wpAny_For (thn (hi pins s σ H _ I h) fun v s1 h1=>thn h1 fun itv s2 h2=>?_) hs
 obtain⟨it,fp,tn,J,H2,e,I2,T,st2,f2,W,⟨m0,w0⟩,turn⟩:=h2
 subst e
 have stat:∀{H':Hp},(∀b∈fp,H' b=none)→∀b∈fp,FpOk X pins H' b:=fun hn b hb=>⟨hn b hb,(f2 b hb).2⟩
 refine codeAny_forLoop_any (fun n s'=>∃i σ' H',Inv X pins σ' H' s'∧tn i s'.heap∧(∀b∈fp,H' b=none)∧W i n σ' H') ?_ m0 ⟨0,σ,H2,I2,st2,fun b hb=>(f2 b hb).1,w0⟩
 rintro n s3 ⟨i,σ3,H3,I3,st3,fr3,w3⟩
 rcases turn i n σ3 H3 w3 with ⟨stop,qn⟩ | ⟨go,N,hN,step⟩
 ·refine wpAny_passesOwn hp (thn (T.done X rfl rfl rfl hc i pins s3 σ3 H3 X.xe I3 (stat fr3) st3 stop) fun r s4 zz45=>zz45.elim fun hr I4=>?_)
  subst hr
  exact wpAny_execs_nil ⟨σ3,H3,I4,qn⟩
 ·refine wpAny_passesOwn hp (thn (T.item X rfl rfl rfl hc i pins s3 σ3 H3 X.xe I3 (stat fr3) st3 go) fun r s4 zz46=>el2 zz46 fun u hr h4=>?_)
  subst hr
  refine wpAny_passesOwn hp (thn h4 fun _ s5 zz47=>zz47.elim fun x zz48=>zz48.elim fun H5 zz49=>zz49.elim fun I5 zz50=>zz50.elim fun r5 zz51=>zz51.elim fun y5 zz52=>zz52.elim fun st5 fr5=>?_)
  have I5':=I5.pinned (stat fr5) (T.obj _ _ st5)
  refine wpAny_passesOwn hp (thn (hg _ s5 σ3 H5 x u _ I5' r5 (step x H5 y5)) fun _ s6 zz53=>zz53.elim fun σ6 zz54=>zz54.elim fun H6 zz55=>zz55.elim fun I6 q6=>?_)
  refine wpAny_passesOwn hp (thn (hb _ s6 σ6 H6 _ I6 q6) fun f s7 q7=>?_)
  have again:∀{σ7:St} {H7:Hp},Inv X (pins++pinsAt fp s5.heap) σ7 H7 s7→N σ7 H7→∃m,m < n∧∃i σ' H',Inv X pins σ' H' s7∧tn i s7.heap∧(∀b∈fp,H' b=none)∧W i m σ' H':=fun {σ7 H7} I7 n7=>by
   obtain⟨m',hm,w7⟩:=hN σ7 H7 n7
   refine⟨m',hm,i + 1,σ7,H7,I7.unpinned,T.keep _ _ _ st5 fun b hb o e=>(I7.pin (b,o) (List.mem_append_right _ (List.mem_append_right _ (mem_pinsAt hb e)))).1,fun b hb=>?_,w7⟩
   obtain⟨o,e,d⟩:=T.obj _ _ st5 b hb
   exact (I7.pin (b,o) (List.mem_append_right _ (List.mem_append_right _ (mem_pinsAt hb e)))).2.1
  cases f with
  | next=>obtain⟨σ7,H7,I7,n7⟩:=q7;exact again I7 n7
  | cont=>obtain⟨σ7,H7,I7,n7⟩:=q7;exact again I7 n7
  | brk=>obtain⟨σ7,H7,I7,q7⟩:=q7;exact⟨σ7,H7,I7.unpinned,q7⟩
  | ret v=>obtain⟨x7,σ7,H7,I7,r7,q7⟩:=q7;exact⟨x7,σ7,H7,I7.unpinned,r7,q7⟩
end
theorem for_list {K:PySem.W.Frag} {a:Addr} {xs:List V} {g:TG} {tb:TS} {D:Ends} {σ:St} {H:Hp} (Pv:Nat→St→Hp→Prop) (h0:Pv 0 σ H) (hl:∀i σ H,i≤xs.length→Pv i σ H→SqL K H a xs)
  (hs:∀i x σ H,xs[i]?=some x→Pv i σ H→g x σ H fun σ2 H2=>tb { D with nx:=Pv (i + 1),ct:=Pv (i + 1),bk:=D.nx } σ2 H2) (hd:∀σ H,Pv xs.length σ H→D.nx σ H) :
  ∃W:Nat→Nat→St→Hp→Prop,(∃m,W 0 m σ H)∧∀i m σ H,W i m σ H→
   ((Itl K a).stop i H∧D.nx σ H)∨((Itl K a).go i H∧∃N:St→Hp→Prop,(∀σ' H',N σ' H'→∃m',m' < m∧W (i + 1) m' σ' H')∧∀x H',(Itl K a).yld i H x H'→g x σ H' fun σ2 H2=>tb { D with nx:=N,ct:=N,bk:=D.nx } σ2 H2):=by
 refine⟨fun i m σ H=>m=xs.length - i∧i≤xs.length∧Pv i σ H,⟨xs.length,by simp,Nat.zero_le _,h0⟩,?_⟩
 rintro i m σ H ⟨rfl,hi,p⟩
 have q:=hl i σ H hi p
 by_cases hlt:i < xs.length
 ·refine .inr ⟨⟨xs,xs[i],q,by simp [hlt]⟩,Pv (i + 1),fun σ' H' p'=>⟨xs.length - (i + 1),by lia,rfl,hlt,p'⟩,fun x H' y=>?_⟩
  obtain⟨e,y⟩:=y
  subst e
  exact hs i x σ _ (y xs q) p
 ·have e:i=xs.length:=by lia
  subst e
  exact .inl ⟨⟨xs,q,Nat.le_refl _⟩,hd σ H p⟩
theorem for_tup {K:PySem.W.Frag} {a:Addr} {xs:List V} {g:TG} {tb:TS} {D:Ends} {σ:St} {H:Hp} (Pv:Nat→St→Hp→Prop) (h0:Pv 0 σ H) (hl:∀i σ H,i≤xs.length→Pv i σ H→SqT K H a xs)
  (hs:∀i x σ H,xs[i]?=some x→Pv i σ H→g x σ H fun σ2 H2=>tb { D with nx:=Pv (i + 1),ct:=Pv (i + 1),bk:=D.nx } σ2 H2) (hd:∀σ H,Pv xs.length σ H→D.nx σ H) :
  ∃W:Nat→Nat→St→Hp→Prop,(∃m,W 0 m σ H)∧∀i m σ H,W i m σ H→
   ((Itt K a).stop i H∧D.nx σ H)∨((Itt K a).go i H∧∃N:St→Hp→Prop,(∀σ' H',N σ' H'→∃m',m' < m∧W (i + 1) m' σ' H')∧∀x H',(Itt K a).yld i H x H'→g x σ H' fun σ2 H2=>tb { D with nx:=N,ct:=N,bk:=D.nx } σ2 H2):=by
 refine⟨fun i m σ H=>m=xs.length - i∧i≤xs.length∧Pv i σ H,⟨xs.length,by simp,Nat.zero_le _,h0⟩,?_⟩
 rintro i m σ H ⟨rfl,hi,p⟩
 have q:=hl i σ H hi p
 by_cases hlt:i < xs.length
 ·refine .inr ⟨⟨xs,xs[i],q,by simp [hlt]⟩,Pv (i + 1),fun σ' H' p'=>⟨xs.length - (i + 1),by lia,rfl,hlt,p'⟩,fun x H' y=>?_⟩
  obtain⟨e,y⟩:=y
  subst e
  exact hs i x σ _ (y xs q) p
 ·have e:i=xs.length:=by lia
  subst e
  exact .inl ⟨⟨xs,q,Nat.le_refl _⟩,hd σ H p⟩
theorem for_range {lo:Int} {n:Nat} {g:TG} {tb:TS} {D:Ends} {σ:St} {H:Hp} (Pv:Nat→St→Hp→Prop) (h0:Pv 0 σ H)
  (hs:∀i σ H,i < n→Pv i σ H→g (.int (lo + i)) σ H fun σ2 H2=>tb { D with nx:=Pv (i + 1),ct:=Pv (i + 1),bk:=D.nx } σ2 H2) (hd:∀σ H,Pv n σ H→D.nx σ H) :
  ∃W:Nat→Nat→St→Hp→Prop,(∃m,W 0 m σ H)∧∀i m σ H,W i m σ H→
   ((Itr lo n).stop i H∧D.nx σ H)∨((Itr lo n).go i H∧∃N:St→Hp→Prop,(∀σ' H',N σ' H'→∃m',m' < m∧W (i + 1) m' σ' H')∧∀x H',(Itr lo n).yld i H x H'→g x σ H' fun σ2 H2=>tb { D with nx:=N,ct:=N,bk:=D.nx } σ2 H2):=by
 refine⟨fun i m σ H=>m=n - i∧i≤n∧Pv i σ H,⟨n,by simp,Nat.zero_le _,h0⟩,?_⟩
 rintro i m σ H ⟨rfl,hi,p⟩
 by_cases hlt:i < n
 ·refine .inr ⟨hlt,Pv (i + 1),fun σ' H' p'=>⟨n - (i + 1),by lia,rfl,hlt,p'⟩,fun x H' y=>?_⟩
  obtain⟨e,y⟩:=y
  subst e y
  exact hs i σ _ hlt p
 ·have e:i=n:=by lia
  subst e
  exact .inl ⟨Nat.le_refl _,hd σ H p⟩
theorem while_by {c:TT} {tb:TS} {D:Ends} {σ:St} {H:Hp} (Pv:St→Hp→Prop) (μ:St→Hp→Nat) (h0:Pv σ H)
  (hs:∀σ H,Pv σ H→c σ H fun b H1=>if b=true then tb { D with nx:=fun σ' H'=>Pv σ' H'∧μ σ' H' < μ σ H,ct:=fun σ' H'=>Pv σ' H'∧μ σ' H' < μ σ H,bk:=D.nx } σ H1 else D.nx σ H1)
  (mono:∀σ H Q Q',(∀b H1,Q b H1→Q' b H1)→c σ H Q→c σ H Q'):tWhile c tb D σ H:=by
 refine⟨fun m σ H=>m=μ σ H∧Pv σ H,⟨_,rfl,h0⟩,?_⟩
 rintro m σ H ⟨rfl,p⟩
 refine mono σ H _ _ (fun b H1 q=>?_) (hs σ H p)
 cases b with
 | true=>exact⟨_,fun σ' H' zz56=>zz56.elim fun p' l=>⟨_,l,rfl,p'⟩,q⟩
 | false=>exact q
abbrev R2:=V→V→Hp→VK→Prop
def OpR (X:Cx) (f:Value→Value→Sem Value) (r:R2):Prop:=
 ∀(pins:List (Addr×Obj)) (s:Shared) (σ:St) (H:Hp) (x y:V) (v u:Value) (Q:VK),Inv X pins σ H s→RelV x v→RelV y u→r x y H Q→
  wpAny (model X.prog X.w) X.A (f v u) (EP X pins σ Q) X.xe s
def UnR (X:Cx) (f:Value→Sem Value) (r:V→Hp→VK→Prop):Prop:=
 ∀(pins:List (Addr×Obj)) (s:Shared) (σ:St) (H:Hp) (x:V) (v:Value) (Q:VK),Inv X pins σ H s→RelV x v→r x H Q→
  wpAny (model X.prog X.w) X.A (f v) (EP X pins σ Q) X.xe s
def CallR (X:Cx) (f:Value) (r:List V→Hp→VK→Prop):Prop:=
 ∀(pins:List (Addr×Obj)) (s:Shared) (σ:St) (H:Hp) (xs:List V) (us:List Value) (Q:VK),Inv X pins σ H s→Vals xs us→r xs H Q→
  wpAny (model X.prog X.w) X.A (call f us) (EP X pins σ Q) X.xe s
def tOp (r:R2) (ta tb:TE):TE:=fun σ H Q=>ta σ H fun x H1=>tb σ H1 fun y H2=>r x y H2 Q
def tUn (r:V→Hp→VK→Prop) (ta:TE):TE:=fun σ H Q=>ta σ H fun x H1=>r x H1 Q
def rI (C:Int→Int→Prop) (g:Int→Int→V):R2:=fun x y H Q=>∃i j,x=.int i∧y=.int j∧C i j∧Q (g i j) H
def rI0 (g:Int→Int→V):R2:=fun x y H Q=>∃i j,x=.int i∧y=.int j∧Q (g i j) H
def rU (g:Int→V):V→Hp→VK→Prop:=fun x H Q=>∃i,x=.int i∧Q (g i) H
section
variable {X:Cx} {a b c:Expr} {ta tb tc:TE} {pos:Pos}
theorem binT (ha:PE X a ta) (hb:PE X b tb) {pins:List (Addr×Obj)} {s:Shared} {σ:St} {H:Hp} {R:V→V→Hp→Prop} (I:Inv X pins σ H s)
  (h:ta σ H fun x H1=>tb σ H1 fun y H2=>R x y H2) {Q:Value→Shared→Prop} {f:Value→Value→Sem Value}
  (hf:∀v u s2 x y H2,Inv X pins σ H2 s2→RelV x v→RelV y u→R x y H2→wpAny (model X.prog X.w) X.A (f v u) Q X.xe s2) :
  wpAny (model X.prog X.w) X.A (eval a X.env) (fun v s₁=>wpAny (model X.prog X.w) X.A (eval b X.env) (fun u s₂=>wpAny (model X.prog X.w) X.A (f v u) Q X.xe s₂) X.xe s₁) X.xe s:=by
 refine thn (ha pins s σ H _ I h) fun v s1 zz57=>el5 zz57 fun x H1 I1 r1 q1=>?_
 refine thn (hb pins s1 σ H1 _ I1 q1) fun u s2 zz58=>el5 zz58 fun y H2 I2 r2 q2=>?_
 exact hf v u s2 x y H2 I2 r1 r2 q2
theorem pe_op {op:Operator} {r:R2} (ho:OpR X (binaryOp op) r) (ha:PE X a ta) (hb:PE X b tb):PE X (.BinOp a op b pos) (tOp r ta tb):=by
 intro pins s σ H Q I h
 exact wpAny_BinOp (binT ha hb I h fun v u s2 x y H2 I2 rx ry q=>ho pins s2 σ H2 x y v u Q I2 rx ry q)
theorem pe_un {op:UnaryOp} {r:V→Hp→VK→Prop} (ho:UnR X (unaryOp op) r) (ha:PE X a ta):PE X (.UnaryOp op a pos) (tUn r ta):=by
 intro pins s σ H Q I h
 exact UnaryOp_ (thn (ha pins s σ H _ I h) fun v s1 zz59=>el5 zz59 fun x H1 I1 r1 q1=>ho pins s1 σ H1 x v Q I1 r1 q1)
theorem opI {f:Value→Value→Sem Value} {C:Int→Int→Prop} {g:Int→Int→Int}
  (rule:∀(i j:Int) (t u:Tok) (s:Shared) (Q:Value→Shared→Prop) (E:Value→Shared→Prop),C i j→Q (.int (g i j) s.toks) { s with toks:=s.toks + 1 }→wpAny (model X.prog X.w) X.A (f (.int i t) (.int j u)) Q E s) :
  OpR X f (rI C fun i j=>.int (g i j)):=by
 intro pins s σ H x y v u Q I rx ry h
 obtain⟨i,j,rfl,rfl,hc,q⟩:=h
 obtain⟨t,rfl⟩:=rx
 obtain⟨t',rfl⟩:=ry
 exact rule i j t t' s _ _ hc ⟨.int (g i j),H,I.tok _,⟨_,rfl⟩,q⟩
theorem opI0 {f:Value→Value→Sem Value} {g:Int→Int→Int}
  (rule:∀(i j:Int) (t u:Tok) (s:Shared) (Q:Value→Shared→Prop) (E:Value→Shared→Prop),Q (.int (g i j) s.toks) { s with toks:=s.toks + 1 }→wpAny (model X.prog X.w) X.A (f (.int i t) (.int j u)) Q E s) :
  OpR X f (rI0 fun i j=>.int (g i j)):=by
 intro pins s σ H x y v u Q I rx ry h
 obtain⟨i,j,rfl,rfl,q⟩:=h
 obtain⟨t,rfl⟩:=rx
 obtain⟨t',rfl⟩:=ry
 exact rule i j t t' s _ _ ⟨.int (g i j),H,I.tok _,⟨_,rfl⟩,q⟩
theorem opB0 {f:Value→Value→Sem Value} {g:Int→Int→Bool}
  (rule:∀(i j:Int) (t u:Tok) (s:Shared) (Q:Value→Shared→Prop) (E:Value→Shared→Prop),Q (.bool (g i j)) s→wpAny (model X.prog X.w) X.A (f (.int i t) (.int j u)) Q E s) :
  OpR X f (rI0 fun i j=>.bl (g i j)):=by
 intro pins s σ H x y v u Q I rx ry h
 obtain⟨i,j,rfl,rfl,q⟩:=h
 obtain⟨t,rfl⟩:=rx
 obtain⟨t',rfl⟩:=ry
 exact rule i j t t' s _ _ ⟨.bl (g i j),H,I,rfl,q⟩
def CPow (i j:Int):Prop:=0≤j∧j≤1000000∧i.natAbs < 2 ^ 64
def CMul (i j:Int):Prop:=(-(2 ^ 64) < i∧i < 2 ^ 64)∨(-(2 ^ 64) < j∧j < 2 ^ 64)
theorem CMul.ok {i j:Int} (h:CMul i j):IntMulOk i j:=by
 rcases h with ⟨h1,h2⟩ | ⟨h1,h2⟩
 ·exact .of_left (intBits_le_64 h1 h2)
 ·exact .of_right (intBits_le_64 h1 h2)
theorem op_add:OpR X (binaryOp .Add) (rI0 fun i j=>.int (i + j)):=opI0 fun _ _ _ _ _ _ _ q=>add_int q
theorem op_sub:OpR X (binaryOp .Sub) (rI0 fun i j=>.int (i - j)):=opI0 fun _ _ _ _ _ _ _ q=>sub_int q
theorem op_mul:OpR X (binaryOp .Mult) (rI CMul fun i j=>.int (i * j)):=opI fun _ _ _ _ _ _ _ hc q=>mul_int q hc.ok
theorem op_mod:OpR X (binaryOp .Mod) (rI (fun _ j=>0 < j) fun i j=>.int (i % j)):=opI fun i j _ _ _ _ _ hc q=>by
 have h1:(0:Int) < j:=hc
 exact mod_int' (by lia) (by rw[Int.fmod_eq_emod_of_nonneg i (by lia)];exact q)
theorem op_pow:OpR X (binaryOp .Pow) (rI CPow fun i j=>.int (i ^ j.toNat)):=opI fun _ _ _ _ _ _ _ hc q=>pow_int_small hc.1 hc.2.1 hc.2.2 q
theorem unI {f:Value→Sem Value} {g:Int→Int}
  (rule:∀(i:Int) (t:Tok) (s:Shared) (Q:Value→Shared→Prop) (E:Value→Shared→Prop),Q (.int (g i) s.toks) { s with toks:=s.toks + 1 }→wpAny (model X.prog X.w) X.A (f (.int i t)) Q E s) :
  UnR X f (rU fun i=>.int (g i)):=by
 intro pins s σ H x v Q I rx h
 obtain⟨i,rfl,q⟩:=h
 obtain⟨t,rfl⟩:=rx
 exact rule i t s _ _ ⟨.int (g i),H,I.tok _,⟨_,rfl⟩,q⟩
theorem un_neg:UnR X (unaryOp .USub) (rU fun i=>.int (-i)):=unI fun _ _ _ _ _ q=>neg_int q
end
def scal:V→V→Bool
 | .non,.non=>true | .non,.int _=>true | .int _,.non=>true | .non,.bl _=>true | .bl _,.non=>true | .non,.str _=>true | .str _,.non=>true
 | .int _,.int _=>true | .bl _,.bl _=>true | .str _,.str _=>true | .byt _,.byt _=>true
 | .int _,.str _=>true | .str _,.int _=>true | .bl _,.str _=>true | .str _,.bl _=>true
 | _,_=>false
def rEq:R2:=fun x y H Q=>scal x y=true∧Q (.bl (decide (x=y))) H
theorem dec_int {i j:Int}:decide (V.int i=V.int j)=(i == j):=by
 rw[Bool.eq_iff_iff]
 simp
theorem dec_bl {i j:Bool}:decide (V.bl i=V.bl j)=(i == j):=by
 rw[Bool.eq_iff_iff]
 simp
theorem dec_str {i j:Str}:decide (V.str i=V.str j)=(i == j):=by
 rw[Bool.eq_iff_iff]
 simp
theorem dec_byt {i j:Array UInt8}:decide (V.byt i=V.byt j)=(i.toList == j.toList):=by
 rw[Bool.eq_iff_iff]
 cases i
 cases j
 simp
section
variable {X:Cx} {a b c:Expr} {ta tb tc:TE} {pos:Pos}
theorem fin_bl {pins:List (Addr×Obj)} {σ:St} {H:Hp} {s:Shared} {Q:VK} {k k':Bool} (I:Inv X pins σ H s) (q:Q (.bl k) H) (e:k=k'):EP X pins σ Q (.bool k') s:=by
 subst e
 exact⟨.bl k,H,I,rfl,q⟩
theorem op_eq:OpR X (compareOp .Eq) rEq:=by
 intro pins s σ H x y v u Q I rx ry h
 obtain⟨hs,q⟩:=h
 cases x with
 | non=>
  cases rx
  cases y with
  | non=>cases ry;exact PySem.EqNone.eq_none_none (fin_bl I q (by simp))
  | bl j=>cases ry;exact PySem.EqNone.eq_none_bool (fin_bl I q (by simp))
  | int j=>obtain⟨t',rfl⟩:=ry;exact PySem.EqNone.eq_none_int (fin_bl I q (by simp))
  | str j=>obtain⟨t',rfl⟩:=ry;exact PySem.EqNone.eq_none_str (fin_bl I q (by simp))
  | _=>exact absurd (show false=true from hs) Bool.false_ne_true
 | bl i=>
  cases rx
  cases y with
  | non=>cases ry;exact PySem.EqNone.eq_bool_none (fin_bl I q (by simp))
  | bl j=>cases ry;exact eq_bool (fin_bl I q dec_bl)
  | str j=>obtain⟨t',rfl⟩:=ry;exact PySem.EqMixed.eq_bool_str (fin_bl I q (by simp))
  | _=>exact absurd (show false=true from hs) Bool.false_ne_true
 | int i=>
  obtain⟨t,rfl⟩:=rx
  cases y with
  | non=>cases ry;exact PySem.EqNone.eq_int_none (fin_bl I q (by simp))
  | int j=>obtain⟨t',rfl⟩:=ry;exact eq_int (fin_bl I q dec_int)
  | str j=>obtain⟨t',rfl⟩:=ry;exact PySem.EqMixed.eq_int_str (fin_bl I q (by simp))
  | _=>exact absurd (show false=true from hs) Bool.false_ne_true
 | str i=>
  obtain⟨t,rfl⟩:=rx
  cases y with
  | non=>cases ry;exact PySem.EqNone.eq_str_none (fin_bl I q (by simp))
  | bl j=>cases ry;exact PySem.EqMixed.eq_str_bool (fin_bl I q (by simp))
  | int j=>obtain⟨t',rfl⟩:=ry;exact PySem.EqMixed.eq_str_int (fin_bl I q (by simp))
  | str j=>obtain⟨t',rfl⟩:=ry;exact eq_str (fin_bl I q dec_str)
  | _=>exact absurd (show false=true from hs) Bool.false_ne_true
 | byt i=>
  obtain⟨t,rfl⟩:=rx
  cases y with
  | byt j=>obtain⟨t',rfl⟩:=ry;exact PySem.W.eq_bytes (fin_bl I q dec_byt)
  | _=>exact absurd (show false=true from hs) Bool.false_ne_true
 | _=>cases y <;> exact absurd (show false=true from hs) Bool.false_ne_true
theorem op_lt:OpR X (compareOp .Lt) (rI0 fun i j=>.bl (decide (i < j))):=opB0 fun _ _ _ _ _ _ _ q=>lt_int q
theorem op_le:OpR X (compareOp .LtE) (rI0 fun i j=>.bl (decide (i≤j))):=opB0 fun _ _ _ _ _ _ _ q=>le_int q
theorem op_gt:OpR X (compareOp .Gt) (rI0 fun i j=>.bl (decide (j < i))):=opB0 fun _ _ _ _ _ _ _ q=>gt_int q
theorem op_ge:OpR X (compareOp .GtE) (rI0 fun i j=>.bl (decide (j≤i))):=opB0 fun _ _ _ _ _ _ _ q=>ge_int q
theorem op_isN:OpR X (compareOp .Is) (fun x y H Q=>y=.non∧Q (.bl (decide (x=.non))) H):=by
 intro pins s σ H x y v u Q I rx ry h
 obtain⟨rfl,q⟩:=h
 cases ry
 refine is_none_gen (fin_bl I q ?_)
 cases x <;> first
  | (cases rx;rfl)
  | (obtain⟨t,rfl⟩:=rx;rfl)
theorem op_notN:OpR X (compareOp .IsNot) (fun x y H Q=>y=.non∧Q (.bl (!decide (x=.non))) H):=by
 intro pins s σ H x y v u Q I rx ry h
 obtain⟨rfl,q⟩:=h
 cases ry
 refine isnot_none_gen (fin_bl I q ?_)
 cases x <;> first
  | (cases rx;rfl)
  | (obtain⟨t,rfl⟩:=rx;rfl)
theorem nomark (b:Expr) {op:CmpOp} (h:op≠.In:=by decide) (h2:op≠.NotIn:=by decide):behindInMarks op b=false:=by
 have e1:(op == CmpOp.In)=false:=by cases op <;> first | rfl | exact absurd rfl h
 have e2:(op == CmpOp.NotIn)=false:=by cases op <;> first | rfl | exact absurd rfl h2
 cases b <;> simp [behindInMarks,e1,e2]
theorem pe_cmpR {op:CmpOp} {r:R2} (ho:OpR X (compareOp op) r) (ha:PE X a ta) (hb:PE X b tb) (hm:behindInMarks op b=false):PE X (.Compare a [op] [b] pos) (tOp r ta tb):=by
 intro pins s σ H Q I h
 exact wpAny_Compare1 (binT ha hb I h fun v u s2 x y H2 I2 rx ry q=>ho pins s2 σ H2 x y v u Q I2 rx ry q) hm
def tTest (t:TE):TT:=fun σ H Q=>t σ H fun x H'=>∃k,x=.bl k∧Q k H'
theorem pt_cmpR {op:CmpOp} {r:R2} (ho:OpR X (compareOp op) r) (ha:PE X a ta) (hb:PE X b tb) (hm:behindInMarks op b=false):PT X (.Compare a [op] [b] pos) (tTest (tOp r ta tb)):=by
 intro pins s σ H Q I h
 refine wpAny_isTrue_Compare1 (thn (ha pins s σ H _ I h) fun v s1 zz60=>el5 zz60 fun x H1 I1 r1 q1=>thn (hb pins s1 σ H1 _ I1 q1) fun u s2 zz61=>el5 zz61 fun y H2 I2 r2 q2=>
  thn (ho pins s2 σ H2 x y v u _ I2 r1 r2 q2) fun c s3 zz62=>zz62.elim fun z zz63=>zz63.elim fun H3 zz64=>zz64.elim fun I3 zz65=>zz65.elim fun r3 zz66=>zz66.elim fun k zz67=>zz67.elim fun e q3=>?_) hm
 subst e
 cases r3
 exact wpAny_truthy_bool ⟨H3,I3,q3⟩
def tChain (r r':R2) (ta tb tc:TE):TE:=fun σ H Q=>ta σ H fun x H1=>tb σ H1 fun y H2=>r x y H2 fun z H3=>∃k,z=.bl k∧
 (if k=true then tc σ H3 fun w' H4=>r' y w' H4 Q else Q (.bl false) H3)
theorem pe_chain {op op':CmpOp} {r r':R2} (ho:OpR X (compareOp op) r) (ho':OpR X (compareOp op') r') (ha:PE X a ta) (hb:PE X b tb) (hc:PE X c tc)
  (hm:lastMarks [op,op'] [b,c]=false:=by with_unfolding_all rfl):PE X (.Compare a [op,op'] [b,c] pos) (tChain r r' ta tb tc):=by
 intro pins s σ H Q I h
 refine Compare_chain (thn (ha pins s σ H _ I h) fun v s1 zz68=>el5 zz68 fun x H1 I1 r1 q1=>chain_link (thn (hb pins s1 σ H1 _ I1 q1) fun u s2 zz69=>el5 zz69 fun y H2 I2 r2 q2=>
  thn (ho pins s2 σ H2 x y v u _ I2 r1 r2 q2) fun d s3 zz70=>zz70.elim fun z zz71=>zz71.elim fun H3 zz72=>zz72.elim fun I3 zz73=>zz73.elim fun r3 zz74=>zz74.elim fun k zz75=>zz75.elim fun e q3=>?_)) hm
 subst e
 cases r3
 refine wpAny_truthy_bool ?_
 cases k with
 | false=>exact ite_ff ⟨.bl false,H3,I3,rfl,q3⟩
 | true=>exact ite_tt (chain_last (thn (hc pins s3 σ H3 _ I3 q3) fun w' s4 zz76=>el5 zz76 fun z' H4 I4 r4 q4=>ho' pins s4 σ H4 y z' u w' Q I4 r2 r4 q4))
theorem pt_chain {op op':CmpOp} {r r':R2} (ho:OpR X (compareOp op) r) (ho':OpR X (compareOp op') r') (ha:PE X a ta) (hb:PE X b tb) (hc:PE X c tc)
  (hm:lastMarks [op,op'] [b,c]=false:=by with_unfolding_all rfl):PT X (.Compare a [op,op'] [b,c] pos) (tTest (tChain r r' ta tb tc)):=by
 intro pins s σ H Q I h
 refine isTrue_chain (thn (ha pins s σ H _ I h) fun v s1 zz77=>el5 zz77 fun x H1 I1 r1 q1=>test_link (thn (hb pins s1 σ H1 _ I1 q1) fun u s2 zz78=>el5 zz78 fun y H2 I2 r2 q2=>
  thn (ho pins s2 σ H2 x y v u _ I2 r1 r2 q2) fun d s3 zz79=>zz79.elim fun z zz80=>zz80.elim fun H3 zz81=>zz81.elim fun I3 zz82=>zz82.elim fun r3 zz83=>zz83.elim fun k zz84=>zz84.elim fun e q3=>?_)) hm
 subst e
 cases r3
 refine wpAny_truthy_bool ?_
 cases k with
 | false=>
  obtain⟨k',e',q'⟩:=q3
  cases e'
  exact ite_ff ⟨H3,I3,q'⟩
 | true=>
  refine ite_tt (test_last (thn (hc pins s3 σ H3 _ I3 q3) fun w' s4 zz85=>el5 zz85 fun z' H4 I4 r4 q4=>thn (ho' pins s4 σ H4 y z' u w' _ I4 r2 r4 q4) fun d' s5 zz86=>zz86.elim fun z2 zz87=>zz87.elim fun H5 zz88=>zz88.elim fun I5 zz89=>zz89.elim fun r5 zz90=>zz90.elim fun k2 zz91=>zz91.elim fun e2 q5=>?_))
  subst e2
  cases r5
  exact wpAny_truthy_bool ⟨H5,I5,q5⟩
theorem line63:(sizeLine:Nat) < 2 ^ 63:=by rw[sizeLine_eq];decide
theorem vals1 {x:V} {us:List Value} (r:Vals [x] us):∃u,us=[u]∧RelV x u:=by
 cases r with
 | cons r1 r2=>cases r2;exact⟨_,rfl,r1⟩
theorem vals2 {x y:V} {us:List Value} (r:Vals [x,y] us):∃u w',us=[u,w']∧RelV x u∧RelV y w':=by
 cases r with
 | cons r1 r2=>
  cases r2 with
  | cons r3 r4=>cases r4;exact⟨_,_,rfl,r1,r3⟩
theorem call_abs:CallR X (.builtin "abs") (fun xs H Q=>∃i,xs=[.int i]∧Q (.int (if i < 0 then -i else i)) H):=by
 intro pins s σ H xs us Q I r h
 obtain⟨i,rfl,q⟩:=h
 obtain⟨u,rfl,t,rfl⟩:=vals1 r
 exact call_abs_int fun u tk=>⟨.int (if i < 0 then -i else i),H,I.tok _,⟨_,rfl⟩,q⟩
theorem call_max2 (hc:X.calm=true):CallR X (.builtin "max") (fun xs H Q=>∃i j,xs=[.int i,.int j]∧Q (.int (if j > i then j else i)) H):=by
 intro pins s σ H xs us Q I r h
 obtain⟨i,j,rfl,q⟩:=h
 obtain⟨u,w',rfl,⟨t,rfl⟩,⟨t',rfl⟩⟩:=vals2 r
 refine max_two_ints (I.ok.hd hc) fun h' tk k=>⟨_,H,I.kept k,?_,q⟩
 by_cases hj:j > i
 ·rw[if_pos hj,if_pos hj];exact⟨_,rfl⟩
 ·rw[if_neg hj,if_neg hj];exact⟨_,rfl⟩
theorem call_min2 (hc:X.calm=true):CallR X (.builtin "min") (fun xs H Q=>∃i j,xs=[.int i,.int j]∧Q (.int (if j < i then j else i)) H):=by
 intro pins s σ H xs us Q I r h
 obtain⟨i,j,rfl,q⟩:=h
 obtain⟨u,w',rfl,⟨t,rfl⟩,⟨t',rfl⟩⟩:=vals2 r
 refine min_two_ints (I.ok.hd hc) fun h' tk k=>⟨_,H,I.kept k,?_,q⟩
 by_cases hj:j < i
 ·rw[if_pos hj,if_pos hj];exact⟨_,rfl⟩
 ·rw[if_neg hj,if_neg hj];exact⟨_,rfl⟩
theorem call_int1:CallR X (.type "int") (fun xs H Q=>(∃i,xs=[.int i]∧Q (.int i) H)∨∃k,xs=[.bl k]∧Q (.int (if k then 1 else 0)) H):=by
 intro pins s σ H xs us Q I r h
 rcases h with ⟨i,rfl,q⟩ | ⟨k,rfl,q⟩
 ·obtain⟨u,rfl,t,rfl⟩:=vals1 r
  exact call_int_int ⟨.int i,H,I,⟨_,rfl⟩,q⟩
 ·obtain⟨u,rfl,r1⟩:=vals1 r
  cases r1
  exact call_int_bool ⟨.int (if k then 1 else 0),H,I.tok _,⟨_,rfl⟩,q⟩
end
structure ObjM (h:Heap) (x dx C:Addr) (mA:Str→Option Value):Prop where
 obj:h.get? x=some (PySem.W.instObj C dx)
 ns:h.Ns1 dx mA
 ne:dx≠x
theorem lookIn_ns {h:Heap} {dx:Addr} {mA:Str→Option Value} (n:h.Ns1 dx mA):∃od,h.get? dx=some od∧∀name,PySem.W.lookIn name od=some (mA name):=by
 obtain⟨o,es,ep,ho,hd,hk,_,hm⟩:=n
 refine⟨o,ho,fun name=>?_⟩
 have e:=hm name
 unfold nsFind findBy at e
 rw[←Array.find?_toList] at e
 unfold PySem.W.lookIn
 rw[hd]
 dsimp only
 split
 ·rename_i y q
  rw[q] at e
  exact congrArg some e
 ·rename_i q
  rw[q] at e
  have a:es.toList.any (·.refKey)=false:=by
   rw[List.any_eq_false]
   intro y hy
   obtain⟨z,t,hkey⟩:=hk y (Array.mem_toList_iff.mp hy)
   simp [DictEntry.refKey,hkey]
  have a':¬ es.toList.any (·.refKey)=true:=by rw[a];exact Bool.false_ne_true
  rw[if_neg a']
  exact congrArg some e
theorem ObjM.look {h:Heap} {x dx C:Addr} {mA:Str→Option Value} (I:ObjM h x dx C mA):∃od,PySem.W.InstAt h x (PySem.W.instObj C dx) C (some od)∧∀name,PySem.W.lookIn name od=some (mA name):=
 let ⟨od,ho,hl⟩:=lookIn_ns I.ns
 ⟨od,⟨I.obj,rfl,rfl,ho⟩,hl⟩
section
variable {prog:Program} {w:World} {A:Around} {E:Value→Shared→Prop} {s:Shared} {K:PySem.W.Frag} {x dx C f:Addr} {mA:Str→Option Value} {name:Str} {v:Value}
theorem get_map {expr:Bool} {Q:Value→Shared→Prop} (X:K.In s.heap) (I:ObjM s.heap x dx C mA) (hg:PySem.W.plainGet K C name=true) (hh:PySem.W.hasDictIn K C=true)
  (ha:PySem.W.findIn K (.ref C) name=some none) (hv:mA name=some v) (hv':PySem.W.handedIn v=true) (h:Q v { s with toks:=s.toks + 1 }) :
  wpAny (model prog w) A (getAttr (.ref x) name expr) Q E s:=by
 obtain⟨od,J,hl⟩:=I.look
 exact PySem.W.get_value X J (PySem.W.plainGet_of hg).1 (PySem.W.findObj_own hh ha rfl (by rw[hl,hv])) hv' h
theorem get_meth {pl:Sem Bool} {Q:Value×List Value→Shared→Prop} (X:K.In s.heap) (I:ObjM s.heap x dx C mA) (hg:PySem.W.plainGet K C name=true)
  (hf:PySem.W.findIn K (.ref C) name=some (some (.ref f))) (ht:PySem.W.isFn K (.ref f)=true) (hv:mA name=none) (h:Q (.ref f,[.ref x]) s) :
  wpAny (model prog w) A (getMethod (.ref x) name pl) Q E s:=by
 obtain⟨od,J,hl⟩:=I.look
 exact PySem.W.method_fn X J (PySem.W.plainGet_of hg).1 (PySem.W.plainGet_of hg).2 hf (beq_iff_eq.mp ht) (by show (PySem.W.lookIn name od).map (·.isSome)=some false;rw[hl,hv];rfl) h
theorem set_map {ns:List Str} {Q:Unit→Shared→Prop} (X:K.In s.heap) (I:ObjM s.heap x dx C mA)
  (hs:PySem.W.findIn K (.ref C) "__setattr__" = some (some (.builtin "object.__setattr__"))) (hp:PySem.W.plainOver K C=true) (ht:PySem.W.takerIn K C name=some none) (hh:PySem.W.hasDictIn K C=true)
  (hw:PySem.Within mA ns) (hsz:ns.length≤sizeLine)
  (h:∀h',ObjM h' x dx C (fun y=>if y=name then some v else mA y)→Heap.SameBut dx s.heap h'→Q () { s with heap:=h',toks:=s.toks + 2 }) :
  wpAny (model prog w) A (setAttr (.ref x) name v) Q E s:=by
 obtain⟨od,J,hl⟩:=I.look
 refine PySem.W.set_plain X J hs (PySem.W.osa_open (s:={ s with toks:=s.toks + 1 }) (r:=none) X J hp ht fun b=>?_)
 obtain⟨cd,hc,hd'⟩:=PySem.W.any_some hh
 have hx:s.heap.get? x=some ⟨.ref C,some dx,.plain,#[]⟩:=I.obj
 refine wpAny_bind (wpAny_pure (wpAny_bind (wpAny_bind (wpAny_loadPart hx (wpAny_bind (PySem.W.Looks.here (s:={ s with toks:=s.toks + 1 }) (PySem.W.looks_clsIn X hc) ?_))))))
 rw[hd']
 refine wpAny_pure (a:=some dx) (wpAny_bind (wpAny_pure (wpAny_bind ?_)))
 refine wpAny_nsSet1 (s:={ s with toks:=s.toks + 1 }) I.ns fun h' hn2 hs2=>?_
 obtain⟨oD,esD,epD,hoD,hdD,hcD⟩:=hn2.count (PySem.Within.cons name v hw)
 refine wpAny_bind (wpAny_lookBehind hoD (by rw[hdD];exact pastItsLine_dict (Nat.le_trans hcD (by rw[List.length_cons];lia))) ?_)
 exact wpAny_pure (h _ ⟨(hs2.2 _ (Ne.symm I.ne)).trans I.obj,hn2,I.ne⟩ hs2)
theorem make_map {R:Result→Shared→Prop} {vs:List Value} {kw:List (Str×Value)} (X:K.In s.heap) (hm:PySem.W.makesIn K C=true)
  (hi:PySem.W.findIn K (.ref C) "__init__" = some (some (.ref f))) (hf:PySem.W.typeIn K (.ref f)=some (.type "function"))
  (h:codeAny (model prog w) (A.under (.builtin "type.__call__" ⟨.ref C::vs,kw⟩)) (.call (.ref f) ⟨.ref (s.heap.objs.size + 1)::vs,kw⟩) (PySem.W.InitBack (s.heap.objs.size + 1) R)
   { s with heap:=(s.heap.push PySem.W.emptyDict).push (PySem.W.instObj C s.heap.objs.size) }) :
  codeAny (model prog w) A (.call (.ref C) ⟨vs,kw⟩) R s:=by
 obtain⟨hh,g,d,t,os⟩:=s
 exact PySem.W.make_core (PySem.W.makes_of X hm) (PySem.W.looks_findIn X hi) (fun self=>PySem.W.bind_fn X self hf) (.inl rfl) h
end
def putF (f:Str) (v:V):List (Str×V)→List (Str×V)
 | []=>[(f,v)]
 | (g,x)::r=>if g=f then (g,v)::r else (g,x)::putF f v r
theorem lookup_putF (f g:Str) (v:V):∀fs:List (Str×V),(putF f v fs).lookup g=if g=f then some v else fs.lookup g
 | []=>by
  show List.lookup g [(f,v)]=_
  by_cases h:g=f
  ·have hb:(g == f)=true:=beq_iff_eq.mpr h
   simp only[List.lookup,hb,if_pos h]
  ·have hb:(g == f)=false:=beq_eq_false_iff_ne.mpr h
   simp only[List.lookup,hb,if_neg h]
 | (k,x)::r=>by
  have ih:=lookup_putF f g v r
  rw[show putF f v ((k,x)::r)=(if k=f then (k,v)::r else (k,x)::putF f v r) from rfl]
  by_cases hk:k=f
  ·rw[if_pos hk]
   by_cases h:g=k
   ·have hb:(g == k)=true:=beq_iff_eq.mpr h
    simp only[List.lookup,hb,if_pos (h.trans hk)]
   ·have hb:(g == k)=false:=beq_eq_false_iff_ne.mpr h
    simp only[List.lookup,hb,if_neg (fun e:g=f=>h (e.trans hk.symm))]
  ·rw[if_neg hk]
   by_cases h:g=k
   ·have hb:(g == k)=true:=beq_iff_eq.mpr h
    simp only[List.lookup,hb,if_neg (fun e:g=f=>hk (h.symm.trans e))]
   ·have hb:(g == k)=false:=beq_eq_false_iff_ne.mpr h
    simp only[List.lookup,hb]
    exact ih
theorem keys_putF (f:Str) (v:V):∀fs:List (Str×V),f∈(putF f v fs).map (·.1)∧∀g,g∈fs.map (·.1)→g∈(putF f v fs).map (·.1)
 | []=>⟨by simp [putF],fun g h=>by simp at h⟩
 | (k,x)::r=>by
  obtain⟨i1,i2⟩:=keys_putF f v r
  rw[show putF f v ((k,x)::r)=(if k=f then (k,v)::r else (k,x)::putF f v r) from rfl]
  by_cases hk:k=f
  ·rw[if_pos hk]
   subst hk
   exact⟨by simp,fun g h=>by simpa using h⟩
  ·rw[if_neg hk]
   refine⟨?_,fun g h=>?_⟩
   ·rw[List.map_cons]
    exact List.mem_cons_of_mem _ i1
   ·rw[List.map_cons] at h ⊢
    rcases List.mem_cons.mp h with e | e
    ·exact List.mem_cons.mpr (.inl e)
    ·exact List.mem_cons_of_mem _ (i2 g e)
theorem length_putF (f:Str) (v:V):∀fs:List (Str×V),(putF f v fs).length≤fs.length + 1
 | []=>by simp [putF]
 | (k,x)::r=>by
  have ih:=length_putF f v r
  rw[show putF f v ((k,x)::r)=(if k=f then (k,v)::r else (k,x)::putF f v r) from rfl]
  by_cases hk:k=f
  ·rw[if_pos hk,List.length_cons,List.length_cons];lia
  ·rw[if_neg hk,List.length_cons,List.length_cons];lia
theorem RelO.some_of {v:V} {o:Option Value} (r:RelO (some v) o):∃u,o=some u∧RelV v u:=by
 cases o with
 | none=>exact (show False from r).elim
 | some u=>exact⟨u,rfl,r⟩
theorem RelO.none_of {o:Option Value} (r:RelO none o):o=none:=by
 cases o with
 | none=>rfl
 | some u=>exact (show False from r).elim
theorem handed_of {v:V} {u:Value} (r:RelV v u):PySem.W.handedIn u=true:=by
 cases v with
 | non=>cases (show u=Value.none from r);rfl
 | bl b=>cases (show u=Value.bool b from r);rfl
 | int i=>obtain⟨t,e⟩:=(show ∃t,u=Value.int i t from r);cases e;rfl
 | str x=>obtain⟨t,e⟩:=(show ∃t,u=Value.str x t from r);cases e;rfl
 | byt b=>obtain⟨t,e⟩:=(show ∃t,u=Value.bytes b t from r);cases e;rfl
 | flt b=>obtain⟨t,e⟩:=(show ∃t,u=Value.float b t from r);cases e;rfl
 | ref a=>cases (show u=Value.ref a from r);rfl
 | ty n=>cases (show u=Value.type n from r);rfl
section
variable {P:Program} {w:World} {H H':Hp} {h h':Heap} {a C dx:Addr} {fs fs':List (Str×V)}
theorem ins_get (hok:HOk P w H h) (e:H a=some (.ins C dx fs)):∃mA,ObjM h a dx C mA∧(∀f,RelO (fs.lookup f) (mA f))∧PySem.Within mA (fs.map (·.1))∧fs.length≤1000∧H dx=some (.own a):=by
 obtain⟨d,z,ne,ob,mA,n,r,q⟩:=(show ObjOk P w H h a (.ins C dx fs) from hok a _ e)
 exact⟨mA,⟨ob,n,ne⟩,r,q,z,d⟩
end
structure Cls (K:PySem.W.Frag) (C:Addr):Prop where
 pg:PySem.W.plainGet K C Str.empty=true
 hd:PySem.W.hasDictIn K C=true
 po:PySem.W.plainOver K C=true
 sa:PySem.W.findIn K (.ref C) "__setattr__" = some (some (.builtin "object.__setattr__"))
theorem Cls.get {K:PySem.W.Frag} {C:Addr} (c:Cls K C) (f:Str):PySem.W.plainGet K C f=true:=c.pg
def NoAttr (K:PySem.W.Frag) (C:Addr) (f:Str):Prop:=PySem.W.findIn K (.ref C) f=some none
theorem NoAttr.taker {K:PySem.W.Frag} {C:Addr} {f:Str} (n:NoAttr K C f):PySem.W.takerIn K C f=some none:=by
 unfold PySem.W.takerIn
 rw[show PySem.W.findIn K (.ref C) f=some none from n]
 rfl
structure Meth (K:PySem.W.Frag) (C:Addr) (m:Str) (f:Addr):Prop where
 at_:PySem.W.findIn K (.ref C) m=some (some (.ref f))
 fn:PySem.W.isFn K (.ref f)=true
 kp:PySem.W.keepIn K (.ref f)=true
section
variable {X:Cx} {pins:List (Addr×Obj)} {σ:St} {H:Hp} {s:Shared} {a C dx:Addr} {fs:List (Str×V)} {f:Str} {v:V} {A:Around} {E:Value→Shared→Prop}
theorem getattr_ok {b:Bool} {Q:Value→Shared→Prop} (I:Inv X pins σ H s) (e:H a=some (.ins C dx fs)) (c:Cls X.K C) (n:NoAttr X.K C f) (l:fs.lookup f=some v)
  (h:∀u s',Inv X pins σ H s'→RelV v u→Q u s'):wpAny (model X.prog X.w) A (getAttr (.ref a) f b) Q E s:=by
 obtain⟨mA,O,r,_,_,_⟩:=ins_get I.hok e
 obtain⟨u,hu,ru⟩:=RelO.some_of (v:=v) (o:=mA f) (by rw[←l];exact r f)
 exact get_map I.kIn O (c.get f) c.hd n hu (handed_of ru) (h u _ (I.tok _) ru)
theorem getmeth_ok {m:Str} {g:Addr} {pl:Sem Bool} {Q:Value×List Value→Shared→Prop} (I:Inv X pins σ H s) (e:H a=some (.ins C dx fs)) (c:Cls X.K C) (k:Meth X.K C m g) (l:fs.lookup m=none)
  (h:Q (.ref g,[.ref a]) s):wpAny (model X.prog X.w) A (getMethod (.ref a) m pl) Q E s:=by
 obtain⟨mA,O,r,_,_,_⟩:=ins_get I.hok e
 have hn:mA m=none:=RelO.none_of (by rw[←l];exact r m)
 exact get_meth I.kIn O (c.get m) k.at_ k.fn hn h
theorem setattr_ok {y:V} {u:Value} {Q:Unit→Shared→Prop} (I:Inv X pins σ H s) (e:H a=some (.ins C dx fs)) (c:Cls X.K C) (n:NoAttr X.K C f) (hl:fs.length < 1000) (ry:RelV y u)
  (h:∀s',Inv X pins σ (upd H a (.ins C dx (putF f y fs))) s'→Q () s'):wpAny (model X.prog X.w) A (setAttr (.ref a) f u) Q E s:=by
 obtain⟨mA,O,r,wi,_,ho⟩:=ins_get I.hok e
 have hz:(fs.map (·.1)).length≤sizeLine:=by rw[List.length_map,sizeLine_eq];lia
 refine set_map I.kIn O c.sa c.po n.taker c.hd wi hz fun h' O' sb=>h _ ?_
 have hd:∃o,h'.get? dx=some o:=let ⟨o,_,_,e',_⟩:=O'.ns;⟨o,e'⟩
 refine I.write (x:=a) (e:=dx) (by rw[e];exact True.intro) (.inr ho) (fun b q hb z=>(sb.2 b hb).trans z) hd ?_
 refine⟨by rw[upd_ne O.ne];exact ho,?_,O.ne,O'.obj,_,O'.ns,fun g=>?_,fun g hg=>?_⟩
 ·have:=length_putF f y fs;lia
 ·show RelO ((putF f y fs).lookup g) (if g=f then some u else mA g)
  rw[lookup_putF]
  by_cases q:g=f
  ·rw[if_pos q,if_pos q];exact ry
  ·rw[if_neg q,if_neg q];exact r g
 ·by_cases q:g=f
  ·rw[q];exact (keys_putF f y fs).1
  ·refine (keys_putF f y fs).2 g (wi g fun z=>hg ?_)
   show (if g=f then some u else mA g)=none
   rw[if_neg q];exact z
theorem Inv.made (I:Inv X pins σ H s):Inv X pins σ (upd (upd H s.heap.objs.size (.own (s.heap.objs.size + 1))) (s.heap.objs.size + 1) (.ins C s.heap.objs.size []))
  { s with heap:=(s.heap.push PySem.W.emptyDict).push (PySem.W.instObj C s.heap.objs.size) }:=by
 have e1:(s.heap.push PySem.W.emptyDict).get? s.heap.objs.size=some PySem.W.emptyDict:=Heap.get?_push_size s.heap rfl
 have e2:((s.heap.push PySem.W.emptyDict).push (PySem.W.instObj C s.heap.objs.size)).get? (s.heap.objs.size + 1)=some (PySem.W.instObj C s.heap.objs.size):=by
  have:=Heap.get?_push_size (s.heap.push PySem.W.emptyDict) (o:=PySem.W.instObj C s.heap.objs.size) rfl
  rwa [Heap.size_push] at this
 have e3:(s.heap.push PySem.W.emptyDict).Ns s.heap.objs.size (fun _=>none):=⟨PySem.W.emptyDict,#[],_,e1,rfl,(fun e he=>absurd he (by simp)),fun _=>rfl⟩
 have I1:=I.laid (a:=s.heap.objs.size) (o:=.own (s.heap.objs.size + 1)) (h':=s.heap.push PySem.W.emptyDict) (t':=s.toks) (fun b u q=>Heap.get?_push_of_some _ q) (Nat.le_refl _) ⟨_,e1⟩
 refine I1.laid (a:=s.heap.objs.size + 1) (o:=.ins C s.heap.objs.size []) (t':=s.toks) (fun b u q=>Heap.get?_push_of_some _ q) (Nat.le_of_eq (Heap.size_push _ _)) ?_
 have ne:s.heap.objs.size≠s.heap.objs.size + 1:=Nat.ne_of_lt (Nat.lt_succ_self _)
 refine⟨by rw[upd_ne ne,upd_same],Nat.zero_le _,ne,e2,fun _=>none,(Heap.Ns1.of_empty e3).at fun o q=>Heap.get?_push_of_some _ q,fun _=>True.intro,fun y hy=>absurd rfl hy⟩
theorem attr_of {prog:Program} {w:World} {env:Env} {e:Expr} {f:Str} {pos:Pos} {s:Shared} {Q:Value→Shared→Prop} (hb:attributeBase e f env (eval e env)=eval e env)
  (h:wpAny (model prog w) A (eval e env) (fun o s₁=>wpAny (model prog w) A (getAttr o f true) Q E s₁) E s):wpAny (model prog w) A (eval (.Attribute e f pos) env) Q E s:=
 Attribute_any_ h (by rw[arm_eval_Attribute,hb])
end
def tFld (K:PySem.W.Frag) (ta:TE) (f:Str):TE:=fun σ H Q=>ta σ H fun x H1=>∃a C dx fs v,x=.ref a∧H1 a=some (.ins C dx fs)∧Cls K C∧NoAttr K C f∧fs.lookup f=some v∧Q v H1
def sFld (K:PySem.W.Frag) (ta tv:TE) (f:Str):TS:=fun D σ H=>tv σ H fun y H1=>ta σ H1 fun x H2=>∃a C dx fs,x=.ref a∧H2 a=some (.ins C dx fs)∧Cls K C∧NoAttr K C f∧fs.length < 1000∧
 D.nx σ (upd H2 a (.ins C dx (putF f y fs)))
section
variable {X:Cx} {o e value:Expr} {f:Str} {pos pos' tpos:Pos} {ta tv:TE}
theorem pe_fld (he:PE X e ta) (hb:attributeBase e f X.env (eval e X.env)=eval e X.env):PE X (.Attribute e f pos) (tFld X.K ta f):=by
 intro pins s σ H Q I h
 refine attr_of hb (thn (he pins s σ H _ I h) fun u s1 zz93=>zz93.elim fun x zz94=>zz94.elim fun H1 zz95=>zz95.elim fun I1 zz96=>zz96.elim fun rx zz97=>zz97.elim fun a zz98=>zz98.elim fun C zz99=>zz99.elim fun dx zz100=>zz100.elim fun fs zz101=>zz101.elim fun v zz102=>zz102.elim fun ex zz103=>zz103.elim fun ea zz104=>zz104.elim fun c zz105=>zz105.elim fun n zz106=>zz106.elim fun l q=>?_)
 subst ex
 obtain rfl:u=Value.ref a:=rx
 exact getattr_ok I1 ea c n l fun u' s2 I2 ru=>⟨v,H1,I2,ru,q⟩
theorem ps_fld (ha:PE X o ta) (hv:PE X value tv) (hs:swapsWith value (some (.Attribute o f pos')) pos.line X.env=pure false):PS X (.Assign [.Attribute o f pos'] value pos) (sFld X.K ta tv f):=by
 intro pins s σ H D I h
 refine plainObj_wpAny_Assign_Attribute (thn (hv pins s σ H _ I h) fun u s1 zz122=>el5 zz122 fun y H1 I1 ry q=>thn (ha pins s1 σ H1 _ I1 q) fun ov s2 zz123=>zz123.elim fun x zz124=>zz124.elim fun H2 zz125=>zz125.elim fun I2 zz126=>zz126.elim fun rx zz127=>zz127.elim fun a zz128=>zz128.elim fun C zz129=>zz129.elim fun dx zz130=>zz130.elim fun fs zz131=>zz131.elim fun ex zz132=>zz132.elim fun ea zz133=>zz133.elim fun c zz134=>zz134.elim fun n zz135=>zz135.elim fun l q2=>?_) hs
 subst ex
 obtain rfl:ov=Value.ref a:=rx
 exact setattr_ok I2 ea c n l ry fun s3 I3=>⟨σ,_,I3,q2⟩
end
section
variable {X:Cx} {pins:List (Addr×Obj)} {σ:St} {H:Hp} {s:Shared} {A:Around} {E:Value→Shared→Prop} {Q:Value→Shared→Prop} {c:Value} {b:Bool}
inductive TyOf (K:PySem.W.Frag) (H:Hp):V→Value→Prop where
 | non:TyOf K H .non (.type "NoneType")
 | bl (x:Bool):TyOf K H (.bl x) (.type "bool")
 | int (i:Int):TyOf K H (.int i) (.type "int")
 | str (x:Str):TyOf K H (.str x) (.type "str")
 | flt (x:UInt64):TyOf K H (.flt x) (.type "float")
 | lst {a:Addr} {xs:List V} (e:H a=some (.lst xs)):TyOf K H (.ref a) (.type "list")
 | frz {a:Addr} {o:Obj} {xs:List V} (e:H a=some (.frz o (.lst xs))):TyOf K H (.ref a) (.type "list")
 | tup {a:Addr} {xs:List V} (e:H a=some (.tup xs)):TyOf K H (.ref a) (.type "tuple")
 | dK {a:Addr} {kvs:List (Key×V)} (e:H a=some (.dK kvs)):TyOf K H (.ref a) (.type "dict")
 | dT {a:Addr} {kvs:List (List Key×V)} (e:H a=some (.dT kvs)):TyOf K H (.ref a) (.type "dict")
 | ins {a C dx:Addr} {fs:List (Str×V)} (e:H a=some (.ins C dx fs)) (cl:Cls K C) (ha:PySem.W.findIn K (.ref C) "__class__" = some (some (.builtin "object.__class__")))
   (hn:PySem.W.specialIn K (.builtin "object.__class__") "__get__" = some (some (.builtin "getset_descriptor.__get__"))) (htk:PySem.W.takesIn K (.builtin "object.__class__")=some true)
   (hm:PySem.W.mroIn K C (.type "object")=some true):TyOf K H (.ref a) (.ref C)
theorem isinst_ok {x:V} {u t:Value} (I:Inv X pins σ H s) (rx:RelV x u) (ty:TyOf X.K H x t) (e:PySem.W.kitOne X.K t c=some b) (h:∀tk,Q (.bool b) { s with toks:=tk }) :
  wpAny (model X.prog X.w) A (call (.builtin "isinstance") [u,c]) Q E s:=by
 cases ty with
 | non=>cases (show u=Value.none from rx);exact PySem.W.kia_one PySem.W.kitx_none I.kIn True.intro e (fun z=>nomatch z) h
 | bl y=>cases (show u=Value.bool y from rx);exact PySem.W.kia_one PySem.W.kitx_bool I.kIn True.intro e (fun z=>nomatch z) h
 | int i=>obtain⟨t,q⟩:=(show ∃t,u=Value.int i t from rx);cases q;exact PySem.W.kia_one PySem.W.kitx_int I.kIn True.intro e (fun z=>nomatch z) h
 | str y=>obtain⟨t,q⟩:=(show ∃t,u=Value.str y t from rx);cases q;exact PySem.W.kia_one PySem.W.kitx_str I.kIn True.intro e (fun z=>nomatch z) h
 | flt y=>obtain⟨t,q⟩:=(show ∃t,u=Value.float y t from rx);cases q;exact PySem.W.kia_one PySem.W.kitx_float I.kIn True.intro e (fun z=>nomatch z) h
 | @lst a xs ea=>
  cases (show u=Value.ref a from rx)
  obtain⟨_,_,n,_,h1⟩:=(show ObjOk X.prog X.w H s.heap a (.lst xs) from I.hok a _ ea)
  exact PySem.W.kia_one PySem.W.kitx_list I.kIn ⟨_,h1,rfl⟩ e (fun z=>nomatch z) h
 | @frz a ob xs ea=>
  cases (show u=Value.ref a from rx)
  obtain⟨_,_,_,n,_,h1⟩:=(show ObjOk X.prog X.w H s.heap a (.frz ob (.lst xs)) from I.hok a _ ea)
  exact PySem.W.kia_one PySem.W.kitx_list I.kIn ⟨_,h1,rfl⟩ e (fun z=>nomatch z) h
 | @tup a xs ea=>
  cases (show u=Value.ref a from rx)
  obtain⟨_,_,_,p⟩:=(show ObjOk X.prog X.w H s.heap a (.tup xs) from I.hok a _ ea)
  obtain⟨o,h1,h2,_⟩:=p
  exact PySem.W.kia_one PySem.W.kitx_tuple I.kIn ⟨o,h1,h2⟩ e (fun z=>nomatch z) h
 | @dK a kvs ea=>
  cases (show u=Value.ref a from rx)
  obtain⟨_,_,vs,_,p⟩:=(show ObjOk X.prog X.w H s.heap a (.dK kvs) from I.hok a _ ea)
  obtain⟨o,es,ep,h1,h2,_⟩:=p
  exact PySem.W.kia_one PySem.W.kitx_dict I.kIn ⟨o,h1,h2.1⟩ e (fun z=>nomatch z) h
 | @dT a kvs ea=>
  cases (show u=Value.ref a from rx)
  obtain⟨_,_,xs,_,o,es,ep,h1,h2,_⟩:=(show ObjOk X.prog X.w H s.heap a (.dT kvs) from I.hok a _ ea)
  exact PySem.W.kia_one PySem.W.kitx_dict I.kIn ⟨o,h1,h2.1⟩ e (fun z=>nomatch z) h
 | @ins a C dx fs ea cl ha hn htk hm=>
  cases (show u=Value.ref a from rx)
  obtain⟨mA,O,_⟩:=ins_get I.hok ea
  obtain⟨od,J,_⟩:=O.look
  exact PySem.W.kia_one (PySem.W.kitx_own (cl.get _) cl.hd ha hn htk hm) I.kIn J e (fun z=>nomatch z) h
end
structure Room (k:Nat) (A:Around):Prop where
 hd:A.handled=none
 dp:A.depth + 3 * k + 5 < recursionLimit
 un:A.units + 16 * k + 200 < cLine
 gd:A.guards=some []
theorem Room.mono {j k:Nat} {A:Around} (r:Room k A) (h:j≤k):Room j A:=⟨r.hd,by have:=r.dp;lia,by have:=r.un;lia,r.gd⟩
theorem Room.deeper {k:Nat} {A:Around} (r:Room (k + 1) A) (env:Env):Room k (A.deeper env):=
 ⟨r.hd,by have:=r.dp;show A.depth + 1 + 3 * k + 5 < _;lia,by have:=r.un;show A.units + 3 + 16 * k + 200 < _;lia,r.gd⟩
theorem make_depth {A:Around} {C:Addr} {us:List Value} {kw:List (Str×Value)}:(A.under (.builtin "type.__call__" ⟨.ref C::us,kw⟩)).depth=A.depth + 1:=by
 first | rfl | simp [Around.under,Code.weight,Code.isCreation,Code.isGuard,Code.isCaller,Code.frames,Code.isFrame,guardIds]
theorem make_units {A:Around} {C:Addr} {us:List Value} {kw:List (Str×Value)}:(A.under (.builtin "type.__call__" ⟨.ref C::us,kw⟩)).units=A.units + 1:=by
 first | rfl | simp [Around.under,Code.cUnits,Code.frames,Code.isFrame]
theorem Room.make {k:Nat} {A:Around} (r:Room (k + 1) A) (C:Addr) (us:List Value) (kw:List (Str×Value)):Room k (A.under (.builtin "type.__call__" ⟨.ref C::us,kw⟩)):=
 ⟨r.hd,by have:=r.dp;rw[make_depth];lia,by have:=r.un;rw[make_units];lia,by first | exact r.gd | (show pushGuards _ A.guards=_;rw[r.gd];rfl)⟩
theorem Room.depth {k:Nat} {A:Around} (r:Room k A):A.depth < recursionLimit:=by have:=r.dp;lia
theorem Room.units {k:Nat} {A:Around} (r:Room k A):A.units + 64 < cLine:=by have:=r.un;lia
def tNil:TA:=fun _ H Q=>Q [] H
def tCons (ta:TE) (tr:TA):TA:=fun σ H Q=>ta σ H fun x H1=>tr σ H1 fun xs H2=>Q (x::xs) H2
section
variable {X:Cx} {e:Expr} {es:List Expr} {te:TE} {t:TA} {pos:Pos}
theorem pa_nil:PA X [] tNil:=fun _ _ _ _ H Q I h=>Calls.spliced_nil ⟨[],H,I,.nil,h⟩
theorem pa_cons (ha:PE X e te) (hr:PA X es t) (hs:starEach (e::es) X.env=(false,eval e X.env)::starEach es X.env:=by rfl):PA X (e::es) (tCons te t):=by
 intro pos pins s σ H Q I h
 rw[hs]
 show wpAny _ _ (spliced ((false,eval e X.env)::backTo pos (starEach es X.env))) _ _ s
 refine Calls.spliced_cons (thn (ha pins s σ H _ I h) fun u s1 zz173=>el5 zz173 fun x H1 I1 r1 q1=>?_)
 exact thn (hr pos pins s1 σ H1 _ I1 q1) fun us s2 zz174=>el5 zz174 fun xs H2 I2 r2 q2=>⟨x::xs,H2,I2,.cons r1 r2,q2⟩
def tTup (t:TA):TE:=fun σ H Q=>t σ H fun xs H1=>xs.length≤sizeLine∧∀p,H1 p=none→Q (.ref p) (upd H1 p (.tup xs))
def tLst (t:TA):TE:=fun σ H Q=>t σ H fun xs H1=>xs.length≤sizeLine∧∀p,H1 p=none→Q (.ref p) (upd H1 p (.lst xs))
theorem pe_tup {x1} (h:PA X es t):PE X (.Tuple es x1 pos) (tTup t):=by
 intro pins s σ H Q I hq
 refine wpAny_Tuple_spliced (thn (h pos pins s σ H _ I hq) fun us s1 zz175=>zz175.elim fun xs zz176=>zz176.elim fun H1 zz177=>zz177.elim fun I1 zz178=>zz178.elim fun r zz179=>zz179.elim fun z q=>⟨by rw[←r.length];exact z,?_⟩)
 have hf:H1 s1.heap.objs.size=none:=I1.hok.fresh (Nat.le_refl _)
 refine⟨.ref s1.heap.objs.size,upd H1 s1.heap.objs.size (.tup xs),I1.laid (t':=s1.toks) (fun b u e=>Heap.get?_push_of_some _ e) (Nat.le_refl _) ?_,rfl,q _ hf⟩
 exact⟨z,us,r,⟨_,Heap.get?_push_size _ rfl,rfl,_,rfl⟩⟩
theorem pe_lst (h:PA X es t):PE X (.List es pos) (tLst t):=by
 intro pins s σ H Q I hq
 refine wpAny_List_spliced (thn (h pos pins s σ H _ I hq) fun us s1 zz180=>zz180.elim fun xs zz181=>zz181.elim fun H1 zz182=>zz182.elim fun I1 zz183=>zz183.elim fun r zz184=>zz184.elim fun z q=>⟨by rw[←r.length];exact z,?_⟩)
 have hf:H1 s1.heap.objs.size=none:=I1.hok.fresh (Nat.le_refl _)
 refine⟨.ref s1.heap.objs.size,upd H1 s1.heap.objs.size (.lst xs),I1.laid (t':=s1.toks) (fun b u e=>Heap.get?_push_of_some _ e) (Nat.le_refl _) ?_,rfl,q _ hf⟩
 exact⟨z,us,0,r,Heap.get?_push_size _ rfl⟩
end
abbrev Sp:=List V→Hp→VK→XK→Prop
abbrev CXT:=List Env→Hp→Shared→XK→Value→Shared→Prop
structure Env0 (P:Program) (w:World) (K:PySem.W.Frag) (mg:Str→Option Value) (base:Heap) (A:Around) (outer:List Env) (s:Shared) (H:Hp):Prop where
 frames:A.frames=some outer
 mod:Mod K mg base
 bs:∀b o,base.get? b=some o→s.heap.get? b=some o∧H b=none
 bsz:base.objs.size≤s.heap.objs.size
 funs:s.heap.FunFrames base outer
 frf:∀b∈frs outer,H b=none
 hok:HOk P w H s.heap
 bare:AllBare s.gens
def CE (outer:List Env) (P:Program) (w:World) (H:Hp) (s:Shared) (Q:VK) (u:Value) (s':Shared):Prop:=
 ∃v H',s'.os=s.os∧AllBare s'.gens∧Un (frs outer) [] H H' s.heap s'.heap∧HOk P w H' s'.heap∧RelV v u∧Q v H'
def CR (CX:CXT) (outer:List Env) (P:Program) (w:World) (H:Hp) (s:Shared) (Q:VK) (E:XK) (r:Result) (s':Shared):Prop:=
 match r with
 | .ok (.ret u)=>CE outer P w H s Q u s'
 | .ok _=>False
 | .error e=>CX outer H s E e s'
structure FnOk (P:Program) (w:World) (K:PySem.W.Frag) (mg:Str→Option Value) (base:Heap) (CX:CXT) (k:Nat) (f:Addr) (fd:FuncData) (ps:List Str) (sp:Sp):Prop where
 len:∀vs H Q E,sp vs H Q E→vs.length=ps.length
 run:∀(A:Around) (outer:List Env) (s:Shared) (H:Hp) (args:Args) (us:List Value) (vs:List V) (Q:VK) (E:XK),Room k A→Env0 P w K mg base A outer s H→BindsTo s fd args (ps.zip us)→Vals vs us→sp vs H Q E→
  codeAny (model P w) A (.call (.ref f) args) (CR CX outer P w H s Q E) s
theorem FnOk.imp {P:Program} {w:World} {K:PySem.W.Frag} {mg:Str→Option Value} {base:Heap} {CX:CXT} {k:Nat} {f:Addr} {fd:FuncData} {ps:List Str} {sp sp':Sp} (F:FnOk P w K mg base CX k f fd ps sp)
  (h:∀vs H Q E,sp' vs H Q E→sp vs H Q E):FnOk P w K mg base CX k f fd ps sp':=
 ⟨fun vs H Q E q=>F.len vs H Q E (h _ _ _ _ q),fun A outer s H args us vs Q E hr he hb hv hs=>F.run A outer s H args us vs Q E hr he hb hv (h _ _ _ _ hs)⟩
theorem Env0.make {P:Program} {w:World} {K:PySem.W.Frag} {mg:Str→Option Value} {base:Heap} {A:Around} {outer:List Env} {s:Shared} {H:Hp} (e:Env0 P w K mg base A outer s H) (C:Addr) (us:List Value) (kw:List (Str×Value)) :
  Env0 P w K mg base (A.under (.builtin "type.__call__" ⟨.ref C::us,kw⟩)) outer s H:=⟨by first | exact e.frames | (simpa [Around.under,Code.envs,Code.isFrame,pushEnvs] using e.frames),e.mod,e.bs,e.bsz,e.funs,e.frf,e.hok,e.bare⟩
section
variable {X:Cx} {pins:List (Addr×Obj)} {σ:St} {H:Hp} {s s':Shared}
theorem Inv.env0 (I:Inv X pins σ H s):Env0 X.prog X.w X.K X.mg X.base X.A X.stack s H:=
 ⟨I.ok.frames,I.ok.mod,I.bs,Nat.le_trans I.ok.bsz I.sz,I.stack,I.stkFree,I.hok,I.bare⟩
theorem Inv.after {Q:VK} {u:Value} (I:Inv X pins σ H s) (h:CE X.stack X.prog X.w H s Q u s'):EP X pins σ Q u s':=by
 obtain⟨v,H',os,bare,un,hok,r,q⟩:=h
 obtain⟨hh,g,d,t,os'⟩:=s'
 obtain rfl:os'=s.os:=os
 exact⟨v,H',I.call (h':=hh) (g':=g) (d':=d) (t':=t) (ch:=[]) un hok bare (fun b z=>absurd z (by simp)),r,q⟩
end
def tCall (sp:Sp) (dvs:List V) (E:XK) (t:TA):TE:=fun σ H Q=>t σ H fun vs H1=>sp (vs++dvs) H1 Q E
def tMeth (C:Addr) (m:Str) (sp:Sp) (dvs:List V) (E:XK) (ta:TE) (t:TA):TE:=fun σ H Q=>ta σ H fun x H1=>∃a dx fs,x=.ref a∧H1 a=some (.ins C dx fs)∧fs.lookup m=none∧
 t σ H1 fun vs H2=>sp (x::(vs++dvs)) H2 Q E
def tMake (C:Addr) (sp:Sp) (dvs:List V) (E:XK) (t:TA):TE:=fun σ H Q=>t σ H fun vs H1=>∀x dx,H1 x=none→H1 dx=none→dx≠x→
 sp (.ref x::(vs++dvs)) (upd (upd H1 dx (.own x)) x (.ins C dx [])) (fun v H2=>v=.non∧Q (.ref x) H2) E
def Binds (K:PySem.W.Frag) (fd:FuncData) (ps:List Str) (ds:List Value):Prop:=
 ∀(s:Shared) (us:List Value),K.In s.heap→(us++ds).length=ps.length→BindsTo s fd ⟨us,[]⟩ (ps.zip (us++ds))
theorem Binds.all {K:PySem.W.Frag} {fd:FuncData} {ps:List Str} (h:∀us:List Value,us.length=ps.length→bindArgs fd ⟨us,[]⟩=pure (ps.zip us)):Binds K fd ps []:=fun s us _ hl=>by
 rw[List.append_nil] at hl ⊢
 exact .of_eq (h us hl)
def Passes (CX:CXT) (X:Cx) (E:XK):Prop:=∀(pins:List (Addr×Obj)) (σ:St) (H:Hp) (s:Shared) (e:Value) (s':Shared),Inv X pins σ H s→CX X.stack H s E e s'→X.xe e s'
section
variable {X:Cx} {CX:CXT} {k:Nat} {f C:Addr} {fd:FuncData} {ps:List Str} {sp:Sp} {dvs:List V} {ds:List Value} {E:XK} {x m:Str} {p pos apos:Pos} {e o:Expr} {es:List Expr} {ta:TE} {t:TA}
theorem run_fn {pins:List (Addr×Obj)} {σ:St} {H:Hp} {s:Shared} {Q:VK} {us:List Value} {vs:List V} (F:FnOk X.prog X.w X.K X.mg X.base CX k f fd ps sp) (hr:Room k X.A) (hb:Binds X.K fd ps ds) (hd:Vals dvs ds) (hx:Passes CX X E)
  (I:Inv X pins σ H s) (r:Vals vs us) (h:sp (vs++dvs) H Q E):wpAny (model X.prog X.w) X.A (call (.ref f) us) (EP X pins σ Q) X.xe s:=by
 have r2:Vals (vs++dvs) (us++ds):=r.append hd
 have hl:(us++ds).length=ps.length:=by rw[←r2.length];exact F.len _ _ _ _ h
 refine wpAny_call (codeAny_mono (F.run X.A X.stack s H ⟨us,[]⟩ (us++ds) (vs++dvs) Q E hr I.env0 (hb s us I.kIn hl) r2 h) fun r s' hq=>?_)
 cases r with
 | error e=>exact hx pins σ H s e s' I hq
 | ok fl=>
  cases fl with
  | ret u=>exact I.after hq
  | next=>exact False.elim hq
  | brk=>exact False.elim hq
  | cont=>exact False.elim hq
theorem pe_call (F:FnOk X.prog X.w X.K X.mg X.base CX k f fd ps sp) (hr:Room k X.A) (hg:Gl X x) (hm:X.mg x=some (.ref f)) (hk:PySem.W.keepIn X.K (.ref f)=true) (hb:Binds X.K fd ps ds) (hd:Vals dvs ds) (hx:Passes CX X E)
  (ha:PA X (e::es) t) (hdb:(x == ("__debug__" : Str))=false:=by decide) (he:starEach (e::es) X.env=(false,eval e X.env)::starEach es X.env:=by rfl) (hpl:(backTo pos (starEach es X.env)).any (·.1)=false:=by rfl) :
  PE X (.Call (.Name x p) (e::es) [] pos) (tCall sp dvs E t):=by
 intro pins s σ H Q I h
 refine wpAny_Call_Name_kw (ld_glob I hg hm ?_ hdb)
 refine PySem.W.callWith_K (h₀:=X.base) I.ok.mod.kin hk (thn (ha pos pins s σ H _ I h) fun us s1 zz185=>el5 zz185 fun vs H1 I1 r q=>⟨I1.kIn,?_⟩) he hpl
 exact run_fn F hr hb hd hx I1 r q
theorem pe_meth {pl:Sem Bool} (he:PE X o ta) (c:Cls X.K C) (hm:Meth X.K C m f) (F:FnOk X.prog X.w X.K X.mg X.base CX k f fd ps sp) (hr:Room k X.A) (hb:Binds X.K fd ps ds) (hd:Vals dvs ds) (hx:Passes CX X E) (ha:PA X (e::es) t)
  (hst:starEach (e::es) X.env=(false,eval e X.env)::starEach es X.env:=by rfl) (hpl:(backTo pos (starEach es X.env)).any (·.1)=false:=by rfl)
  (ht:eval (.Call (.Attribute o m apos) (e::es) [] pos) X.env=(do
   let ov ←eval o X.env
   standAt apos.atName
   let (f,first) ←holding [ov] (getMethod ov m pl)
   callWith pos f first (backTo pos (starEach (e::es) X.env)) (backToKw pos (keywordEach [] X.env))):=by rfl) :
  PE X (.Call (.Attribute o m apos) (e::es) [] pos) (tMeth C m sp dvs E ta t):=by
 intro pins s σ H Q I h
 refine PySem.W.methodCall_KW (pl:=pl) (thn (he pins s σ H _ I h) fun u s1 zz186=>zz186.elim fun x zz187=>zz187.elim fun H1 zz188=>zz188.elim fun I1 zz189=>zz189.elim fun rx zz190=>zz190.elim fun a zz191=>zz191.elim fun dx zz192=>zz192.elim fun fs zz193=>zz193.elim fun ex zz194=>zz194.elim fun ea zz195=>zz195.elim fun l q=>?_) ht
 subst ex
 obtain rfl:u=Value.ref a:=rx
 refine getmeth_ok I1 ea c hm l ?_
 refine PySem.W.callWith_K (first:=[.ref a]) (h₀:=X.base) I.ok.mod.kin hm.kp (thn (ha pos pins s1 σ H1 _ I1 q) fun us s2 zz196=>el5 zz196 fun vs H2 I2 r q2=>⟨I2.kIn,?_⟩) hst hpl
 exact run_fn (us:=.ref a::us) (vs:=.ref a::vs) F hr hb hd hx I2 (.cons rfl r) q2
theorem pe_meth0 {pl:Sem Bool} (he:PE X o ta) (c:Cls X.K C) (hm:Meth X.K C m f) (F:FnOk X.prog X.w X.K X.mg X.base CX k f fd ps sp) (hr:Room k X.A) (hb:Binds X.K fd ps ds) (hd:Vals dvs ds) (hx:Passes CX X E)
  (ht:eval (.Call (.Attribute o m apos) [] [] pos) X.env=(do
   let ov ←eval o X.env
   standAt apos.atName
   let (f,first) ←holding [ov] (getMethod ov m pl)
   callWith pos f first (backTo pos (starEach [] X.env)) (backToKw pos (keywordEach [] X.env))):=by rfl) :
  PE X (.Call (.Attribute o m apos) [] [] pos) (tMeth C m sp dvs E ta tNil):=by
 intro pins s σ H Q I h
 refine PySem.W.methodCall_KW (pl:=pl) (thn (he pins s σ H _ I h) fun u s1 zz197=>zz197.elim fun x zz198=>zz198.elim fun H1 zz199=>zz199.elim fun I1 zz200=>zz200.elim fun rx zz201=>zz201.elim fun a zz202=>zz202.elim fun dx zz203=>zz203.elim fun fs zz204=>zz204.elim fun ex zz205=>zz205.elim fun ea zz206=>zz206.elim fun l q=>?_) ht
 subst ex
 obtain rfl:u=Value.ref a:=rx
 refine getmeth_ok I1 ea c hm l ?_
 exact PySem.W.callWith_K0 (first:=[.ref a]) I1.kIn hm.kp (run_fn (us:=[.ref a]) (vs:=[.ref a]) F hr hb hd hx I1 (.cons rfl .nil) q)
structure Mk (K:PySem.W.Frag) (C f:Addr):Prop where
 makes:PySem.W.makesIn K C=true
 init:PySem.W.findIn K (.ref C) "__init__" = some (some (.ref f))
 fn:PySem.W.isFn K (.ref f)=true
 kp:PySem.W.keepIn K (.ref C)=true
theorem run_make {pins:List (Addr×Obj)} {σ:St} {H:Hp} {s:Shared} {Q:VK} {us:List Value} {vs:List V} (M:Mk X.K C f) (F:FnOk X.prog X.w X.K X.mg X.base CX k f fd ps sp) (hr:Room (k + 1) X.A) (hb:Binds X.K fd ps ds) (hd:Vals dvs ds)
  (hx:Passes CX X E) (I:Inv X pins σ H s) (r:Vals vs us)
  (h:∀x dx,H x=none→H dx=none→dx≠x→sp (.ref x::(vs++dvs)) (upd (upd H dx (.own x)) x (.ins C dx [])) (fun v H2=>v=.non∧Q (.ref x) H2) E) :
  wpAny (model X.prog X.w) X.A (call (.ref C) us) (EP X pins σ Q) X.xe s:=by
 have hq:=h (s.heap.objs.size + 1) s.heap.objs.size (I.hok.fresh (Nat.le_succ _)) (I.hok.fresh (Nat.le_refl _)) (Nat.ne_of_lt (Nat.lt_succ_self _))
 have I2:=Inv.made (C:=C) I
 have r2:Vals (V.ref (s.heap.objs.size + 1)::(vs++dvs)) (Value.ref (s.heap.objs.size + 1)::(us++ds)):=.cons rfl (r.append hd)
 have hl:(Value.ref (s.heap.objs.size + 1)::us++ds).length=ps.length:=by
  have e:=r2.length
  rw[F.len _ _ _ _ hq] at e
  exact e.symm
 refine wpAny_call (make_map (f:=f) I.kIn M.makes M.init (beq_iff_eq.mp M.fn) (codeAny_mono (F.run _ X.stack _ _ ⟨Value.ref (s.heap.objs.size + 1)::us,[]⟩ (Value.ref (s.heap.objs.size + 1)::(us++ds)) _ _ E (hr.make C us [])
  (I2.env0.make C us []) (hb _ (Value.ref (s.heap.objs.size + 1)::us) I2.kIn hl) r2 hq) fun r s' hq'=>?_))
 cases r with
 | error e=>exact hx pins σ _ _ e s' I2 hq'
 | ok fl=>
  cases fl with
  | ret u=>
   obtain⟨v,H',I3,rv,ev,q3⟩:=I2.after hq'
   subst ev
   exact⟨rv,⟨V.ref (s.heap.objs.size + 1),H',I3,rfl,q3⟩⟩
  | next=>exact False.elim hq'
  | brk=>exact False.elim hq'
  | cont=>exact False.elim hq'
theorem pe_make (M:Mk X.K C f) (F:FnOk X.prog X.w X.K X.mg X.base CX k f fd ps sp) (hr:Room (k + 1) X.A) (hg:Gl X x) (hm:X.mg x=some (.ref C)) (hb:Binds X.K fd ps ds) (hd:Vals dvs ds) (hx:Passes CX X E)
  (ha:PA X (e::es) t) (hdb:(x == ("__debug__" : Str))=false:=by decide) (he:starEach (e::es) X.env=(false,eval e X.env)::starEach es X.env:=by rfl) (hpl:(backTo pos (starEach es X.env)).any (·.1)=false:=by rfl) :
  PE X (.Call (.Name x p) (e::es) [] pos) (tMake C sp dvs E t):=by
 intro pins s σ H Q I h
 refine wpAny_Call_Name_kw (ld_glob I hg hm ?_ hdb)
 refine PySem.W.callWith_K (h₀:=X.base) I.ok.mod.kin M.kp (thn (ha pos pins s σ H _ I h) fun us s1 zz207=>el5 zz207 fun vs H1 I1 r q=>⟨I1.kIn,?_⟩) he hpl
 exact run_make M F hr hb hd hx I1 r q
end
section
variable {X:Cx} {CX:CXT} {k:Nat} {f C:Addr} {fd:FuncData} {ps ks:List Str} {sp:Sp} {E:XK} {x m:Str} {p pos apos kpos:Pos} {e o:Expr} {es:List Expr} {kws:List Keyword} {te ta:TE} {t tk:TA} {nm:Option Str}
variable {g:List Value→List Value→List Value} {gV:List V→List V→List V}
end
structure FnScope (N P:List Str) (sc:Scope):Prop where
 kind:sc.kind=.function
 co:sc.isCoroutine=false
 gen:sc.isGenerator=false
 nd:N.Nodup
 pre:N.take P.length=P
 par:∀x∈P,sc.names.lookup x=some .local∨sc.names.lookup x=some .cell
 nofree:∀y∈sc.names,y.2≠.free
theorem bindL_out {kindOf:Str→Option NameKind} {x:Str}:∀{binds:List (Str×Value)} {m:Str→Option Value},(∀v,(x,v)∉binds)→bindL kindOf binds m x=m x
 | [],_,_=>rfl
 | (n,v)::r,m,h=>by
  unfold bindL
  rw[bindL_out fun w hw=>h w (List.mem_cons_of_mem _ hw)]
  split
  ·have:x≠n:=by rintro rfl;exact h v List.mem_cons_self
   simp [this]
  ·rfl
theorem bindC_out {kindOf:Str→Option NameKind} {x:Str}:∀{binds:List (Str×Value)} {m:Str→Option Value},(∀v,(x,v)∉binds)→bindC kindOf binds m x=m x
 | [],_,_=>rfl
 | (n,v)::r,m,h=>by
  unfold bindC
  rw[bindC_out fun w hw=>h w (List.mem_cons_of_mem _ hw)]
  split
  ·rfl
  ·have:x≠n:=by rintro rfl;exact h v List.mem_cons_self
   simp [this]
theorem bindL_get {kindOf:Str→Option NameKind} {x:Str} {v:Value}:∀{P:List Str} {vs:List Value} {i:Nat} {m:Str→Option Value},P.Nodup→P[i]?=some x→vs[i]?=some v→kindOf x=some .local→
  bindL kindOf (P.zip vs) m x=some v
 | [],_,_,_,_,h,_,_=>by simp at h
 | _::_,[],_,_,_,_,h,_=>by simp at h
 | p::P,w::vs,0,m,nd,h1,h2,hk=>by
  simp at h1 h2;subst h1;subst h2
  show bindL kindOf ((p,w)::P.zip vs) m p=_
  unfold bindL
  rw[bindL_out fun v hv=>(List.nodup_cons.mp nd).1 (List.of_mem_zip hv).1,if_pos hk]
  simp
 | p::P,w::vs,i + 1,m,nd,h1,h2,hk=>by
  show bindL kindOf ((p,w)::P.zip vs) m x=_
  unfold bindL
  exact bindL_get (i:=i) (List.nodup_cons.mp nd).2 (by simpa using h1) (by simpa using h2) hk
theorem bindC_get {kindOf:Str→Option NameKind} {x:Str} {v:Value}:∀{P:List Str} {vs:List Value} {i:Nat} {m:Str→Option Value},P.Nodup→P[i]?=some x→vs[i]?=some v→kindOf x≠some .local→
  bindC kindOf (P.zip vs) m x=some v
 | [],_,_,_,_,h,_,_=>by simp at h
 | _::_,[],_,_,_,_,h,_=>by simp at h
 | p::P,w::vs,0,m,nd,h1,h2,hk=>by
  simp at h1 h2;subst h1;subst h2
  show bindC kindOf ((p,w)::P.zip vs) m p=_
  unfold bindC
  rw[bindC_out fun v hv=>(List.nodup_cons.mp nd).1 (List.of_mem_zip hv).1,if_neg hk]
  simp
 | p::P,w::vs,i + 1,m,nd,h1,h2,hk=>by
  show bindC kindOf ((p,w)::P.zip vs) m x=_
  unfold bindC
  exact bindC_get (i:=i) (List.nodup_cons.mp nd).2 (by simpa using h1) (by simpa using h2) hk
def start (N:List Str) (vs:List V):St:=vs.map some++List.replicate (N.length - vs.length) none
def cxOf (CX:CXT) (P:Program) (w:World) (K:PySem.W.Frag) (mg:Str→Option Value) (base:Heap) (N:List Str) (qual:Str) (scope:Scope) (f:Addr) (cd:Value) (A:Around) (outer:List Env) (s:Shared) (H:Hp) (E:XK):Cx where
 prog:=P
 w:=w
 K:=K
 mg:=mg
 base:=base
 A:=A.deeper (envOfC qual scope s.heap.objs.size f cd)
 N:=N
 s₀:=s
 H₀:=H
 env:=envOfC qual scope s.heap.objs.size f cd
 outer:=outer
 stack:=envOfC qual scope s.heap.objs.size f cd::outer
 ex:=[]
 calm:=true
 fn:=fun _=>true
 pn:=[]
 xe:=fun e s'=>wpAny (model P w) (A.deeper (envOfC qual scope s.heap.objs.size f cd)) (leaving (envOfC qual scope s.heap.objs.size f cd) e) (fun _ s''=>CX outer H s E e s'') (fun e' s''=>CX outer H s E e' s'') s'
theorem cell_has {sc:Scope} {n:Nat} {x:Str} (h:sc.names.lookup x=some .cell):∃c,(cellsFrom n sc.names []).lookup x=some c:=by
 have q:=PySem.W.cellsFrom_some sc.names n [] (.inl h)
 exact Option.isSome_iff_exists.mp q
theorem inv_start {CX:CXT} {P:Program} {w:World} {K:PySem.W.Frag} {mg:Str→Option Value} {base:Heap} {N ps:List Str} {qual:Str} {scope:Scope} {f:Addr} {cd:Value} {A:Around} {outer:List Env} {s s1:Shared} {H:Hp} {E:XK} {us:List Value} {vs:List V}
  (S:FnScope N ps scope) (hd:A.handled=none) (e0:Env0 P w K mg base A outer s H) (hl:vs.length=ps.length) (r:Vals vs us)
  (x:InCallC s s.heap.objs.size (bindL (envOfC qual scope s.heap.objs.size f cd).kindOf (ps.zip us) fun _=>none) (cellsFrom (s.heap.objs.size + 1) scope.names []) (bindC (envOfC qual scope s.heap.objs.size f cd).kindOf (ps.zip us) fun _=>none) s1) :
  Inv (cxOf CX P w K mg base N qual scope f cd A outer s H E) [] (start N vs) H s1:=by
 have hpl:ps.length≤N.length:=by have:=congrArg List.length S.pre;rw[List.length_take] at this;lia
 obtain⟨h1,tk,rfl,hk⟩:=x.done
 have noA:∀b:Addr,b∉(cxOf CX P w K mg base N qual scope f cd A outer s H E).ex:=fun b z=>absurd (show b∈([]:List Addr) from z) (by simp)
 refine⟨⟨e0.mod,S.kind,rfl,rfl,Nat.le_refl _,fun y z c h1 h2=>?_,fun y hy=>?_,fun y c _ h=>?_,fun _=>hd,Around.frames_deeper e0.frames,.inr ⟨rfl,rfl⟩,fun b z=>absurd z (noA b),e0.bs,e0.bsz,fun b _ _=>noA b,fun b z=>absurd z (noA b),e0.funs,e0.frf⟩,
  rfl,e0.bare,Un.kept hk,⟨_,x.toInCall.ns,fun i y v h1 h2 h3=>?_⟩,fun y c h=>⟨_,x.cell y c h⟩,e0.hok.fresh (Nat.le_refl _),fun y c h=>?_,fun p hp=>absurd (show p∈([]:List (Addr×Obj)) from hp) (by simp),e0.hok.kept hk,?_⟩
 ·exact name_of_addr x.apart (PySem.mem_of_lookup h1) (PySem.mem_of_lookup h2)
 ·have hy:scope.names.lookup y=some .cell∨scope.names.lookup y=some .free:=hy
  rcases hy with hy | hy
  ·exact cell_has hy
  ·exact absurd rfl (S.nofree _ (PySem.mem_of_lookup hy))
 ·exact Nat.le_of_lt (x.above y c (PySem.mem_of_lookup h))
 ·have hi:i < vs.length:=by
   unfold start at h2
   by_cases hi:i < vs.length
   ·exact hi
   ·rw[List.getElem?_append_right (by simpa using hi)] at h2
    rw[List.getElem?_replicate] at h2
    split at h2 <;> cases h2
  have ha:vs[i]?=some v:=by
   unfold start at h2
   rw[List.getElem?_append_left (by simpa using hi),List.getElem?_map] at h2
   cases e:vs[i]? with
   | none=>rw[e] at h2;cases h2
   | some a=>rw[e] at h2;cases h2;rfl
  obtain⟨u,hu,rv⟩:=r.get ha
  have hp:ps[i]?=some y:=by
   rw[←S.pre,List.getElem?_take_of_lt (by lia)];exact h1
  have ndP:ps.Nodup:=by rw[←S.pre];exact S.nd.sublist (List.take_sublist _ _)
  refine⟨u,rv,?_⟩
  rcases S.par y (List.mem_of_getElem? hp) with k | k
  ·exact .inl ⟨k,bindL_get ndP hp hu k⟩
  ·obtain⟨c,e⟩:=cell_has (n:=s.heap.objs.size + 1) k
   refine .inr ⟨.inl k,c,e,?_⟩
   have q:=x.cell y c e
   rw[bindC_get ndP hp hu (by show scope.names.lookup y≠_;rw[k];decide)] at q
   exact q
 ·exact e0.hok.fresh (Nat.le_of_lt (x.above y c (PySem.mem_of_lookup h)))
 ·unfold start
  show _=N.length
  rw[List.length_append,List.length_map,List.length_replicate]
  lia
theorem fn_of {CX:CXT} {P:Program} {w:World} {K:PySem.W.Frag} {mg:Str→Option Value} {base:Heap} {k:Nat} {f:Addr} {name qual:Str} {params:Arguments} {body:List Stmt} {scope:Scope} {dV kV doc pm cdv ct oc:Value} {an od:Option Addr}
  {osl:Array (Option Value)} {N ps:List Str} {sp:Sp} (lk:K.lookup f=some ⟨oc,od,.func (PySem.W.fnOf name qual params body scope dV kV doc pm an cdv ct),osl⟩) (hcd:PySem.W.codeIn K cdv qual=true) (S:FnScope N ps scope)
  (len:∀vs H Q E,sp vs H Q E→vs.length=ps.length)
  (hbody:∀(A:Around) (outer:List Env) (s:Shared) (H:Hp) (vs:List V) (Q:VK) (E:XK),Room k (A.deeper (envOfC qual scope s.heap.objs.size f cdv))→sp vs H Q E→
   ∃t,PSs (cxOf CX P w K mg base N qual scope f cdv A outer s H E) body t∧t { nx:=fun _ H'=>Q .non H',rt:=Q } (start N vs) H) :
  FnOk P w K mg base CX (k + 1) f (PySem.W.fnOf name qual params body scope dV kV doc pm an cdv ct) ps sp:=by
 refine⟨len,fun A outer s H args us vs Q E hr e0 hb r hsp=>?_⟩
 have hl:=len _ _ _ _ hsp
 have KX:K.In s.heap:=e0.mod.kin.keeps fun b o e=>(e0.bs b o e).1
 have lim:s.heap.NoLimit:=e0.mod.nolimit.keeps fun b o e=>(e0.bs b o e).1
 have hkind:∀y∈ps.zip us,scope.names.lookup y.1=some .local∨(scope.names.lookup y.1=some .cell∧((cellsFrom (s.heap.objs.size + 1) scope.names []).lookup y.1).isSome=true):=fun ⟨n,v⟩ hy=>by
  rcases S.par n (List.of_mem_zip hy).1 with q | q
  ·exact .inl q
  ·exact .inr ⟨q,PySem.W.cellsFrom_some _ _ _ (.inl q)⟩
 refine codeAny_call_function hr.depth (KX _ _ lk) rfl S.co S.gen rfl (PySem.W.codeRec_of KX hcd) (hb _ _ _ _ ?_)
 refine wpAny_newFunctionEnv_cells S.kind hkind fun env he s1 x=>?_
 subst he
 refine⟨lim.keeps x.toInCall.keep,codeAny_func ?_⟩
 obtain⟨t,ht,hq⟩:=hbody A outer s H vs Q E (hr.deeper _) hsp
 have I:Inv (cxOf CX P w K mg base N qual scope f cdv A outer s H E) [] (start N vs) H s1:=inv_start S hr.hd e0 hl r x
 refine wpAny_mono (ht [] s1 (start N vs) H _ I hq) (fun fl s' hs=>?_) fun e s' hs=>hs
 have fin:∀{σ':St} {H':Hp} {v:V} {u:Value},Inv (cxOf CX P w K mg base N qual scope f cdv A outer s H E) [] σ' H' s'→RelV v u→Q v H'→CE outer P w H s Q u s':=
  fun {σ' H' v u} J rv q=>⟨v,H',J.os,J.bare,J.base,J.hok,rv,q⟩
 cases fl with
 | ret u=>
  obtain⟨v,σ',H',J,rv,q⟩:=hs
  exact fin J rv q
 | next=>
  obtain⟨σ',H',J,q⟩:=hs
  exact fin (v:=V.non) (u:=Value.none) J rfl q
 | brk=>
  obtain⟨_,_,_,q⟩:=hs
  exact False.elim q
 | cont=>
  obtain⟨_,_,_,q⟩:=hs
  exact False.elim q
section
variable {X:Cx} {x:Str} {p pos:Pos} {e:Expr} {es:List Expr} {t:TA} {id T:String} {r:List V→Hp→VK→Prop}
def tCB (r:List V→Hp→VK→Prop) (t:TA):TE:=fun σ H Q=>t σ H fun vs H1=>r vs H1 Q
theorem pe_callB (hc:CallR X (.builtin id) r) (hg:Gl X x) (hm:X.mg x=none) (hv:bootBuiltins x=some (.builtin id)) (ha:PA X (e::es) t) (hn:x≠ "__name__" :=by decide) (hdb:(x == ("__debug__" : Str))=false:=by decide)
  (he:starEach (e::es) X.env=(false,eval e X.env)::starEach es X.env:=by rfl) (hpl:(backTo pos (starEach es X.env)).any (·.1)=false:=by rfl):PE X (.Call (.Name x p) (e::es) [] pos) (tCB r t):=by
 intro pins s σ H Q I h
 refine wpAny_Call_Name_kw (ld_blt I hg hm hv ?_ hn hdb)
 exact PyProof.Rows.callWith_builtin1 (thn (ha pos pins s σ H _ I h) fun us s1 zz213=>el5 zz213 fun vs H1 I1 r1 q1=>hc pins s1 σ H1 vs us Q I1 r1 q1) he hpl
theorem pe_callTy (hc:CallR X (.type T) r) (hg:Gl X x) (hm:X.mg x=none) (hv:bootBuiltins x=some (.type T)) (ha:PA X (e::es) t) (hn:x≠ "__name__" :=by decide) (hdb:(x == ("__debug__" : Str))=false:=by decide)
  (he:starEach (e::es) X.env=(false,eval e X.env)::starEach es X.env:=by rfl) (hpl:(backTo pos (starEach es X.env)).any (·.1)=false:=by rfl):PE X (.Call (.Name x p) (e::es) [] pos) (tCB r t):=by
 intro pins s σ H Q I h
 refine wpAny_Call_Name_kw (ld_blt I hg hm hv ?_ hn hdb)
 exact PyProof.Rows.callWith_type1 (thn (ha pos pins s σ H _ I h) fun us s1 zz214=>el5 zz214 fun vs H1 I1 r1 q1=>hc pins s1 σ H1 vs us Q I1 r1 q1) he hpl
end
end L2
namespace HT
open PySem PyProof.Rows
section
open PySem.SeqAt
open PySem.AutoSeq1 (wpAny_loadPart')
open PySem.MeetsSeq PySem.MeetsSeq2 PySem.MeetsSeq3
end
section
variable {prog:Program} {w:World} {A:Around} {E:Value→Shared→Prop} {s:Shared}
def sIx (n d:Nat):Option Int→Nat
 | none=>d
 | some v=>if v < 0 then (v + (n:Int)).toNat else min v.toNat n
theorem sIx_none (n d:Nat):sIx n d none=d:=rfl
theorem sIx_nat (n d k:Nat):sIx n d (some (k:Int))=min k n:=by
 show (if (k:Int) < 0 then ((k:Int) + (n:Int)).toNat else min (k:Int).toNat n)=min k n
 rw[if_neg (by lia),Int.toNat_natCast]
end
end HT
namespace L2
open PySem PySem.Spec PyProof.Rows
abbrev TO:=St→Hp→(Option Int→Hp→Prop)→Prop
def PO (X:Cx) (e:Option Expr) (t:TO):Prop:=
 ∀(pins:List (Addr×Obj)) (s:Shared) (σ:St) (H:Hp) (Q:Option Int→Hp→Prop),Inv X pins σ H s→t σ H Q→
  wpAny (model X.prog X.w) X.A (evalPart e X.env) (fun u s'=>∃o H',Inv X pins σ H' s'∧IsPart u o∧Q o H') X.xe s
def tNoPart:TO:=fun _ H Q=>Q none H
def tPart (t:TE):TO:=fun σ H Q=>t σ H fun x H1=>∃i,x=.int i∧Q (some i) H1
theorem intsAre_of {ns:List Int}:∀{us:List Value},Vals (ns.map V.int) us→IntsAre us ns:=by
 induction ns with
 | nil=>intro us r;rw[List.map_nil] at r;cases r;exact .nil
 | cons n ns ih=>
  intro us r
  rw[List.map_cons] at r
  cases r with
  | cons r1 r2=>
   obtain⟨t,e⟩:=r1
   subst e
   exact .cons n t (ih r2)
section
variable {X:Cx} {e:Expr} {te:TE} {lo hi:Option Expr} {tl th:TO} {pos p2:Pos}
theorem po_none:PO X none tNoPart:=by
 intro pins s σ H Q I h
 rw[evalPart_none]
 exact wpAny_pure ⟨none,H,I,.none,h⟩
theorem po_some (h:PE X e te):PO X (some e) (tPart te):=by
 intro pins s σ H Q I hw
 rw[evalPart_some]
 refine thn (h pins s σ H _ I hw) fun u s1 zz215=>el5 zz215 fun x H1 I1 r1 q1=>?_
 obtain⟨i,rfl,q⟩:=q1
 obtain⟨t,rfl⟩:=r1
 exact⟨some i,H1,I1,.int i t,q⟩
def SlR (X:Cx) (r:V→Option Int→Option Int→Hp→VK→Prop):Prop:=
 ∀(pins:List (Addr×Obj)) (s:Shared) (σ:St) (H:Hp) (x:V) (v vl vu:Value) (lo hi:Option Int) (sl:Addr) (Q:VK),Inv X pins σ H s→RelV x v→s.heap.IsSliceOf sl vl vu .none→IsPart vl lo→IsPart vu hi→r x lo hi H Q→
  ∃T id,typeLookup (.type T) "__getitem__" = pure (some (.builtin id))∧s.TypeIs v T∧wpAny (model X.prog X.w) X.A (getItem v (.ref sl)) (EP X pins σ Q) X.xe s
def tSl (r:V→Option Int→Option Int→Hp→VK→Prop) (te:TE) (tl th:TO):TE:=fun σ H Q=>te σ H fun x H1=>tl σ H1 fun l H2=>th σ H2 fun u H3=>r x l u H3 Q
theorem pe_slice {r:V→Option Int→Option Int→Hp→VK→Prop} (hr:SlR X r) (he:PE X e te) (hl:PO X lo tl) (hu:PO X hi th):PE X (.Subscript e (.Slice lo hi none p2) pos) (tSl r te tl th):=by
 intro pins s σ H Q I h
 refine Subscript_ (thn (he pins s σ H _ I h) fun v s1 zz216=>el5 zz216 fun x H1 I1 r1 q1=>?_)
 refine wpAny_Slice (thn (hl pins s1 σ H1 _ I1 q1) fun vl s2 zz217=>el5 zz217 fun l H2 I2 pl q2=>thn (hu pins s2 σ H2 _ I2 q2) fun vu s3 zz218=>el5 zz218 fun u H3 I3 pu q3=>?_)
 rw[evalPart_none]
 refine wpAny_pure ?_
 have I4:Inv X pins σ H3 { s3 with heap:=s3.heap.push { cls:=.type "slice",data:=.fields #[vl,vu,.none] } }:=I3.kept (t':=s3.toks) fun b ob q=>Heap.get?_push_of_some _ q
 obtain⟨T,id,hT,ht,hg⟩:=hr pins { s3 with heap:=s3.heap.push { cls:=.type "slice",data:=.fields #[vl,vu,.none] } } σ H3 x v vl vu l u s3.heap.objs.size Q I4 r1 (Heap.IsSliceOf.new ..) pl pu q3
 show wpAny (model X.prog X.w) X.A (subscriptTail e (.Slice lo hi none p2) v (.ref s3.heap.objs.size)) (EP X pins σ Q) X.xe { s3 with heap:=s3.heap.push { cls:=.type "slice",data:=.fields #[vl,vu,.none] } }
 exact tail_any (ops:=[.ref s3.heap.objs.size,v]) ht hT hg (by with_unfolding_all rfl)
def cutV (xs:List V) (lo hi:Option Int):List V:=(xs.drop (HT.sIx xs.length 0 lo)).take (HT.sIx xs.length xs.length hi - HT.sIx xs.length 0 lo)
theorem cutV_length (xs:List V) (lo hi:Option Int):(cutV xs lo hi).length≤xs.length:=by
 unfold cutV
 rw[List.length_take,List.length_drop]
 lia
end
def ixN (n:Nat) (i:Int):Option Nat:=if 0≤i then (if i < n then some i.toNat else none) else if -(n:Int)≤i then some (i + n).toNat else none
def atI {α:Type} (xs:List α) (i:Int):Option α:=(ixN xs.length i).bind fun j=>xs[j]?
theorem ixN_seq {n:Nat} {i:Int} {j:Nat} (h:ixN n i=some j):seqIndex? i n=some j∧j < n∧-(n:Int)≤i∧i < n:=by
 unfold ixN at h
 by_cases h0:0≤i
 ·rw[if_pos h0] at h
  by_cases h1:i < n
  ·rw[if_pos h1] at h
   have e:i.toNat=j:=Option.some.inj h
   exact⟨by rw[seqIndex_of h0 h1,e],by lia,by lia,h1⟩
  ·rw[if_neg h1] at h;cases h
 ·rw[if_neg h0] at h
  by_cases h1:-(n:Int)≤i
  ·rw[if_pos h1] at h
   have e:(i + n).toNat=j:=Option.some.inj h
   exact⟨by rw[seqIndex_neg (by lia) h1,e],by lia,h1,by lia⟩
  ·rw[if_neg h1] at h;cases h
theorem atI_get {α:Type} {xs:List α} {i:Int} {v:α} (h:atI xs i=some v):∃j,seqIndex? i xs.length=some j∧xs[j]?=some v∧j < xs.length∧-(xs.length:Int)≤i∧i < xs.length:=by
 unfold atI at h
 cases e:ixN xs.length i with
 | none=>rw[e] at h;cases h
 | some j=>
  rw[e] at h
  obtain⟨h1,h2,h3,h4⟩:=ixN_seq e
  exact⟨j,h1,h,h2,h3,h4⟩
theorem atI_nat {α:Type} {xs:List α} {j:Nat} {v:α} (h:xs[j]?=some v):atI xs (j:Int)=some v:=by
 have hj:j < xs.length:=(List.getElem?_eq_some_iff.mp h).1
 have e:ixN xs.length (j:Int)=some j:=by
  unfold ixN
  rw[if_pos (by lia),if_pos (by lia)];simp
 unfold atI;rw[e];exact h
theorem atI_last {α:Type} (xs:List α) (v:α):atI (xs++[v]) (-1)=some v:=by
 have hl:(xs++[v]).length=xs.length + 1:=by simp
 have e:ixN (xs++[v]).length (-1)=some xs.length:=by
  unfold ixN
  rw[hl,if_neg (by decide),if_pos (by lia)]
  congr 1
  lia
 unfold atI
 rw[e]
 show (xs++[v])[xs.length]?=some v
 simp
def PlainIx (b:Expr):Prop:=∀o i,subscripted b false o i=operate [o,i] (getItem o i)
def IxR (X:Cx) (r:R2):Prop:=
 ∀(value slice:Expr) (pins:List (Addr×Obj)) (s:Shared) (σ:St) (H:Hp) (x y:V) (v u:Value) (Q:VK),Inv X pins σ H s→RelV x v→RelV y u→r x y H Q→
  subscripted slice false v u=operate [v,u] (getItem v u)→wpAny (model X.prog X.w) X.A (subscriptTail value slice v u) (EP X pins σ Q) X.xe s
def MtR (X:Cx) (id:String) (r:V→List V→Hp→VK→Prop):Prop:=
 ∀(pins:List (Addr×Obj)) (s:Shared) (σ:St) (H:Hp) (x:V) (xs:List V) (v:Value) (us:List Value) (Q:VK),Inv X pins σ H s→RelV x v→Vals xs us→r x xs H Q→
  wpAny (model X.prog X.w) X.A (call (.builtin id) (v::us)) (EP X pins σ Q) X.xe s
section
variable {X:Cx} {a b:Expr} {ta tb:TE} {pos:Pos}
theorem IxR.or {r r':R2} (h:IxR X r) (h':IxR X r'):IxR X (fun x y H Q=>r x y H Q∨r' x y H Q):=by
 intro value slice pins s σ H x y v u Q I rx ry q hs
 rcases q with q | q
 ·exact h value slice pins s σ H x y v u Q I rx ry q hs
 ·exact h' value slice pins s σ H x y v u Q I rx ry q hs
theorem pe_ix {r:R2} (hr:IxR X r) (ha:PE X a ta) (hb:PE X b tb) (hs:PlainIx b):PE X (.Subscript a b pos) (tOp r ta tb):=by
 intro pins s σ H Q I h
 exact Subscript_ (binT ha hb I h fun v u s2 x y H2 I2 rx ry q=>hr a b pins s2 σ H2 x y v u Q I2 rx ry q (hs _ _))
def rIxL (K:PySem.W.Frag):R2:=fun x y H Q=>∃p xs i v,x=.ref p∧y=.int i∧SqL K H p xs∧atI xs i=some v∧Q v H
def rIxT (K:PySem.W.Frag):R2:=fun x y H Q=>∃p xs i v,x=.ref p∧y=.int i∧SqT K H p xs∧atI xs i=some v∧Q v H
def rIxS:R2:=fun x y H Q=>∃z i c,x=.str z∧y=.int i∧z.length≤sizeLine∧atI z.cps.toList i=some c∧Q (.str ⟨#[c]⟩) H
theorem ix_list:IxR X (rIxL X.K):=by
 intro value slice pins s σ H x y v u Q I rx ry h hs
 obtain⟨p,xs,i,z,rfl,rfl,hq,he,q⟩:=h
 cases rx
 obtain⟨t,rfl⟩:=ry
 obtain⟨its,r,pl,hz⟩:=I.list hq
 obtain⟨j,h1,h2,h3,h4,h5⟩:=atI_get he
 obtain⟨w,ew,rw'⟩:=r.get h2
 have hl:=r.length
 have hn:=line63
 have fin:EP X pins σ Q w s:=⟨z,H,I,rw',q⟩
 by_cases h0:0≤i
 ·have hj:i.toNat=j:=by
   rw[seqIndex_of h0 h5] at h1
   exact Option.some.inj h1
  exact item_listR pl.isList h0 (by lia) (by rw[hj];simpa using ew) fin hs
 ·have hj:(i + (its.toArray.size:Int)).toNat=j:=by
   rw[seqIndex_neg (by lia) h4] at h1
   rw[List.size_toArray,←hl]
   exact Option.some.inj h1
  exact subscriptTail_builtinR (x:=w) pl.isList.typeIs slot_list_getitem.lookup
   (wpAny_getItem_list_neg (Q:=fun r s'=>r=w∧EP X pins σ Q r s') pl.isList (by lia) (by rw[List.size_toArray] <;> lia) (by lia) (by rw[hj];simpa using ew) ⟨rfl,fin⟩) hs
theorem ix_tup:IxR X (rIxT X.K):=by
 intro value slice pins s σ H x y v u Q I rx ry h hs
 obtain⟨p,xs,i,z,rfl,rfl,hq,he,q⟩:=h
 cases rx
 obtain⟨t,rfl⟩:=ry
 obtain⟨its,r,pl,hz⟩:=I.tuple hq
 obtain⟨j,h1,h2,h3,h4,h5⟩:=atI_get he
 obtain⟨w,ew,rw'⟩:=r.get h2
 have hl:=r.length
 have hn:=line63
 have fin:EP X pins σ Q w s:=⟨z,H,I,rw',q⟩
 exact subscriptTail_builtinR (x:=w) pl.typeIs slot_tuple_getitem.lookup
  (getItem_tuple (j:=j) (Q:=fun r s'=>r=w∧EP X pins σ Q r s') pl (by lia) (by lia) (by rw[List.size_toArray,←hl];exact h1) (by simpa using ew) ⟨rfl,fin⟩) hs
theorem ix_str:IxR X rIxS:=by
 intro value slice pins s σ H x y v u Q I rx ry h hs
 obtain⟨z,i,c,rfl,rfl,hz,he,q⟩:=h
 obtain⟨t,rfl⟩:=rx
 obtain⟨t',rfl⟩:=ry
 obtain⟨j,h1,h2,h3,h4,h5⟩:=atI_get he
 have hl:z.cps.toList.length=z.length:=by simp [Str.length]
 rw[hl] at h1 h4 h5
 have hn:=line63
 exact tail_any (typeIs_str s z t) slot_str_getitem.lookup (getItem_str (c:=c) (by
  have e1:decide (i < -(2 ^ 63:Int))=false:=decide_eq_false (by lia)
  have e2:decide (i ≥ 2 ^ 63)=false:=decide_eq_false (by lia)
  rw[e1,e2,Bool.or_false]) (by rw[h1];simpa using h2) ⟨.str ⟨#[c]⟩,H,I.tok _,⟨_,rfl⟩,q⟩) hs
def rIx (K:PySem.W.Frag):R2:=fun x y H Q=>rIxL K x y H Q∨rIxT K x y H Q∨rIxS x y H Q
theorem ix_seq:IxR X (rIx X.K):=ix_list.or (ix_tup.or ix_str)
theorem mapSeq_set (its:List Value) (n j:Nat) (u:Value):Obj.mapSeq (·.setIfInBounds j u) { cls:=.type "list",data:=.seq its.toArray n }={ cls:=.type "list",data:=.seq (its.set j u).toArray n }:=by
 simp [Obj.mapSeq]
theorem Inv.lst {pins:List (Addr×Obj)} {σ:St} {H:Hp} {s:Shared} {p:Addr} {xs:List V} (I:Inv X pins σ H s) (h:H p=some (.lst xs)) :
  ∃(its:List Value) (n:Nat),Vals xs its∧s.heap.get? p=some { cls:=.type "list",data:=.seq its.toArray n }∧xs.length≤sizeLine:=by
 obtain⟨z,its,n,r,e⟩:=I.hok p _ h
 exact⟨its,n,r,e,z⟩
theorem Inv.lstUpd {pins:List (Addr×Obj)} {σ:St} {H:Hp} {s:Shared} {p:Addr} {xs ys:List V} {its its':List Value} {n n':Nat} {f:Obj→Obj} (I:Inv X pins σ H s) (h:H p=some (.lst xs))
  (ho:s.heap.get? p=some { cls:=.type "list",data:=.seq its.toArray n }) (hf:f { cls:=.type "list",data:=.seq its.toArray n }={ cls:=.type "list",data:=.seq its'.toArray n' }) (r:Vals ys its') (hz:ys.length≤sizeLine) (t:Nat) :
  Inv X pins σ (upd H p (.lst ys)) { s with heap:=s.heap.update p f,toks:=t }:=by
 have e:(s.heap.update p f).get? p=some { cls:=.type "list",data:=.seq its'.toArray n' }:=by
  rw[Heap.get?_update_self f ho (by rw[hf] <;> rfl),hf]
 refine I.write (x:=p) (e:=p) (by rw[h];trivial) (.inl rfl) (fun b u hb q=>(Heap.get?_update_other _ _ (Ne.symm hb)).trans q) ⟨_,e⟩ ?_
 exact⟨hz,its',n',r,e⟩
def rSetL:V→V→V→Hp→(Hp→Prop)→Prop:=fun o i v H Q=>∃p xs k j,o=.ref p∧i=.int k∧H p=some (.lst xs)∧ixN xs.length k=some j∧Q (upd H p (.lst (xs.set j v)))
theorem set_list:PSet X rSetL:=by
 intro pins s σ H o i v ov iv u Q I ro ri rv h
 obtain⟨p,xs,k,j,rfl,rfl,hp,hj,q⟩:=h
 cases ro
 obtain⟨t,rfl⟩:=ri
 obtain⟨its,n,r,ho,hz⟩:=I.lst hp
 obtain⟨h1,h2,h3,h4⟩:=ixN_seq hj
 have hl:=r.length
 have hn:=line63
 have I':Inv X pins σ (upd H p (.lst (xs.set j v))) { s with heap:=s.heap.update p (Obj.mapSeq (·.setIfInBounds j u)) }:=
  I.lstUpd hp ho (mapSeq_set its n j u) (r.set rv j) (by rw[List.length_set];exact hz) s.toks
 by_cases h0:0≤k
 ·have hk:k.toNat=j:=by
   rw[seqIndex_of h0 h4] at h1
   exact Option.some.inj h1
  exact PySem.W.ki_setAt ho h0 (by lia) (by rw[List.size_toArray,←hl];exact h4) (by rw[hk];exact⟨_,I',q⟩)
 ·have hk:(k + (its.toArray.size:Int)).toNat=j:=by
   rw[seqIndex_neg (by lia) h3] at h1
   rw[List.size_toArray,←hl]
   exact Option.some.inj h1
  exact PySem.W.ki_setBack ho (by lia) (by rw[List.size_toArray,←hl];exact h3) (by lia) (by rw[hk];exact⟨_,I',q⟩)
theorem slice_bounds (lo hi:Option Int) (n:Nat):(sliceBounds lo hi none n).1=((HT.sIx n 0 lo:Nat):Int)∧(sliceBounds lo hi none n).2.1=((HT.sIx n n hi:Nat):Int)∧(sliceBounds lo hi none n).2.2=1:=by
 refine⟨?_,?_,rfl⟩
 ·cases lo with
  | none=>simp [sliceBounds,HT.sIx]
  | some i=>
   simp only[sliceBounds,HT.sIx,Option.getD_none,show (1:Int) > 0 by decide,if_true]
   by_cases h:i < 0
   ·simp only[h,if_true] <;> lia
   ·simp only[h,if_false] <;> lia
 ·cases hi with
  | none=>simp [sliceBounds,HT.sIx]
  | some i=>
   simp only[sliceBounds,HT.sIx,Option.getD_none,show (1:Int) > 0 by decide,if_true]
   by_cases h:i < 0
   ·simp only[h,if_true] <;> lia
   ·simp only[h,if_false] <;> lia
theorem slicePick_cut (its:List Value) (lo hi:Option Int):slicePick its.toArray lo hi none=((its.drop (HT.sIx its.length 0 lo)).take (HT.sIx its.length its.length hi - HT.sIx its.length 0 lo)).toArray:=by
 obtain⟨h1,h2,h3⟩:=slice_bounds lo hi its.toArray.size
 unfold slicePick
 rw[h1,h2,h3]
 simp only[sliceRange_one,pick_run,List.size_toArray] <;> rfl
def rSlL (K:PySem.W.Frag):V→Option Int→Option Int→Hp→VK→Prop:=fun x lo hi H Q=>∃a xs,x=.ref a∧SqL K H a xs∧∀p,H p=none→Q (.ref p) (upd H p (.lst (cutV xs lo hi)))
theorem sl_list:SlR X (rSlL X.K):=by
 intro pins s σ H x v vl vu lo hi sl Q I rx hs pl pu h
 obtain⟨a,xs,rfl,hx,q⟩:=h
 cases rx
 obtain⟨its,r,ht,hz⟩:=I.list hx
 have hlen:=r.length
 refine⟨"list",_,slot_list_getitem.lookup,ht.isList.typeIs,?_⟩
 refine wpAny_getItem_list_slice ht.isList hs pl pu .none (by simp) ?_ (by rw[List.size_toArray] <;> lia)
 rw[slicePick_cut,←hlen]
 refine⟨.ref s.heap.objs.size,_,I.laid (t':=s.toks) (o:=.lst (cutV xs lo hi)) (fun b ob q=>Heap.get?_push_of_some _ q) (Nat.le_refl _) ?_,rfl,q _ (I.hok.fresh (Nat.le_refl _))⟩
 exact⟨Nat.le_trans (cutV_length xs lo hi) hz,_,0,(r.drop (HT.sIx xs.length 0 lo)).take (HT.sIx xs.length xs.length hi - HT.sIx xs.length 0 lo),Heap.get?_push_size _ rfl⟩
def flatV:V→Bool
 | .non=>true
 | .bl _=>true
 | .int _=>true
 | .str _=>true
 | _=>false
def eqV:V→V→Bool
 | .non,.non=>true
 | .bl a,.bl b=>a == b
 | .bl a,.int b=>(if a then 1 else 0) == b
 | .int a,.bl b=>a == (if b then 1 else 0)
 | .int a,.int b=>a == b
 | .str a,.str b=>a == b
 | _,_=>false
theorem eqAt_V {A:Around} {s:Shared} {y x:V} {u v:Value} (ry:RelV y u) (rx:RelV x v) (fy:flatV y=true) (fx:flatV x=true):SeqAt.EqAt A s u v (eqV y x):=by
 cases y with
 | non=>
  cases ry
  cases x with
  | non=>cases rx;exact SeqAt.EqAt.same _
  | bl b=>cases rx;exact SeqAt.EqAt.none_bool b
  | int b=>obtain⟨t,rfl⟩:=rx;exact SeqAt.EqAt.none_int b t
  | str b=>obtain⟨t,rfl⟩:=rx;exact SeqAt.EqAt.none_str b t
  | _=>exact absurd (show false=true from fx) Bool.false_ne_true
 | bl a=>
  cases ry
  cases x with
  | non=>cases rx;exact SeqAt.EqAt.bool_none a
  | bl b=>cases rx;exact SeqAt.EqAt.bool_bool a b
  | int b=>obtain⟨t,rfl⟩:=rx;exact SeqAt.EqAt.bool_int a b t
  | str b=>obtain⟨t,rfl⟩:=rx;exact SeqAt.EqAt.bool_str a b t
  | _=>exact absurd (show false=true from fx) Bool.false_ne_true
 | int a=>
  obtain⟨t',rfl⟩:=ry
  cases x with
  | non=>cases rx;exact SeqAt.EqAt.int_none a t'
  | bl b=>cases rx;exact SeqAt.EqAt.int_bool a t' b
  | int b=>obtain⟨t,rfl⟩:=rx;exact SeqAt.EqAt.int_int a t' b t
  | str b=>obtain⟨t,rfl⟩:=rx;exact SeqAt.EqAt.int_str a t' b t
  | _=>exact absurd (show false=true from fx) Bool.false_ne_true
 | str a=>
  obtain⟨t',rfl⟩:=ry
  cases x with
  | non=>cases rx;exact SeqAt.EqAt.str_none a t'
  | bl b=>cases rx;exact SeqAt.EqAt.str_bool a t' b
  | int b=>obtain⟨t,rfl⟩:=rx;exact SeqAt.EqAt.str_int a t' b t
  | str b=>obtain⟨t,rfl⟩:=rx;exact SeqAt.EqAt.str_str a t' b t
  | _=>exact absurd (show false=true from fx) Bool.false_ne_true
 | _=>exact absurd (show false=true from fy) Bool.false_ne_true
def eqU (x:V) (u:Value):Bool:=match u with
 | .none=>eqV .non x
 | .bool b=>eqV (.bl b) x
 | .int i _=>eqV (.int i) x
 | .str z _=>eqV (.str z) x
 | _=>false
theorem eqU_of {x y:V} {u:Value} (r:RelV y u) (f:flatV y=true):eqU x u=eqV y x:=by
 cases y with
 | non=>cases r;rfl
 | bl b=>cases r;rfl
 | int i=>obtain⟨t,rfl⟩:=r;rfl
 | str z=>obtain⟨t,rfl⟩:=r;rfl
 | _=>exact absurd (show false=true from f) Bool.false_ne_true
theorem any_eqU {x:V}:∀{xs:List V} {us:List Value},Vals xs us→xs.all flatV=true→us.any (eqU x)=xs.any fun y=>eqV y x
 | _,_,.nil,_=>rfl
 | y::xs,u::us,.cons r t,f=>by
  rw[List.all_cons,Bool.and_eq_true] at f
  rw[List.any_cons,List.any_cons,eqU_of r f.1,any_eqU t f.2]
theorem mem_eqAt {A:Around} {s:Shared} {x:V} {v:Value} (rx:RelV x v) (fx:flatV x=true):∀{xs:List V} {us:List Value},Vals xs us→xs.all flatV=true→∀u∈us,SeqAt.EqAt A s u v (eqU x u)
 | _,_,.nil,_=>fun u hu=>by cases hu
 | y::xs,u::us,.cons r t,f=>fun u' hu=>by
  rw[List.all_cons,Bool.and_eq_true] at f
  rcases List.mem_cons.mp hu with rfl | hu
  ·rw[eqU_of r f.1];exact eqAt_V r rx f.1 fx
  ·exact mem_eqAt rx fx t f.2 u' hu
def inV (x:V) (xs:List V):Bool:=xs.any fun y=>eqV y x
def rIn (K:PySem.W.Frag) (neg:Bool):R2:=fun x y H Q=>∃p xs,y=.ref p∧(SqL K H p xs∨SqT K H p xs)∧flatV x=true∧xs.all flatV=true∧Q (.bl (if neg then !inV x xs else inV x xs)) H
theorem op_notIn_seq:OpR X (compareOp .NotIn) (rIn X.K true):=by
 intro pins s σ H x y v u Q I rx ry h
 obtain⟨p,xs,rfl,hq,fx,fs,q⟩:=h
 cases ry
 rcases hq with hq | hq
 ·obtain⟨its,r,pl,hz⟩:=I.list hq
  refine SeqAt.notIn_listAt (eqU x) pl.isList (fun w hw=>mem_eqAt rx fx r fs w (by simpa using hw)) ⟨.bl _,H,I,rfl,?_⟩
  rw[show its.toArray.any (eqU x)=its.any (eqU x) by simp,any_eqU r fs]
  exact q
 ·obtain⟨its,r,pl,hz⟩:=I.tuple hq
  refine SeqAt.notIn_tupleAt (eqU x) pl (fun w hw=>mem_eqAt rx fx r fs w (by simpa using hw)) ⟨.bl _,H,I,rfl,?_⟩
  rw[show its.toArray.any (eqU x)=its.any (eqU x) by simp,any_eqU r fs]
  exact q
theorem call_len_seq:CallR X (.builtin "len") (fun xs H Q=>∃p ys,xs=[.ref p]∧(SqL X.K H p ys∨SqT X.K H p ys)∧Q (.int ys.length) H):=by
 intro pins s σ H xs us Q I r h
 obtain⟨p,ys,rfl,hq,q⟩:=h
 obtain⟨u,rfl,rx⟩:=vals1 r
 cases rx
 have hn:=line63
 rcases hq with hq | hq
 ·obtain⟨its,r',pl,hz⟩:=I.list hq
  have hlen:=r'.length
  exact Calls.call_len_list pl.isList (by simp only[List.size_toArray] <;> lia) ⟨.int ys.length,H,I.tok _,⟨s.toks + 1,by rw[List.size_toArray,hlen]⟩,q⟩
 ·obtain⟨its,r',pl,hz⟩:=I.tuple hq
  have hlen:=r'.length
  exact len_tuple pl (by simp only[List.size_toArray] <;> lia) ⟨.int ys.length,H,I.tok _,⟨s.toks + 1,by rw[List.size_toArray,hlen]⟩,q⟩
theorem call_list_of:CallR X (.type "list") (fun xs H Q=>∃p ys,xs=[.ref p]∧(SqL X.K H p ys∨SqT X.K H p ys)∧∀l,H l=none→Q (.ref l) (upd H l (.lst ys))):=by
 intro pins s σ H xs us Q I r h
 obtain⟨p,ys,rfl,hq,q⟩:=h
 obtain⟨u,rfl,rx⟩:=vals1 r
 cases rx
 have fin:∀(its:List Value),Vals ys its→ys.length≤sizeLine→∀(h':Heap) (c':Nat),(∀b o',s.heap.get? b=some o'→h'.get? b=some o')→
   h'.get? s.heap.objs.size=some { cls:=.type "list",dict:=none,data:=.seq its.toArray c',slots:=#[] }→EP X pins σ Q (.ref s.heap.objs.size) { s with heap:=h' }:=fun its r' hz h' c' kp e=>
  ⟨.ref s.heap.objs.size,_,I.laid (t':=s.toks) kp (Nat.le_refl _) (show ObjOk X.prog X.w _ h' _ (.lst ys) from ⟨hz,its,c',r',e⟩),rfl,q _ (I.hok.fresh (Nat.le_refl _))⟩
 rcases hq with hq | hq
 ·obtain⟨its,r',pl,hz⟩:=I.list hq
  have hlen:=r'.length
  obtain⟨o,ho,hc,n,hd⟩:=pl.isList
  exact call_list_seq p (.inl rfl) ho hc hd (fun h' c' kp e=>fin its r' hz h' c' kp e) (by simp only[List.size_toArray] <;> lia)
 ·obtain⟨its,r',pl,hz⟩:=I.tuple hq
  have hlen:=r'.length
  obtain⟨o,ho,hc,n,hd⟩:=pl
  exact call_list_seq p (.inr rfl) ho hc hd (fun h' c' kp e=>fin its r' hz h' c' kp e) (by simp only[List.size_toArray] <;> lia)
def tyV (K:PySem.W.Frag) (T:String) (x:V) (H:Hp):Prop:=match x with
 | .str _=>T = "str"
 | .int _=>T = "int"
 | .ref p=>(T = "list" ∧∃xs,SqL K H p xs)∨(T = "tuple" ∧∃o,K.lookup p=some o∧o.cls=.type "tuple" ∧o.dict=none)∨
   (T = "dict" ∧((∃kvs,H p=some (.dK kvs))∨∃kvs,H p=some (.dT kvs)))∨(T = "set" ∧∃S n,H p=some (.set S n))
 | _=>False
theorem tyV_is {pins:List (Addr×Obj)} {σ:St} {H:Hp} {s:Shared} {T:String} {x:V} {v:Value} (I:Inv X pins σ H s) (r:RelV x v) (ty:tyV X.K T x H) :
  s.TypeIs v T∧∀a,v=.ref a→∃ob,s.heap.get? a=some ob∧ob.dict=none:=by
 cases x with
 | str z=>
  obtain⟨t,rfl⟩:=r
  cases (show T = "str" from ty)
  exact⟨typeIs_str s z t,fun _ e=>nomatch e⟩
 | int i=>
  obtain⟨t,rfl⟩:=r
  cases (show T = "int" from ty)
  exact⟨typeIs_int s i t,fun _ e=>nomatch e⟩
 | ref p=>
  cases r
  rcases ty with ⟨rfl,xs,hq⟩ | ⟨rfl,o,hk,hc,hd⟩ | ⟨rfl,hk⟩ | ⟨rfl,S,n,hk⟩
  ·obtain⟨its,_,pl,_⟩:=I.list hq
   refine⟨pl.isList.typeIs,fun a e=>?_⟩
   cases e
   obtain⟨o,n,e,c,hd,_⟩:=pl
   exact⟨o,e,hd⟩
  ·refine⟨⟨o,I.kIn p o hk,hc⟩,fun a e=>?_⟩
   cases e
   exact⟨o,I.kIn _ o hk,hd⟩
  ·have z:∃o,s.heap.get? p=some o∧o.ExactDict:=by
    rcases hk with ⟨kvs,hk⟩ | ⟨kvs,hk⟩
    ·obtain⟨_,_,_,_,o,_,_,e,ex,_⟩:=I.hok p _ hk
     exact⟨o,e,ex⟩
    ·obtain⟨_,_,_,_,o,_,_,e,ex,_⟩:=I.hok p _ hk
     exact⟨o,e,ex⟩
   obtain⟨o,e,ex⟩:=z
   refine⟨⟨o,e,ex.1⟩,fun a e2=>?_⟩
   cases e2
   exact⟨o,e,ex.2.1⟩
  ·obtain⟨o,_,_,_,e,ex,_⟩:=I.hok p _ hk
   refine⟨⟨o,e,ex.1⟩,fun a e2=>?_⟩
   cases e2
   exact⟨o,e,ex.2.1⟩
 | _=>exact False.elim ty
def tBM (K:PySem.W.Frag) (T:String) (r:V→List V→Hp→VK→Prop) (to:TE) (t:TA):TE:=fun σ H Q=>to σ H fun x H1=>tyV K T x H1∧t σ H1 fun xs H2=>r x xs H2 Q
variable {o e:Expr} {es:List Expr} {to:TE} {t:TA} {name:Str} {apos cpos:Pos} {T id:String} {r:V→List V→Hp→VK→Prop}
theorem pe_bm (pa:PlainAttrs T) (slot:Slot T name id) (hty:typeOf (.builtin id)=pure (.type "method_descriptor")) (hm:MtR X id r) (ho:PE X o to) (ha:PA X (e::es) t)
  (hbase:attributeBase o name X.env (eval o X.env)=eval o X.env:=by rfl)
  (hfew:((backTo cpos (starEach (e::es) X.env)).all (fun x=>!x.1)&&(backToKw cpos (keywordEach [] X.env)).all (fun x=>x.1.isSome)
   &&decide ((e::es).length + ([]:List Keyword).length + (if ([]:List Keyword).isEmpty then 0 else 1) < 30))=true:=by rfl)
  (hline:(apos.endLine == cpos.line)=true:=by rfl) (hs:starEach (e::es) X.env=(false,eval e X.env)::starEach es X.env:=by rfl) (hplain:(backTo cpos (starEach es X.env)).any (·.1)=false:=by rfl) :
  PE X (.Call (.Attribute o name apos) (e::es) [] cpos) (tBM X.K T r to t):=by
 intro pins s σ H Q I h
 refine wpAny_Call_method_late hbase hfew hline rfl (thn (ho pins s σ H _ I h) fun v s1 zz224=>zz224.elim fun x zz225=>zz225.elim fun H1 zz226=>zz226.elim fun I1 zz227=>zz227.elim fun r1 zz228=>zz228.elim fun ty q1=>?_)
 obtain⟨h1,h2⟩:=tyV_is I1 r1 ty
 refine⟨T,id,pa,slot,hty,h1,h2,?_⟩
 have hA:=ha cpos pins s1 σ H1 _ I1 q1
 rw[hs] at hA ⊢
 refine Calls.callWith_builtin (by show (false||(backTo cpos (starEach es X.env)).any (·.1))=false;rw[hplain] <;> rfl) (Calls.evalArgs_plain ?_)
 exact thn hA fun us s2 zz229=>el5 zz229 fun vs H2 I2 r2 q2=>hm pins s2 σ H2 x vs v us Q I2 r1 r2 q2
end
def MtM (X:Cx) (id:String) (r:V→List V→Hp→VK→Prop):Prop:=
 ∀(pins:List (Addr×Obj)) (s:Shared) (σ:St) (H:Hp) (x:V) (xs:List V) (v:Value) (us:List Value) (Q:VK),Inv X pins σ H s→RelV x v→Vals xs us→r x xs H Q→
  wpAny (model X.prog X.w) X.A (call (.builtin id) (v::us)) (EP X pins σ Q) X.xe s
theorem Vals.one {x:V} {us:List Value} (h:Vals [x] us):∃u,us=[u]∧RelV x u:=by
 cases h with
 | cons r t=>cases t;exact⟨_,rfl,r⟩
theorem Vals.rep {xs:List V} {us:List Value} (h:Vals xs us):∀k:Nat,Vals (List.replicate k xs).flatten (List.replicate k us).flatten
 | 0=>.nil
 | k + 1=>by
  rw[List.replicate_succ,List.replicate_succ,List.flatten_cons,List.flatten_cons]
  exact Vals.append h (Vals.rep h k)
theorem foldl_rep (its:List Value):∀(k:Nat) (acc:List Value),
  List.foldl (fun x1 x2=>x1++x2) acc.toArray (List.replicate k its.toArray)=(acc++(List.replicate k its).flatten).toArray
 | 0,acc=>by simp
 | k + 1,acc=>by
  have e:acc.toArray++its.toArray=(acc++its).toArray:=by simp
  have e2:(acc++its)++(List.replicate k its).flatten=acc++(List.replicate (k + 1) its).flatten:=by
   rw[List.replicate_succ,List.flatten_cons,List.append_assoc]
  rw[←e2,←foldl_rep its k (acc++its),←e,List.replicate_succ,List.foldl_cons]
section
variable {X:Cx} {pins:List (Addr×Obj)} {σ:St} {H:Hp} {s:Shared} {l b:Addr} {xs ys zs:List V}
theorem Inv.lset {its its':List Value} {n:Nat} {f:Array Value→Array Value} {t':Nat} (I:Inv X pins σ H s) (hH:H l=some (.lst xs))
  (e:s.heap.get? l=some { cls:=.type "list",data:=.seq its.toArray n }) (hf:f its.toArray=its'.toArray) (hv:Vals ys its') (hz:ys.length≤sizeLine) :
  Inv X pins σ (upd H l (.lst ys)) { s with heap:=s.heap.update l (Obj.mapSeq f),toks:=t' }:=by
 have q:=PySem.IsL.update e f
 rw[hf] at q
 refine I.write (x:=l) (e:=l) (by rw[hH];exact trivial) (.inl rfl) (fun b' u hb hu=>(Heap.get?_update_other s.heap (Obj.mapSeq f) (Ne.symm hb)).trans hu) ⟨_,q⟩ ?_
 exact⟨hz,its',_,hv,q⟩
theorem Inv.lnew {its:List Value} {t':Nat} (I:Inv X pins σ H s) (hv:Vals ys its) (hz:ys.length≤sizeLine) :
  Inv X pins σ (upd H s.heap.objs.size (.lst ys)) { s with heap:=s.heap.push { cls:=.type "list",data:=.seq its.toArray },toks:=t' }:=
 I.laid (fun _ _ q=>Heap.get?_push_of_some _ q) (Nat.le_refl _) ⟨hz,its,0,hv,Heap.get?_push_size _ rfl⟩
theorem Inv.fresh (I:Inv X pins σ H s):H s.heap.objs.size=none:=I.hok.fresh (Nat.le_refl _)
theorem Inv.lstM (I:Inv X pins σ H s) (hH:H l=some (.lst xs)):xs.length≤sizeLine∧∃(its:List Value) (n:Nat),Vals xs its∧xs.length=its.length∧s.heap.get? l=some { cls:=.type "list",data:=.seq its.toArray n }:=by
 obtain⟨z,its,n,r,e⟩:=I.hok l _ hH
 exact⟨z,its,n,r,r.length,e⟩
theorem notLongL {n:Nat} (h:n≤sizeLine):Builtin.List.listTooLong n=false:=by
 unfold Builtin.List.listTooLong
 exact decide_eq_false (by lia)
end
section
variable {X:Cx}
def rAppend:V→List V→Hp→VK→Prop:=fun x vs H Q=>∃l xs y,x=.ref l∧vs=[y]∧H l=some (.lst xs)∧xs.length < sizeLine∧Q .non (upd H l (.lst (xs++[y])))
theorem mt_append:MtM X "list.append" rAppend:=by
 intro pins s σ H x vs v us Q I rx rv h
 obtain⟨l,xs,y,rfl,rfl,hH,hz,q⟩:=h
 cases rx
 obtain⟨u,rfl,ru⟩:=rv.one
 obtain⟨z,its,n,r,hl,e⟩:=I.lstM hH
 refine call_meets F.slot_list_append ⟨_,e,rfl⟩ F.entry_list_append (F.args_list_append_2 _ _) (PySem.list_append l its.toArray n u (by rw[List.size_toArray];lia)) ⟨e,?_⟩
 refine⟨.non,_,I.lset (its':=its++[u]) hH e (by simp) (r.append (.cons ru .nil)) ?_,rfl,q⟩
 rw[List.length_append,List.length_singleton]
 lia
def rCat:R2:=fun x y H Q=>∃l b xs zs,x=.ref l∧y=.ref b∧H l=some (.lst xs)∧H b=some (.lst zs)∧xs.length + zs.length≤sizeLine∧∀p,H p=none→Q (.ref p) (upd H p (.lst (xs++zs)))
theorem op_cat:OpR X (binaryOp .Add) rCat:=by
 intro pins s σ H x y v u Q I rx ry h
 obtain⟨l,b,xs,zs,rfl,rfl,hH,hB,hz,q⟩:=h
 cases rx
 cases ry
 obtain⟨z,its,n,r,hl,e⟩:=I.lstM hH
 obtain⟨z2,its2,n2,r2,hl2,e2⟩:=I.lstM hB
 refine PySem.P.add_list e e2 ?_ (by rw[List.size_toArray,List.size_toArray];lia)
 have ea:its.toArray++its2.toArray=(its++its2).toArray:=by simp
 rw[ea]
 exact⟨.ref _,_,I.lnew (t':=s.toks) (r.append r2) (by rw[List.length_append];lia),rfl,q _ I.fresh⟩
def rRep:R2:=fun x y H Q=>∃l k xs,x=.ref l∧y=.int k∧H l=some (.lst xs)∧-(2 ^ 63)≤k∧k < 2 ^ 63∧xs.length * k.toNat≤sizeLine∧
 ∀p,H p=none→Q (.ref p) (upd H p (.lst (List.replicate k.toNat xs).flatten))
theorem len_rep {α:Type} (xs:List α) (k:Nat):(List.replicate k xs).flatten.length=k * xs.length:=by
 induction k with
 | zero=>simp
 | succ k ih=>rw[List.replicate_succ,List.flatten_cons,List.length_append,ih,Nat.succ_mul,Nat.add_comm]
theorem op_rep:OpR X (binaryOp .Mult) rRep:=by
 intro pins s σ H x y v u Q I rx ry h
 obtain⟨l,k,xs,rfl,rfl,hH,h1,h2,hz,q⟩:=h
 cases rx
 obtain⟨t,rfl⟩:=ry
 obtain⟨z,its,n,r,hl,e⟩:=I.lstM hH
 have hlen:its.toArray.size * k.toNat≤sizeLine:=by rw[List.size_toArray,←hl];exact hz
 have hcap:¬ its.toArray.size * k.toNat > (2 ^ 63 - 1) / 8:=by
  have:(sizeLine:Nat)≤(2 ^ 63 - 1) / 8:=by decide
  lia
 have hfit:¬ (!Builtin.List.listFitsIndex k)=true:=by
  rw[fitsIndex_both h1 h2]
  exact Bool.false_ne_true
 have hlong:¬ Builtin.List.listTooLong (its.toArray.size * k.toNat)=true:=by
  rw[notLongL hlen]
  exact Bool.false_ne_true
 have hnew:List.foldl (fun x1 x2=>x1++x2) #[] (List.replicate (if its.toArray.isEmpty=true then 0 else k.toNat) its.toArray)=(List.replicate k.toNat its).flatten.toArray:=by
  have f0:∀m:Nat,List.foldl (fun x1 x2=>x1++x2) #[] (List.replicate m its.toArray)=(List.replicate m its).flatten.toArray:=fun m=>by
   have:=foldl_rep its m []
   rw[List.nil_append] at this
   exact this
  rw[f0]
  cases its with
  | nil=>simp
  | cons a r'=>rw[if_neg (by simp)]
 refine wpAny_binaryOp_repeat_ref (T:= "list") (U:= "int") (by decide) ⟨_,e,rfl⟩ (fun s'=>typeIs_int s' k t) noFill_list_mul F.fills_int_mul F.slot_int_rmul repeat_list F.slot_int_index.lookup
  (call_meets F.slot_int_rmul (typeIs_int s k t) F.entry_int_rmul (F.args_int_rmul_2 _ _) (int___rmul___int_list k t l its.toArray n)
   ⟨e,rfl,⟨_,e,rfl⟩,call_meets F.slot_list_mul ⟨_,e,rfl⟩ F.entry_list_mul (F.args_list_mul_2 _ _) (AutoListH.list___mul___list_int_3 l its.toArray n k t hfit hcap hlong) ⟨e,?_⟩⟩)
 rw[hnew]
 exact⟨.ref _,_,I.lnew (t':=s.toks) (r.rep k.toNat) (by rw[len_rep,Nat.mul_comm];exact hz),rfl,q _ I.fresh⟩
end
section
variable {prog:Program} {w:World} {A:Around} {E:Value→Shared→Prop} {s:Shared}
set_option maxRecDepth 100000 in
end
section
variable {X:Cx}
end
end L2
namespace Att
open PySem PySem.W PySem.Calls PyProof.Rows
theorem ints_of_wellAll {P:Params} {h:Heap}:∀(ns:List Int) (vs:List Value),WellAll P h vs (ns.map WData.int)→IntsAre vs ns:=by
 intro ns
 induction ns with
 | nil=>
  intro vs w
  rw[List.map_nil] at w
  cases w
  exact .nil
 | cons n ns ih=>
  intro vs w
  rw[List.map_cons] at w
  cases w with
  | cons a b=>
   cases a
   exact .cons _ _ (ih _ b)
theorem script_of {l:OpenLaw} {n:Nat} (hn:l.most=some n) {P:Params} {h:Heap} {args:List WData} {vals:List Value}
  (hpre:l.row.toRowW.claim.pre args=true) (hwl:WellAll P h vals args) :
  ∃a vs ns,vals=[Value.ref a]∧args=[WData.list (ns.map WData.int)]∧h.get? a=some { cls:=.type "list",data:=.seq vs.toArray }∧IntsAre vs ns∧ns.length≤n:=by
 have hsh:WShape.hasAll [] args [.list .int]=true:=(pre_splitW hpre).1
 have hc:l.pre.holds [] { args:=args }=true:=(pre_splitW hpre).2
 obtain⟨d,r,rfl,h1,h2⟩:=hasAllW_cons hsh
 obtain rfl:=hasAllW_nil h2
 obtain⟨xs,rfl,h3⟩:=hasW_list h1
 obtain⟨ns,rfl⟩:=items_int h3
 have hlen:ns.length≤n:=by
  unfold OpenLaw.pre at hc
  have h4:(WTm.not (.lt (.lit (.int (n:Int))) (.len (.arg 0)))).holds [] { args:=[.list (ns.map .int)] }=true:=by
   have h4:=(holds_andW hc).1
   rw[hn] at h4
   exact h4
  have h5:=condW_of h4 (w_not (w_lt w_lit (w_len_list (w_arg rfl))))
  rw[List.length_map] at h5
  refine Nat.le_of_not_lt fun q=>?_
  have q':(n:Int) < ((ns.length:Nat):Int):=by lia
  first
   | (rw[decide_eq_true q'] at h5;exact absurd h5 (by decide))
   | (simp at h5;lia)
 cases hwl with
 | cons w1 w2=>
  cases w2
  cases w1 with
  | list ho hall=>exact⟨_,_,ns,rfl,rfl,ho,ints_of_wellAll ns _ hall,hlen⟩
theorem post_true (l:OpenLaw) (args:List WData):l.row.toRowW.claim.post args (.bool true) args=true:=
 postW_of (r:=l.row.toRowW) (X:=(true == true))
  (show WShape.has [] (.bool true) .bool=true by first | rfl | decide | simp [WShape.has,WShape.arms,WShape.armsAll])
  (show (WTm.eq .res (.lit (.bool true))).value [] { args:=args,res:=some (.bool true),after:=args }=some (.bool (true == true)) from w_eq_bool (w_res rfl) w_lit) rfl
theorem attach_call {l:OpenLaw} {n:Nat} {q:Program} {loose:List Str} {XP:(Str→Option Value)→Heap→Prop} {YP:World→Heap→Prop} {d:DefRec}
  (hn:l.most=some n) (hdf:d.params.defaults=[])
  (call:∀(w:World) (s₀ s₁:Shared) (mg mb:Str→Option Value) (fa:Addr) (o:Obj) (pm cd doc:Value) (a:Addr) (vs:List Value) (ns:List Int),
   Ground q loose [] XP w s₀ mg mb s₁.heap→YP w s₁.heap→
   s₁.heap.get? fa=some o→o.data=.func (docDef d.name d.params d.body d.scope pm cd doc)→s₁.heap.CodeRec cd d.name→mg d.name=some (.ref fa)→
   s₁.heap.get? a=some { cls:=.type "list",data:=.seq vs.toArray }→IntsAre vs ns→ns.length≤n→s₁.gens=#[]→
   codeAny (model l.prog w) callerA (.call (.ref fa) ⟨[.ref a],[]⟩) (fun r s'=>r=.ok (.ret (.bool true))∧OldK s₁.heap s'.heap∧s'.os=s₁.os∧AllBare s'.gens) s₁) :
  WalkO q loose XP YP l.row.toRowW d [] (fun f vs=>PySem.call f vs):=by
 intro w s₀ s₁ mg mb G Y fa o pm cd doc dV kV ho hd hcd hD hmg hg args vals as hpre hlay hrd hwl hlo
 obtain rfl:dV=.none:=Dflts.none hD hdf
 obtain rfl:kV=.none:=Dflts.noKw hD
 obtain⟨a,vs,ns,rfl,rfl,hobj,hints,hlen⟩:=script_of hn hpre hwl
 refine enter_call (codeAny_mono (call w s₀ s₁ mg mb fa o pm cd doc a vs ns G Y ho (fd_plain hd) hcd hmg hobj hints hlen hg) fun r s' hq=>?_)
 obtain⟨rfl,h2,h3,h4⟩:=hq
 exact⟨.inl ⟨.bool true,.bool true,[],rfl,fun _=>rfl,.bool true,post_true l _,fun _=>⟨List.Pairwise.nil,fun _ hm=>(nomatch hm)⟩⟩,h2,h3,h4⟩
section
variable {prog:Program} {w:World} {A:Around} {E:Value→Shared→Prop} {s:Shared} {K:Frag}
def ledger (h:Heap) (L d:Addr):List (Addr×Obj):=(List.range h.objs.size).filterMap fun a=>if a=L∨a=d then none else (h.get? a).map fun o=>(a,o)
end
end Att
namespace L2
open PySem PySem.Spec PyProof.Rows
theorem vals_ints:∀{vs:List Value} {ns:List Int},IntsAre vs ns→Vals (ns.map V.int) vs
 | _,_,.nil=>.nil
 | _,_,.cons n t h=>.cons ⟨t,rfl⟩ (vals_ints h)
def Only (H:Hp):Prop:=∀b,H b=none∨∃o xs,H b=some (.frz o (.lst xs))
theorem law_call {P:Program} {w:World} {K:PySem.W.Frag} {mg mb:Str→Option Value} {CX:CXT} {k:Nat} {fa a:Addr} {fd:FuncData} {x:Str} {sp:Sp} {s₁:Shared} {vs:List Value} {ns:List Int}
  (KX:K.In s₁.heap) (hns:s₁.heap.Ns mainGlobals mg) (hb:s₁.heap.Ns builtinsNs mb) (hbb:∀x:Str,x≠ "__name__" →mb x=bootBuiltins x) (hlim:s₁.heap.NoLimit) (hg:s₁.gens=#[])
  (ha:s₁.heap.get? a=some { cls:=.type "list",data:=.seq vs.toArray }) (hi:IntsAre vs ns) (hl:ns.length≤sizeLine) (hr:Room k callerA)
  (F:∀base:Heap,K.In base→base.Ns mainGlobals mg→FnOk P w K mg base CX k fa fd [x] sp) (hbind:∀(s:Shared) (u:Value),BindsTo s fd ⟨[u],[]⟩ [(x,u)])
  (hsp:∀H:Hp,Only H→SqL K H a (ns.map V.int)→sp [.ref a] H (fun v _=>v=.bl true) fun _ _ _=>False)
  (hCX:∀H e s',CX [] H s₁ (fun _ _ _=>False) e s'→False) :
  codeAny (model P w) callerA (.call (.ref fa) ⟨[.ref a],[]⟩) (fun r s'=>r=.ok (.ret (.bool true))∧OldK s₁.heap s'.heap∧s'.os=s₁.os∧AllBare s'.gens) s₁:=by
 have rv:=vals_ints hi
 have lenV:=hi.length
 have core:∀H:Hp,Only H→SqL K H a (ns.map V.int)→HOk P w H s₁.heap→(∀b,H b≠none→b=a)→(H a≠none→K.lookup a=none)→
   codeAny (model P w) callerA (.call (.ref fa) ⟨[.ref a],[]⟩) (fun r s'=>r=.ok (.ret (.bool true))∧OldK s₁.heap s'.heap∧s'.os=s₁.os∧AllBare s'.gens) s₁:=by
  intro H hO hS hok hA hK
  have base_of:∀{b:Addr} {o:Obj},s₁.heap.get? b=some o→H b=none→(hidT s₁.heap H).get? b=some o:=fun e n=>hidT_get e n
  have noA:∀{b:Addr} {o:Obj} {es:Array DictEntry} {ep:Nat},s₁.heap.get? b=some o→o.data=.dict es ep→H b=none:=fun {b o es ep} e d=>by
   cases q:H b with
   | none=>rfl
   | some u=>
    have e':b=a:=hA b (by rw[q];simp)
    subst e'
    rw[ha] at e;cases e
    have d':Data.seq vs.toArray _=Data.dict es ep:=d
    cases d'
  have nsK:∀{b:Addr} {m:Str→Option Value},s₁.heap.Ns b m→(hidT s₁.heap H).Ns b m:=fun {b m} ⟨o,es,ep,e,d,r⟩=>⟨o,es,ep,base_of e (noA e d),d,r⟩
  have hKb:K.In (hidT s₁.heap H):=fun b o e=>base_of (KX b o e) (by
   cases q:H b with
   | none=>rfl
   | some u=>
    have e':b=a:=hA b (by rw[q];simp)
    subst e'
    rw[hK (by rw[q];simp)] at e;cases e)
  have hM:Mod K mg (hidT s₁.heap H):=⟨hKb,nsK hns,⟨mb,nsK hb,hbb⟩,let ⟨mc,h1,h2⟩:=hlim;⟨mc,nsK h1,h2⟩⟩
  have e0:Env0 P w K mg (hidT s₁.heap H) callerA [] s₁ H:=⟨rfl,hM,fun b o e=>of_hidT e,Nat.le_of_eq (hidT_size _ _),trivial,fun b hb=>absurd (show b∈([]:List Addr) from hb) (by simp),hok,.of_eq hg⟩
  refine codeAny_mono ((F _ hKb (nsK hns)).run callerA [] s₁ H ⟨[.ref a],[]⟩ [.ref a] [.ref a] _ _ hr e0 (hbind s₁ (.ref a)) (.cons rfl .nil) (hsp H hO hS)) fun r s' h=>?_
  cases r with
  | error e=>exact (hCX H e s' h).elim
  | ok fl=>
   cases fl with
   | next=>exact False.elim h
   | brk=>exact False.elim h
   | cont=>exact False.elim h
   | ret u=>
    obtain⟨v,H',os,bare,un,hok',r',q⟩:=h
    have q':v=.bl true:=q
    subst q'
    obtain rfl:u=Value.bool true:=r'
    refine⟨rfl,OldK.of_keep fun b o e=>?_,os,bare⟩
    cases q:H b with
    | none=>exact un.keep b o e q (by intro z;exact absurd (show b∈([]:List Addr) from z) (by simp)) (by simp)
    | some u=>
     rcases hO b with z | ⟨ob,xs,z⟩
     ·rw[q] at z;cases z
     ·have z2:=un.frzs b ob _ z
      obtain⟨e1,_⟩:=hok b _ z
      obtain⟨e2,_⟩:=hok' b _ z2
      rw[e] at e1;cases e1
      exact e2
 cases hk:K.lookup a with
 | some o=>
  have e:=KX a o hk
  rw[ha] at e
  cases e
  refine core (fun _=>none) (fun _=>.inl rfl) (.inr ⟨_,vs.toArray,_,hk,rfl,rfl,rfl,by rw[List.size_toArray,lenV];exact hl,by simpa using rv⟩) (fun b u z=>by have z':(none:Option HO)=some u:=z;cases z') (fun b z=>absurd rfl z) fun z=>absurd rfl z
 | none=>
  refine core (fun b=>if b=a then some (.frz { cls:=.type "list",data:=.seq vs.toArray } (.lst (ns.map V.int))) else none) (fun b=>?_) (.inl (.inr ⟨{ cls:=.type "list",data:=.seq vs.toArray },if_pos rfl⟩)) (fun b u z=>?_) (fun b z=>?_) fun _=>hk
  ·by_cases hb:b=a
   ·exact .inr ⟨_,_,if_pos hb⟩
   ·exact .inl (if_neg hb)
  ·by_cases hb:b=a
   ·have z':=(if_pos hb).symm.trans z
    cases z'
    subst hb
    exact⟨ha,by rw[List.length_map];exact hl,vs,_,rv,ha⟩
   ·have z':=(if_neg hb).symm.trans z
    cases z'
  ·by_cases hb:b=a
   ·exact hb
   ·exact absurd (if_neg hb) z
theorem walk_of {l:PySem.W.OpenLaw} {n k:Nat} {q:Program} {loose:List Str} {XP:(Str→Option Value)→Heap→Prop} {YP:World→Heap→Prop} {d:DefRec} {K:Params→PySem.W.Frag} {CX:World→CXT} {sp:World→Sp} {x:Str}
  (hn:l.most=some n) (hn2:n≤sizeLine) (hdf:d.params.defaults=[]) (hr:Room k callerA)
  (hY:∀(w:World) (h:Heap),YP w h→(K w.params).In h)
  (F:∀(w:World) (mg:Str→Option Value) (fa:Addr) (h:Heap),(K w.params).In h→h.Ns mainGlobals mg→mg d.name=some (.ref fa)→
   ∃fd:FuncData,(∀(s:Shared) (u:Value),BindsTo s fd ⟨[u],[]⟩ [(x,u)])∧
    ∀base:Heap,(K w.params).In base→base.Ns mainGlobals mg→FnOk l.prog w (K w.params) mg base (CX w) k fa fd [x] (sp w))
  (hsp:∀(w:World) (H:Hp) (a:Addr) (ns:List Int),ns.length≤n→Only H→SqL (K w.params) H a (ns.map V.int)→sp w [.ref a] H (fun v _=>v=.bl true) fun _ _ _=>False)
  (hCX:∀(w:World) (H:Hp) (s:Shared) (e:Value) (s':Shared),CX w [] H s (fun _ _ _=>False) e s'→False) :
  PySem.W.WalkO q loose XP YP l.row.toRowW d [] (fun f vs=>PySem.call f vs):=by
 refine Att.attach_call hn hdf fun w s₀ s₁ mg mb fa o pm cd doc a vs ns G Y ho hd hcd hmg hobj hints hlen hg=>?_
 have KX:=hY w _ Y
 obtain⟨fd,hb,hF⟩:=F w mg fa _ KX G.T.g hmg
 exact law_call KX G.T.g G.T.b G.T.builtins G.T.nolimit hg hobj hints (Nat.le_trans hlen hn2) hr hF hb (fun H hO hS=>hsp w H a ns hlen hO hS) fun H e s'=>hCX w H s₁ e s'
def inClass (s:Stmt) (j:Nat):Stmt:=match s with
 | .ClassDef _ _ _ body _ _ _ _ _ _ _=>body.getD j (.Pass ⟨0,0,0,0⟩)
 | _=>.Pass ⟨0,0,0,0⟩
def defArgs (s:Stmt):Arguments:=match s with
 | .FunctionDef _ a _ _ _ _ _ _ _ _=>a
 | _=>{ posonlyargs:=[],args:=[],vararg:=none,kwonlyargs:=[],kw_defaults:=[],kwarg:=none,defaults:=[] }
def defBody (s:Stmt):List Stmt:=match s with
 | .FunctionDef _ _ b _ _ _ _ _ _ _=>b
 | _=>[]
def defScope (s:Stmt):Scope:=match s with
 | .FunctionDef _ _ _ _ _ _ sc _ _ _=>sc
 | _=>{ kind:=.function,names:=[],isGenerator:=false,isCoroutine:=false }
abbrev CX0:CXT:=fun _ _ _ _ _ _=>False
abbrev E0:XK:=fun _ _ _=>False
theorem pass0 {X:Cx}:Passes CX0 X E0:=fun _ _ _ _ _ _ _ h=>h.elim
structure Fun (K:PySem.W.Frag) (x qual:Str) (st:Stmt) (f:Addr) (fd:FuncData):Prop where
 ex:∃(oc:Value) (od:Option Addr) (kV doc pm:Value) (an:Option Addr) (cdv ct:Value) (osl:Array (Option Value)),
  fd=PySem.W.fnOf x qual (defArgs st) (defBody st) (defScope st) .none kV doc pm an cdv ct∧K.lookup f=some ⟨oc,od,.func fd,osl⟩∧PySem.W.codeIn K cdv qual=true
 kp:PySem.W.keepIn K (.ref f)=true
section
variable {P:Program} {w:World} {K:PySem.W.Frag} {mg:Str→Option Value} {base:Heap}
theorem Fun.ok {x qual:Str} {st:Stmt} {f:Addr} {fd:FuncData} {N ps:List Str} {k:Nat} {sp:Sp} (F:Fun K x qual st f fd) (S:FnScope N ps (defScope st)) (len:∀vs H Q E,sp vs H Q E→vs.length=ps.length)
  (hbody:∀(cdv:Value) (A:Around) (outer:List Env) (s:Shared) (H:Hp) (vs:List V) (Q:VK) (E:XK),Room k (A.deeper (envOfC qual (defScope st) s.heap.objs.size f cdv))→sp vs H Q E→
   ∃t,PSs (cxOf CX0 P w K mg base N qual (defScope st) f cdv A outer s H E).nox (defBody st) t∧t { nx:=fun _ H'=>Q .non H',rt:=Q } (start N vs) H):FnOk P w K mg base CX0 (k + 1) f fd ps sp:=by
 obtain⟨oc,od,kV,doc,pm,an,cdv,ct,osl,rfl,lk,hcd⟩:=F.ex
 refine fn_of lk hcd S len fun A outer s H vs Q E hr hsp=>?_
 obtain⟨t,h,q⟩:=hbody cdv A outer s H vs Q E hr hsp
 exact⟨t,h.nox,q⟩
theorem Fun.binds {x qual:Str} {st:Stmt} {f:Addr} {fd:FuncData} {ps:List Str} (F:Fun K x qual st f fd)
  (h:∀(kV doc pm:Value) (an:Option Addr) (cdv ct:Value) (us:List Value),us.length=ps.length→bindArgs (PySem.W.fnOf x qual (defArgs st) (defBody st) (defScope st) .none kV doc pm an cdv ct) ⟨us,[]⟩=pure (ps.zip us)):Binds K fd ps []:=by
 obtain⟨oc,od,kV,doc,pm,an,cdv,ct,osl,rfl,lk,hcd⟩:=F.ex
 exact .all (h kV doc pm an cdv ct)
theorem fun_mk {x qual:Str} {st:Stmt} {f:Addr} {oc:Value} {od an:Option Addr} {osl:Array (Option Value)} {kV doc pm cdv ct:Value} (l:K.lookup f=some ⟨oc,od,.func (PySem.W.fnOf x qual (defArgs st) (defBody st) (defScope st) .none kV doc pm an cdv ct),osl⟩)
  (c:PySem.W.codeIn K cdv qual=true) (k:PySem.W.keepIn K (.ref f)=true):Fun K x qual st f (PySem.W.fnOf x qual (defArgs st) (defBody st) (defScope st) .none kV doc pm an cdv ct):=⟨⟨oc,od,kV,doc,pm,an,cdv,ct,osl,rfl,l,c⟩,k⟩
end
theorem small1000 {n:Nat} (h:n≤1000):n < sizeLine:=Nat.lt_of_le_of_lt h (by decide)
section
variable {X:Cx}
theorem pv (i:Nat) {x:Str} {pos:Pos} (hN:X.N[i]?=some x:=by rfl) (hv:Vis X.env.scope x:=by first | exact Or.inl rfl | exact Or.inr (Or.inl rfl) | exact Or.inr (Or.inr rfl)) (hd:(x == ("__debug__" : Str))=false:=by decide)
  (hcd:(x == ("__classdict__" : Str))=false:=by decide):PE X (.Name x pos) (tVar i):=pe_var hN hv hd hcd
end
theorem iteF {A B:Prop} (h:B):if false=true then A else B:=by
 rw[if_neg Bool.false_ne_true]
 exact h
theorem iteT {A B:Prop} (h:A):if true=true then A else B:=by
 rw[if_pos rfl]
 exact h
theorem ite2 {c A B:Prop} [Decidable c] (h1:c→A) (h2:¬ c→B):if c then A else B:=by
 by_cases h:c
 ·rw[if_pos h]
  exact h1 h
 ·rw[if_neg h]
  exact h2 h
def Same (H H':Hp):Prop:=∀b o,H b=some o→H' b=some o
theorem Same.refl (H:Hp):Same H H:=fun _ _ h=>h
end L2
set_option maxHeartbeats 4000000
namespace L2
open PySem PySem.Spec PyProof.Rows
def closOf (cells:List (Str×Addr)):List (Str×NameKind)→List (Str×Addr)→List (Str×Addr)
 | [],cs=>cs
 | (n,k)::r,cs=>closOf cells r (if k == .free then (n,(cells.lookup n).getD 0)::cs else cs)
theorem closureFor_eq {scope:Scope} {env:Env} (h:∀y∈scope.names,y.2=.free→∃c,env.cells.lookup y.1=some c):closureFor scope env=pure (closOf env.cells scope.names []):=by
 have key:∀(l:List (Str×NameKind)) (cs:List (Str×Addr)),(∀y∈l,y.2=.free→∃c,env.cells.lookup y.1=some c)→
   (forIn l cs fun (x:Str×NameKind) (r:List (Str×Addr))=>if (x.2 == NameKind.free)=true then do let a ←cellOf env x.1;pure (ForInStep.yield ((x.1,a)::r)) else pure (ForInStep.yield r):Sem (List (Str×Addr)))=pure (closOf env.cells l cs):=by
  intro l
  induction l with
  | nil=>intro cs _;rfl
  | cons y r ih=>
   intro cs hl
   obtain⟨n,k⟩:=y
   rw[List.forIn_cons]
   by_cases hk:k=.free
   ·subst hk
    obtain⟨c,hc⟩:=hl (n,.free) List.mem_cons_self rfl
    have hc':env.cells.lookup n=some c:=hc
    have e1:cellOf env n=pure c:=by unfold cellOf;rw[hc']
    simp only[beq_self_eq_true,if_true,e1,pure_bind]
    rw[ih _ fun z hz=>hl z (List.mem_cons_of_mem _ hz)]
    show _=pure (closOf env.cells r (if (NameKind.free == NameKind.free)=true then (n,(env.cells.lookup n).getD 0)::cs else cs))
    rw[hc']
    rfl
   ·have hb:(k == NameKind.free)=false:=by simpa using hk
    simp only[hb,Bool.false_eq_true,if_false,pure_bind]
    rw[ih _ fun z hz=>hl z (List.mem_cons_of_mem _ hz)]
    show _=pure (closOf env.cells r (if (k == NameKind.free)=true then (n,(env.cells.lookup n).getD 0)::cs else cs))
    rw[hb]
    rfl
 have k2:=key scope.names [] h
 have e:closureFor scope env=((forIn scope.names [] fun (x:Str×NameKind) (r:List (Str×Addr))=>if (x.2 == NameKind.free)=true then do let a ←cellOf env x.1;pure (ForInStep.yield ((x.1,a)::r)) else pure (ForInStep.yield r):Sem (List (Str×Addr))) >>= fun cs=>pure cs):=rfl
 rw[e,k2]
 rfl
theorem closOf_sub {cells:List (Str×Addr)}:∀{l:List (Str×NameKind)} {cs:List (Str×Addr)},(∀y∈l,y.2=.free→∃c,cells.lookup y.1=some c)→(∀x c,cs.lookup x=some c→cells.lookup x=some c)→
  ∀x c,(closOf cells l cs).lookup x=some c→cells.lookup x=some c
 | [],_,_,h,x,c,e=>h x c e
 | (n,k)::r,cs,hl,h,x,c,e=>by
  unfold closOf at e
  refine closOf_sub (l:=r) (fun z hz=>hl z (List.mem_cons_of_mem _ hz)) (fun y d q=>?_) x c e
  split at q
  ·rename_i hk
   obtain⟨c0,hc0⟩:=hl (n,k) List.mem_cons_self (by simpa using hk)
   have hc0':cells.lookup n=some c0:=hc0
   rw[hc0'] at q
   rw[List.lookup_cons] at q
   split at q
   ·rename_i hb
    have:=eq_of_beq hb
    subst this
    rw[hc0']
    exact q
   ·exact h y d q
  ·exact h y d q
theorem closOf_keeps {cells:List (Str×Addr)} {x:Str}:∀{l:List (Str×NameKind)} {cs:List (Str×Addr)},(∃c,cs.lookup x=some c)→∃c,(closOf cells l cs).lookup x=some c
 | [],_,h=>h
 | (n,k)::r,cs,h=>by
  unfold closOf
  refine closOf_keeps (l:=r) ?_
  split
  ·rw[List.lookup_cons]
   split
   ·exact⟨_,rfl⟩
   ·exact h
  ·exact h
theorem closOf_has {cells:List (Str×Addr)} {x:Str}:∀{l:List (Str×NameKind)} {cs:List (Str×Addr)},(x,NameKind.free)∈l→∃c,(closOf cells l cs).lookup x=some c
 | (n,k)::r,cs,h=>by
  unfold closOf
  rcases List.mem_cons.mp h with e | h
  ·injection e with e1 e2
   subst e1 e2
   refine closOf_keeps (l:=r) ?_
   simp only[beq_self_eq_true,if_true]
   rw[List.lookup_cons]
   simp
  ·exact closOf_has (l:=r) h
structure CA where
 s:Shared
 H:Hp
 C:Addr
 fp:List Addr
abbrev cxComp (X:Cx) (scope:Scope) (N':List Str) (a:CA):Cx where
 prog:=X.prog
 w:=X.w
 K:=X.K
 mg:=X.mg
 base:=X.base
 A:=X.A
 N:=N'
 s₀:=a.s
 H₀:=a.H
 env:=compEnvC scope (closOf X.env.cells scope.names []) a.C X.env
 outer:=X.stack
 stack:=X.stack
 ex:=a.fp
 fn:=fun _=>false
 calm:=X.calm
 pn:=[]
 xe:=fun _ _=>False
structure CompSc (N N':List Str) (osc scope:Scope) (j:Nat) (x:Str):Prop where
 nd:N'.Nodup
 at_:N'[j]?=some x
 sub:∀(i:Nat) y,i≠j→N'[i]?=some y→N[i]?=some y
 len:N'.length≤N.length + 1
 kind:scope.kind=.function
 cell:∀y∈scope.names,y.2≠.cell
 names:∀y∈scope.names,y.2=.local→scope.names.lookup y.1=some .local
 only:∀y∈scope.names,y.2=.local→y.1=x∨y.1∉N'
 loc:scope.names.lookup x=some .local
 okind:osc.kind=.function
 free:∀y∈scope.names,y.2=.free→osc.names.lookup y.1=some .cell
def compOk (N:List Str) (osc scope:Scope) (x:Str):Bool:=
 decide (N++[x]).Nodup&&decide (scope.kind=.function)&&decide (osc.kind=.function)&&(scope.names.lookup x == some .local)&&
  scope.names.all fun y=>match y.2 with
   | .cell=>false
   | .local=>scope.names.lookup y.1 == some .local&&(y.1 == x||!((N++[x]).contains y.1))
   | .free=>osc.names.lookup y.1 == some .cell
   | _=>true
theorem CompSc.new {N:List Str} {osc scope:Scope} {x:Str} (h:compOk N osc scope x=true):CompSc N (N++[x]) osc scope N.length x:=by
 unfold compOk at h
 simp only[Bool.and_eq_true,decide_eq_true_eq,List.all_eq_true,beq_iff_eq] at h
 obtain⟨⟨⟨⟨h1,h2⟩,h3⟩,h4⟩,h5⟩:=h
 refine⟨h1,by simp,fun i y ne e=>?_,by simp,h2,fun y hy e=>?_,fun y hy e=>?_,fun y hy e=>?_,h4,h3,fun y hy e=>?_⟩
 ·by_cases hi:i < N.length
  ·rw[List.getElem?_append_left hi] at e;exact e
  ·rw[List.getElem?_append_right (by lia)] at e
   cases q:i - N.length with
   | zero=>exact absurd (by lia) ne
   | succ k=>rw[q] at e;simp at e
 ·have:=h5 y hy;rw[e] at this;cases this
 ·have:=h5 y hy
  rw[e] at this
  simp only[Bool.and_eq_true,beq_iff_eq] at this
  exact this.1
 ·have:=h5 y hy
  rw[e] at this
  simp only[Bool.and_eq_true,Bool.or_eq_true,beq_iff_eq,Bool.not_eq_true',List.contains_eq_mem,decide_eq_false_iff_not] at this
  exact this.2
 ·have:=h5 y hy
  rw[e] at this
  simp only[beq_iff_eq] at this
  exact this
def padS (n j:Nat) (σ:St):St:=((σ++[none]).take n).set j none
theorem padS_get {n j i:Nat} {σ:St} {v:V} (h:(padS n j σ)[i]?=some (some v)):i≠j∧σ[i]?=some (some v):=by
 unfold padS at h
 by_cases e:i=j
 ·subst e
  rw[List.getElem?_set] at h
  simp only[if_true] at h
  split at h <;> cases h
 ·refine⟨e,?_⟩
  rw[List.getElem?_set_ne (Ne.symm e)] at h
  have h2:(σ++[none])[i]?=some (some v):=by
   by_cases hi:i < n
   ·rw[List.getElem?_take_of_lt hi] at h;exact h
   ·rw[List.getElem?_eq_none (by rw[List.length_take];lia)] at h;cases h
  by_cases hi:i < σ.length
  ·rw[List.getElem?_append_left hi] at h2;exact h2
  ·rw[List.getElem?_append_right (by lia)] at h2
   cases q:i - σ.length with
   | zero=>rw[q] at h2;cases h2
   | succ k=>rw[q] at h2;cases h2
theorem padS_len {n j:Nat} {σ:St} (h:n≤σ.length + 1):(padS n j σ).length=n:=by
 unfold padS
 rw[List.length_set,List.length_take,List.length_append]
 simp;lia
theorem lookup_relabel_free {env:Env}:∀{names:List (Str×NameKind)} {x:Str},((names.map fun (n,k)=>if (k == NameKind.free&&env.scope.kind == .function&&env.kindOf n == some .cell) then (n,NameKind.cell) else (n,k)).lookup x=some .cell∨
  (names.map fun (n,k)=>if (k == NameKind.free&&env.scope.kind == .function&&env.kindOf n == some .cell) then (n,NameKind.cell) else (n,k)).lookup x=some .free)→(∀y∈names,y.2≠.cell)→(x,NameKind.free)∈names
 | [],_,h,_=>by rcases h with h | h <;> cases h
 | (n,k)::r,x,h,hc=>by
  rw[List.map_cons] at h
  dsimp only at h
  by_cases hk:(k == NameKind.free&&env.scope.kind == .function&&env.kindOf n == some .cell)=true
  ·rw[if_pos hk] at h
   simp only[List.lookup_cons] at h
   cases hx:x == n with
   | true=>
    have e:=eq_of_beq hx
    subst e
    have k':k=.free:=by
     rw[Bool.and_eq_true,Bool.and_eq_true] at hk
     simpa using hk.1.1
    subst k'
    exact List.mem_cons_self
   | false=>
    simp only[hx] at h
    exact List.mem_cons_of_mem _ (lookup_relabel_free h fun y hy=>hc y (List.mem_cons_of_mem _ hy))
  ·rw[if_neg hk] at h
   simp only[List.lookup_cons] at h
   cases hx:x == n with
   | true=>
    have e:=eq_of_beq hx
    subst e
    simp only[hx] at h
    rcases h with h | h
    ·exact absurd (Option.some.inj h) (hc (x,k) List.mem_cons_self)
    ·have:=Option.some.inj h
     subst this
     exact List.mem_cons_self
   | false=>
    simp only[hx] at h
    exact List.mem_cons_of_mem _ (lookup_relabel_free h fun y hy=>hc y (List.mem_cons_of_mem _ hy))
theorem lookup_relabel_loc {env:Env}:∀{names:List (Str×NameKind)} {x:Str},(names.map fun (n,k)=>if (k == NameKind.free&&env.scope.kind == .function&&env.kindOf n == some .cell) then (n,NameKind.cell) else (n,k)).lookup x=some .local→(x,NameKind.local)∈names
 | [],_,h=>by cases h
 | (n,k)::r,x,h=>by
  rw[List.map_cons] at h
  dsimp only at h
  by_cases hk:(k == NameKind.free&&env.scope.kind == .function&&env.kindOf n == some .cell)=true
  ·rw[if_pos hk] at h
   simp only[List.lookup_cons] at h
   cases hx:x == n with
   | true=>simp only[hx] at h;cases h
   | false=>
    simp only[hx] at h
    exact List.mem_cons_of_mem _ (lookup_relabel_loc h)
  ·rw[if_neg hk] at h
   simp only[List.lookup_cons] at h
   cases hx:x == n with
   | true=>
    have e:=eq_of_beq hx
    subst e
    simp only[hx] at h
    have:=Option.some.inj h
    subst this
    exact List.mem_cons_self
   | false=>
    simp only[hx] at h
    exact List.mem_cons_of_mem _ (lookup_relabel_loc h)
section
variable {X:Cx} {pins:List (Addr×Obj)} {σ:St} {H:Hp} {s:Shared}
structure Own (X:Cx) (pins:List (Addr×Obj)) (H:Hp) (C:Addr):Prop where
 no:H C=none
 ne:C≠X.env.locals
 ab:X.s₀.heap.objs.size≤C
 ce:∀x c,X.env.cells.lookup x=some c→c≠C
 pi:∀p∈X.pn++pins,p.1≠C
theorem Inv.own {C:Addr} {H':Hp} (I:Inv X pins σ H s) (h:s.heap.objs.size≤C) (hn:H' C=none):Own X pins H' C:=by
 refine⟨hn,Nat.ne_of_gt (Nat.lt_of_lt_of_le I.lt h),Nat.le_trans I.sz h,fun x c e z=>?_,fun p hp z=>?_⟩
 ·obtain⟨v,q⟩:=I.cell x c e
  exact absurd (Nat.lt_of_lt_of_le q.lt (by rw[z];exact h)) (Nat.lt_irrefl _)
 ·exact absurd (Nat.lt_of_lt_of_le (Heap.lt_size (I.pin p hp).1) (by rw[z];exact h)) (Nat.lt_irrefl _)
theorem Inv.own_turn {C:Addr} {h':Heap} (I:Inv X pins σ H s) (o:Own X pins H C) (hs:Heap.SameBut C s.heap h'):Inv X pins σ H { s with heap:=h' }:=
 I.turned (t':=s.toks) (fun b ob hb e=>(hs.2 b hb).trans e) o.no o.ne (.inr o.ab) o.ce o.pi
theorem Inv.track {D:Addr} {ys:List V} {its:List Value} {n:Nat} (I:Inv X pins σ H s) (o:Own X pins H D) (e:s.heap.get? D=some { cls:=.type "list",data:=.seq its.toArray n }) (r:Vals ys its) (hz:ys.length≤sizeLine) :
  Inv X pins σ (upd H D (.lst ys)) s:=by
 have nD:∀b u,H b=some u→b≠D:=fun b u q z=>by rw[z,o.no] at q;cases q
 have hok:HOk X.prog X.w (upd H D (.lst ys)) s.heap:=fun b u q=>by
  by_cases hb:b=D
  ·subst hb
   rw[upd_same] at q
   cases q
   exact⟨hz,its,n,r,e⟩
  ·rw[upd_ne hb] at q
   exact (I.hok b u q).stay (fun _ _ _ z=>z) (fun c z=>by rw[upd_ne (nD c _ z)];exact z) fun c xs z=>by rw[upd_ne (nD c _ z)];exact z
 have:=I.step (H':=upd H D (.lst ys)) (h':=s.heap) (g':=s.gens) (t':=s.toks) (d':=s.drawn) (ch:=[D]) (fun b hb=>by
   have e':b=D:=by simpa using hb
   subst e'
   exact⟨.inr o.ab,o.ne,o.ce,o.pi⟩) (fun b ob _ _ _ q _=>q) (fun b ob _ _ _ q _=>⟨ob.slots,q⟩) (fun b ob hc q z=>by rw[upd_ne (by simpa using hc)];exact z) (fun b ob _ q=>⟨ob,q⟩)
  (fun b xs q=>by rw[upd_ne (nD b _ q)];exact q) (fun b ob u q=>by rw[upd_ne (nD b _ q)];exact q) (fun b ps q=>⟨#[],by rw[upd_ne (nD b _ q),q];simp⟩) (fun m z=>z) hok I.bare
 exact this
end
section
variable {prog:Program} {w:World} {A:Around} {R:Result→Shared→Prop} {s:Shared}
theorem compLoop_go {elt target iter:Expr} {ifs:List Expr} {scope:Scope} {pos:Pos} {it acc:Value} {env:Env} (I:Nat→Shared→Prop)
  (turn:∀n s,I n s→∀E:Value→Shared→Prop,wpAny (model prog w) A (pyNext it) (fun r s₁=>match r with
   | none=>R (.ok .next) s₁
   | some v=>wpAny (model prog w) A (letOwnedTupleGo target it v) (fun _ s₁'=>wpAny (model prog w) A (assign target env v) (fun _ s₂=>
     wpAny (model prog w) A (forIn ifs true fun c r=>if r=true then do let ok ←isTrue c env (eval c env);pure (ForInStep.yield ok) else pure (ForInStep.yield r)) (fun ok s₃=>
      if ok=true then wpAny (model prog w) A (eval elt env) (fun x s₄=>
       wpAny (model prog w) A (call (.builtin "list.append") [acc,x]) (fun _ s₅=>∃m,m < n∧I m s₅) E s₄) E s₃
      else ∃m,m < n∧I m s₃) E s₂) E s₁') E s₁) E s)
  (n:Nat) (h:I n s) :
  codeAny (model prog w) A (.compLoop (.ListComp elt [⟨target,iter,ifs,0⟩] scope pos) 0 it acc env) R s:=by
 refine codeAny_loop rfl I (fun n s hI=>?_) n h
 show wpAny _ A ((compTurn (.ListComp elt [⟨target,iter,ifs,0⟩] scope pos) 0 it acc env).onRaise (fun x=>do noteFrame x env;theTreesLotGoes x)) _ _ s
 refine wpAny_noted ?_
 rw[compTurn_list]
 refine wpAny_bind (wpAny_standAt (wpAny_bind (wpAny_mono (turn n s hI _) (fun r s₁ h₁=>?_) fun _ _ h'=>h')))
 cases r with
 | none=>exact wpAny_pure h₁
 | some v=>
  refine wpAny_bind (wpAny_mono h₁ (fun _ s₁' h₁'=>?_) fun _ _ h'=>h')
  refine wpAny_bind (wpAny_mono h₁' (fun _ s₂ h₂=>wpAny_bind (wpAny_mono h₂ (fun ok s₃ h₃=>?_) fun _ _ h'=>h')) fun _ _ h'=>h')
  cases ok with
  | false=>exact wpAny_pure ⟨rfl,h₃⟩
  | true=>
   exact wpAny_bind (wpAny_bind (wpAny_mono h₃ (fun x s₄ h₄=>wpAny_bind (wpAny_mono h₄ (fun _ s₅ h₅=>wpAny_pure (wpAny_pure ⟨rfl,h₅⟩)) fun _ _ h'=>h')) fun _ _ h'=>h'))
end
def PTs (X:Cx) (ifs:List Expr) (t:TT):Prop:=
 ∀(pins:List (Addr×Obj)) (s:Shared) (σ:St) (H:Hp) (Q:Bool→Hp→Prop),Inv X pins σ H s→t σ H Q→
  wpAny (model X.prog X.w) X.A (forIn ifs true fun c r=>if r=true then do let ok ←isTrue c X.env (eval c X.env);pure (ForInStep.yield ok) else pure (ForInStep.yield r)) (TP X pins σ Q) X.xe s
def tTrue:TT:=fun _ H Q=>Q true H
theorem pts_nil {X:Cx}:PTs X [] tTrue:=fun _ _ _ H _ I h=>wpAny_tests_nil ⟨H,I,h⟩
theorem pts_one {X:Cx} {c:Expr} {t:TT} (h:PT X c t):PTs X [c] t:=fun pins s σ H Q I q=>wpAny_tests_one (h pins s σ H Q I q)
def RComp (σ:St) (n j:Nat) (tt:CA→TT) (te:CA→TE) (J:It) (H1:Hp) (Q:List V→Hp→Prop):Prop:=
 ∃W:Nat→Nat→List V→Hp→Prop,(∃m,W 0 m [] H1)∧∀i m ys H,W i m ys H→ys.length≤sizeLine∧
  ((J.stop i H∧Q ys H)∨(J.go i H∧∃N:List V→Hp→Prop,(∀ys' H',N ys' H'→∃m',m' < m∧W (i + 1) m' ys' H')∧
   ∀x H',J.yld i H x H'→∀a:CA,tt a ((padS n j σ).set j (some x)) H' fun b H2=>if b=true then te a ((padS n j σ).set j (some x)) H2 fun y H3=>N (ys++[y]) H3 else N ys H2))
def tComp (wi:TI) (n j:Nat) (tt:CA→TT) (te:CA→TE):TE:=fun σ H Q=>wi σ H fun J H1=>RComp σ n j tt te J H1 fun ys H2=>∀p,H2 p=none→Q (.ref p) (upd H2 p (.lst ys))
section
variable {X:Cx} {pins:List (Addr×Obj)} {σ:St} {H:Hp} {s:Shared}
theorem comp_core {elt iter:Expr} {x:Str} {px pos:Pos} {ifs:List Expr} {scope:Scope} {N':List Str} {j:Nat} {tt:CA→TT} {te:CA→TE} {it:Addr} {fp:List Addr} {tn:Nat→Heap→Prop} {J:It} {Q:List V→Hp→Prop}
  {RR:Value→Addr→Result→Shared→Prop} {E:Value→Shared→Prop}
  (S:CompSc X.N N' X.env.scope scope j x) (hc:X.calm=true)
  (ht:∀a:CA,PTs (cxComp X scope N' a) ifs (tt a)) (he:∀a:CA,PE (cxComp X scope N' a) elt (te a))
  (I:Inv X pins σ H s) (T:Turn X.prog X.w X.K (.Name x px) J fp it tn) (st:tn 0 s.heap) (f2:∀b∈fp,FpOk X pins H b) (h:RComp σ N'.length j tt te J H Q)
  (hRR:∀(D C:Addr) (ys:List V) (H':Hp) (s':Shared) (m:Str→Option Value),s'.heap.Ns C m→Own X pins (upd H' D (.lst ys)) C→Inv X pins σ (upd H' D (.lst ys)) s'→H' D=none→Q ys H'→RR (.ref D) C (.ok .next) s') :
  wpAny (model X.prog X.w) X.A (newList []) (fun acc s₃=>wpAny (model X.prog X.w) X.A (newFunctionEnv scope X.env.globals (closOf X.env.cells scope.names []) [] X.env.qual none .none (some X.env)) (fun cenv s₄=>
   codeAny (model X.prog X.w) X.A (.compStart (.ListComp elt [⟨.Name x px,iter,ifs,0⟩] scope pos) 0 (.ref it) acc { cenv with scope:=relabel scope X.env }) (RR acc cenv.locals) s₄) E s₃) E s:=by
 refine wpAny_newObj_type (wpAny_newFunctionEnv S.cell (by intro y hy;simp at hy) (fun h₁ hns₁ hsb₁=>?_) S.kind)
 dsimp only at hns₁ hsb₁ ⊢
 generalize hH2:s.heap.push { cls:=.type "list",dict:=none,data:=.seq ([]:List Value).toArray }=H2 at hns₁ hsb₁ ⊢
 have hC:H2.objs.size=s.heap.objs.size + 1:=by rw[←hH2,Heap.size_push]
 have hDC:s.heap.objs.size≠H2.objs.size:=by rw[hC];exact Nat.ne_of_lt (Nat.lt_succ_self _)
 have hCle:s.heap.objs.size≤H2.objs.size:=by rw[hC];exact Nat.le_succ _
 have below:∀b,b < s.heap.objs.size→b≠H2.objs.size∧b≠s.heap.objs.size:=fun b hb=>⟨by rw[hC];exact Nat.ne_of_lt (Nat.lt_succ_of_lt hb),Nat.ne_of_lt hb⟩
 have old:∀b o,s.heap.get? b=some o→h₁.get? b=some o:=fun b o e=>hsb₁.extBut b o (below b (Heap.lt_size e)).1 (Heap.get?_push_of_some _ (hH2▸Heap.get?_push_of_some _ e))
 have hacc:h₁.get? s.heap.objs.size=some { cls:=.type "list",data:=.seq ([]:List Value).toArray }:=hsb₁.extBut _ _ hDC (Heap.get?_push_of_some _ (hH2▸Heap.get?_push_size _ rfl))
 have fplt:∀b∈fp,b < s.heap.objs.size:=fun b hb=>let ⟨_,e,_⟩:=T.obj 0 _ st b hb;Heap.lt_size e
 have hcells:∀y∈scope.names,y.2=.free→∃c,X.env.cells.lookup y.1=some c:=fun y hy e=>I.ok.has y.1 (.inl (S.free y hy e))
 have sub:∀y c,(closOf X.env.cells scope.names []).lookup y=some c→X.env.cells.lookup y=some c:=closOf_sub hcells (fun y c e=>by cases e)
 let a:CA:=⟨s,H,H2.objs.size,fp⟩
 have ok:(cxComp X scope N' a).Ok:=by
  refine⟨I.ok.mod,S.kind,I.ok.glob,I.ok.blt,hCle,fun y z c e1 e2=>I.ok.inj y z c (sub y c e1) (sub z c e2),fun y hy=>?_,fun y c z=>?_,I.ok.hd,I.ok.frames,.inl rfl,fun b hb=>⟨(below b (fplt b hb)).1,fun y c e=>(f2 b hb).2.2.2.2.1 y c (sub y c e)⟩,I.bs,
   Nat.le_trans I.ok.bsz I.sz,fun b o e hb=>?_,fun b hb z=>?_,I.stack,I.stkFree⟩
  ·exact closOf_has (lookup_relabel_free hy S.cell)
  ·cases z
  ·rcases (f2 b hb).2.2.2.1 with z | z
   ·exact I.ok.noex b o e z
   ·exact absurd (Nat.lt_of_lt_of_le (Heap.lt_size (I.ok.bs b o e).1) z) (Nat.lt_irrefl _)
  ·rcases List.mem_cons.mp (I.stkSub b z) with e | e
   ·exact (f2 b hb).2.1 e
   ·exact (f2 b hb).2.2.1 e
 have look:∀(h':Heap) (m':Str→Option Value),(∀y c,X.env.cells.lookup y=some c→∀v,s.heap.IsCell c v→h'.IsCell c v)→∀(i:Nat) (y:Str) (v:V),N'[i]?=some y→(padS N'.length j σ)[i]?=some (some v)→
   Vis (relabel scope X.env) y→∃u,RelV v u∧Look (compEnvC scope (closOf X.env.cells scope.names []) H2.objs.size X.env) h' m' y u:=by
  intro h' m' kc i y v e1 e2 e3
  obtain⟨ne,e4⟩:=padS_get e2
  have e5:=S.sub i y ne e1
  have hy:(y,NameKind.free)∈scope.names:=by
   rcases e3 with e3 | e3 | e3
   ·rcases S.only _ (lookup_relabel_loc e3) rfl with z | z
    ·exact absurd (nodup_ix S.nd e1 (by rw[S.at_];exact congrArg some z.symm)) ne
    ·exact absurd (List.mem_of_getElem? e1) z
   ·exact lookup_relabel_free (.inl e3) S.cell
   ·exact lookup_relabel_free (.inr e3) S.cell
  have kcell:X.env.scope.names.lookup y=some .cell:=S.free _ hy rfl
  obtain⟨m0,hn0,hl0⟩:=I.loc
  obtain⟨u,r,l⟩:=hl0 i y v e5 e4 (.inr (.inl kcell))
  refine⟨u,r,.inr ⟨?_,?_⟩⟩
  ·rcases e3 with e3 | e3 | e3
   ·rcases S.only _ (lookup_relabel_loc e3) rfl with z | z
    ·exact absurd (nodup_ix S.nd e1 (by rw[S.at_];exact congrArg some z.symm)) ne
    ·exact absurd (List.mem_of_getElem? e1) z
   ·exact .inl e3
   ·exact .inr e3
  ·rcases l with ⟨k,_⟩ | ⟨k,c,e,z⟩
   ·have k':X.env.scope.names.lookup y=some .local:=k
    rw[kcell] at k';cases k'
   ·obtain⟨c',e'⟩:=closOf_has (cells:=X.env.cells) (cs:=[]) hy
    have e'':=sub y c' e'
    rw[e] at e''
    cases e''
    exact⟨c,e',kc y c e _ z⟩
 have cellOld:∀y c,X.env.cells.lookup y=some c→∀v,s.heap.IsCell c v→h₁.IsCell c v:=fun y c _ v zz232=>el2 zz232 fun o ho hd=>⟨o,old c o ho,hd⟩
 have fr0:∀b,s.heap.objs.size≤b→H b=none:=fun b hb=>I.hok.fresh hb
 have noPn:∀p,p∉(cxComp X scope N' a).pn++([]:List (Addr×Obj)):=fun p hp=>by simp at hp
 have I0:Inv (cxComp X scope N' a) [] (padS N'.length j σ) H { s with heap:=h₁,toks:=s.toks + ([]:List (Str×Value)).length }:=by
  refine⟨ok,rfl,I.bare,Un.kept old,⟨_,hns₁,look h₁ _ cellOld⟩,fun y c e=>?_,fr0 _ hCle,fun y c e=>I.freeC y c (sub y c e),fun p hp=>absurd hp (noPn p),I.hok.kept old,padS_len (by rw[I.len];exact S.len)⟩
  obtain⟨v,z⟩:=I.cell y c (sub y c e)
  exact⟨v,cellOld y c (sub y c e) v z⟩
 obtain⟨W,⟨m0,w0⟩,turn⟩:=h
 have loop:∀s₃:Shared,s₃={ s with heap:=h₁,toks:=s.toks + ([]:List (Str×Value)).length }→
   codeAny (model X.prog X.w) X.A (.compLoop (.ListComp elt [⟨.Name x px,iter,ifs,0⟩] scope pos) 0 (.ref it) (.ref s.heap.objs.size) (compEnvC scope (closOf X.env.cells scope.names []) H2.objs.size X.env)) (RR (.ref s.heap.objs.size) H2.objs.size) s₃:=by
  rintro s₃ rfl
  refine compLoop_go (fun k s'=>∃(i:Nat) (ys:List V) (its:List Value) (n:Nat) (H':Hp),Inv (cxComp X scope N' a) [] (padS N'.length j σ) H' s'∧s'.heap.get? s.heap.objs.size=some { cls:=.type "list",data:=.seq its.toArray n }∧Vals ys its∧
   H' s.heap.objs.size=none∧tn i s'.heap∧(∀b∈fp,H' b=none)∧W i k ys H') ?_ m0
   ⟨0,[],[],0,H,I0,hacc,.nil,fr0 _ (Nat.le_refl _),T.keep _ _ _ st fun b hb o e=>old b o e,fun b hb=>(f2 b hb).1,w0⟩
  rintro k s' ⟨i,ys,its,n,H',I',hD,rv,nD',st',fr',w'⟩ E'
  obtain⟨hz,hw⟩:=turn i k ys H' w'
  have ownD:Own (cxComp X scope N' a) [] H' s.heap.objs.size:=⟨nD',hDC,Nat.le_refl _,fun y c e z=>by
   obtain⟨v,q⟩:=I.cell y c (sub y c e)
   exact absurd q.lt (by rw[z];exact Nat.lt_irrefl _),fun p hp=>absurd hp (noPn p)⟩
  have fpok:∀(pl:List (Addr×Obj)) (H'':Hp),(∀b∈fp,H'' b=none)→(∀p∈pl,p.1∉fp)→∀b∈fp,FpOk (cxComp X scope N' a) pl H'' b:=fun pl H'' hn hpl b hb=>
   ⟨hn b hb,(below b (fplt b hb)).1,fun z=>by
    rcases List.mem_cons.mp (I.stkSub b z) with e | e
    ·exact (f2 b hb).2.1 e
    ·exact (f2 b hb).2.2.1 e,.inl hb,fun y c e=>(f2 b hb).2.2.2.2.1 y c (sub y c e),fun p hp z=>by
    have hp':p∈pl:=by simpa using hp
    exact hpl p hp' (z▸hb)⟩
  have nDfp:s.heap.objs.size∉fp:=fun z=>absurd (fplt _ z) (Nat.lt_irrefl _)
  have pinD:∀p∈([(s.heap.objs.size,{ cls:=.type "list",data:=.seq its.toArray n })]:List (Addr×Obj)),s'.heap.get? p.1=some p.2∧H' p.1=none∧p.1≠(cxComp X scope N' a).env.locals∧p.1∉(cxComp X scope N' a).fs∧∀v,p.2.data≠.cell v:=fun p hp=>by
   have e:p=(s.heap.objs.size,{ cls:=.type "list",data:=.seq its.toArray n }):=by simpa using hp
   subst e
   refine⟨hD,nD',hDC,fun z=>?_,fun v z=>by cases z⟩
   rcases List.mem_cons.mp (I.stkSub _ z) with e | e
   ·exact absurd I.lt (by rw[←e];exact Nat.lt_irrefl _)
   ·exact I.nofs (Nat.le_refl _) e
  have Ip:=I'.pins_of pinD
  have hpl:∀p∈([(s.heap.objs.size,{ cls:=.type "list",data:=.seq its.toArray n })]:List (Addr×Obj)),p.1∉fp:=fun p hp=>by
   have e:p=(s.heap.objs.size,{ cls:=.type "list",data:=.seq its.toArray n }):=by simpa using hp
   subst e
   exact nDfp
  rcases hw with ⟨stop,q⟩ | ⟨go,N,hN,step⟩
  ·refine thn (T.done (cxComp X scope N' a) rfl rfl rfl hc i _ s' _ H' E' Ip (fpok _ H' fr' hpl) st' stop) fun r s4 zz233=>zz233.elim fun hr I4=>?_
   subst hr
   have hD4:=(I4.pin (s.heap.objs.size,{ cls:=.type "list",data:=.seq its.toArray n }) (by simp)).1
   have J4:Inv X pins σ H' s4:=I.call' (ch:=fp) I4.os I4.base I4.hok I4.bare fun b hb=>⟨(f2 b hb).2.2.2.1,(f2 b hb).2.1,(f2 b hb).2.2.2.2.1,(f2 b hb).2.2.2.2.2⟩
   obtain⟨m4,hn4,_⟩:=I4.loc
   have hC4:H' H2.objs.size=none:=I4.free
   exact hRR _ _ ys H' s4 m4 hn4 (I.own hCle (by rw[upd_ne (Ne.symm hDC)];exact hC4)) (J4.track (I.own (Nat.le_refl _) nD') hD4 rv hz) nD' q
  ·refine thn (T.item (cxComp X scope N' a) rfl rfl rfl hc i _ s' _ H' E' Ip (fpok _ H' fr' hpl) st' go) fun r s5 zz234=>el2 zz234 fun u hr h5=>?_
   subst hr
   refine thn h5 fun _ s6 zz235=>zz235.elim fun xv zz236=>zz236.elim fun H6 zz237=>zz237.elim fun I6 zz238=>zz238.elim fun r6 zz239=>zz239.elim fun y6 zz240=>zz240.elim fun st6 fr6=>?_
   have I6':=I6.pinned (fpok _ H6 fr6 hpl) (T.obj _ _ st6)
   refine wpAny_assign_Name (store_ok I6' S.nd S.at_ (.inl (lookup_relabel_local S.loc)) r6 (fun s7 I7=>?_) (.inr (lookup_relabel_local S.loc)))
   have wk:∀(i:Nat) v,(padS N'.length j σ)[i]?=some (some v)→((padS N'.length j σ).set j (some xv))[i]?=some (some v):=fun i v e=>by
    rw[List.getElem?_set_ne (Ne.symm (padS_get e).1)];exact e
   refine wpAny_mono (ht a _ s7 _ H6 _ I7 (step xv H6 y6 a)) (fun ok s8 zz241=>el2 zz241 fun H8 I8 q8=>?_) fun _ _ z=>z.elim
   have tnk:∀{H9:Hp} {s9:Shared} {σ9:St},Inv (cxComp X scope N' a) ([(s.heap.objs.size,{ cls:=.type "list",data:=.seq its.toArray n })]++pinsAt fp s6.heap) σ9 H9 s9→tn (i + 1) s9.heap∧(∀b∈fp,H9 b=none)∧s9.heap.get? s.heap.objs.size=some { cls:=.type "list",data:=.seq its.toArray n }∧H9 s.heap.objs.size=none:=fun {H9 s9 σ9} I9=>by
    refine⟨T.keep _ _ _ st6 fun b hb o e=>(I9.pin (b,o) (List.mem_append_right _ (List.mem_append_right _ (mem_pinsAt hb e)))).1,fun b hb=>?_,?_⟩
    ·obtain⟨o,e,d⟩:=T.obj _ _ st6 b hb
     exact (I9.pin (b,o) (List.mem_append_right _ (List.mem_append_right _ (mem_pinsAt hb e)))).2.1
    ·have z:=I9.pin (s.heap.objs.size,{ cls:=.type "list",data:=.seq its.toArray n }) (List.mem_append_right _ (List.mem_append_left _ (by simp)))
     exact⟨z.1,z.2.1⟩
   cases ok with
   | false=>
    obtain⟨m',hm,w8⟩:∃m',m' < k∧W (i + 1) m' ys H8:=hN _ _ (by simpa using q8)
    obtain⟨t1,t2,t3,t4⟩:=tnk I8
    exact⟨m',hm,i + 1,ys,its,n,H8,(I8.pins_of (pins':=[]) fun p hp=>nomatch hp).weak (by rw[List.length_set]) wk,t3,rv,t4,t1,t2,w8⟩
   | true=>
    have q8':=q8
    simp only[if_true] at q8'
    refine wpAny_mono (he a _ s8 _ H8 _ I8 q8') (fun u9 s9 zz242=>el5 zz242 fun v9 H9 I9 r9 q9=>?_) fun _ _ z=>z.elim
    obtain⟨m',hm,w9⟩:=hN _ _ q9
    obtain⟨t1,t2,t3,t4⟩:=tnk I9
    have hl:=rv.length
    refine append_at (hsz:=by show its.toArray.size≤sizeLine;rw[List.size_toArray,←hl];exact hz) t3 fun h' hs' hD'=>?_
    have J9:=((I9.pins_of (pins':=[]) fun p hp=>nomatch hp).weak (σ':=padS N'.length j σ) (by rw[List.length_set]) wk).own_turn (C:=s.heap.objs.size) ⟨t4,ownD.ne,ownD.ab,ownD.ce,ownD.pi⟩ hs'
    refine⟨m',hm,i + 1,ys++[v9],its++[u9],n + 1,H9,J9,?_,Vals.append rv (.cons r9 .nil),t4,T.keep _ _ _ t1 fun b hb o e=>(hs'.2 b fun z=>nDfp (z▸hb)).trans e,t2,w9⟩
    rw[List.push_toArray] at hD'
    exact hD'
 exact codeAny_compStart_list (loop _ rfl) (T.self _ 0 _ _ _ (T.keep _ _ _ st fun b hb o e=>old b o e) (loop _ rfl))
theorem pe_comp {elt iter:Expr} {x:Str} {px pos:Pos} {ifs:List Expr} {scope:Scope} {N':List Str} {j:Nat} {wi:TI} {tt:CA→TT} {te:CA→TE} {osc:Scope} {N:List Str}
  (S:CompSc N N' osc scope j x) (hc:X.calm=true) (hi:PI X (.Name x px) iter wi) (ht:∀a:CA,PTs (cxComp X scope N' a) ifs (tt a)) (he:∀a:CA,PE (cxComp X scope N' a) elt (te a))
  (ho:X.env.scope=osc:=by rfl) (hN:X.N=N:=by rfl) (hs:∀x,foldedSetIterable iter X.env x=pure x:=by intro _;rfl):PE X (.ListComp elt [⟨.Name x px,iter,ifs,0⟩] scope pos) (tComp wi N'.length j tt te):=by
 subst ho hN
 intro pins s σ H Q I h
 rw[eval_ListComp]
 have hcells:∀y∈scope.names,y.2=.free→∃c,X.env.cells.lookup y.1=some c:=fun y hy e=>I.ok.has y.1 (.inl (S.free y hy e))
 refine wpAny_comprehension_free (use:=none) rfl hs (closureFor_eq hcells) S.kind S.names (wpAny_mono (hi pins s σ H _ I h) (fun xv s₁ h₁=>wpAny_mono h₁ (fun itv s₂ h₂=>?_) fun _ _ e=>e) fun _ _ e=>e)
 obtain⟨it,fp,tn,J,H2,rfl,I2,T,st2,f2,q2⟩:=h₂
 refine comp_core (RR:=fun acc C=>compPost (model X.prog X.w) X.A X.xe none (EP X pins σ Q) acc C) S hc ht he I2 T st2 f2 q2 ?_
 intro D C ys H' s' m hn own I' hD q
 refine⟨m,hn,fun h' hs'=>⟨.ref D,_,I'.own_turn own hs',rfl,q D hD⟩⟩
theorem ps_setC {elt iter:Expr} {x y:Str} {px pos py spos:Pos} {ifs:List Expr} {scope:Scope} {N':List Str} {j i:Nat} {wi:TI} {tt:CA→TT} {te:CA→TE} {osc:Scope} {N:List Str}
  (nd:X.N.Nodup) (hi':X.N[i]?=some y) (hy:Loc X.env.scope y)
  (S:CompSc N N' osc scope j x) (hc:X.calm=true) (hi:PI X (.Name x px) iter wi) (ht:∀a:CA,PTs (cxComp X scope N' a) ifs (tt a)) (he:∀a:CA,PE (cxComp X scope N' a) elt (te a))
  (hsw:swapsWith (.ListComp elt [⟨.Name x px,iter,ifs,0⟩] scope pos) (some (.Name y py)) spos.line X.env=pure true:=by rfl)
  (hf:X.fn y=true∨X.env.scope.names.lookup y=some .local:=by first | exact .inl rfl | exact .inr rfl | assumption)
  (ho:X.env.scope=osc:=by rfl) (hN:X.N=N:=by rfl) (hs:∀x,foldedSetIterable iter X.env x=pure x:=by intro _;rfl) :
  PS X (.Assign [.Name y py] (.ListComp elt [⟨.Name x px,iter,ifs,0⟩] scope pos) spos) (fun D σ H=>tComp wi N'.length j tt te σ H fun v H1=>D.nx (σ.set i (some v)) H1):=by
 subst ho hN
 intro pins s σ H D I h
 have hcells:∀y∈scope.names,y.2=.free→∃c,X.env.cells.lookup y.1=some c:=fun y hy e=>I.ok.has y.1 (.inl (S.free y hy e))
 rw[exec_Assign_Name_used _ _ _ _ hsw]
 refine wpAny_bind (wpAny_standAt (wpAny_bind ?_))
 show wpAny _ X.A (do let _ ←comprehension (.ListComp elt [⟨.Name x px,iter,ifs,0⟩] scope pos) scope X.env _ (newList []) false (eval iter X.env) (some (assign (.Name y py) X.env))) _ _ s
 refine wpAny_bind (wpAny_mono (wpAny_comprehension_free (use:=some (assign (.Name y py) X.env)) (Q:=fun _ s'=>SP X pins D .next s') rfl hs (closureFor_eq hcells) S.kind S.names
  (wpAny_mono (hi pins s σ H _ I h) (fun xv s₁ h₁=>wpAny_mono h₁ (fun itv s₂ h₂=>?_) fun _ _ e=>e) fun _ _ e=>e)) (fun _ s' hq=>wpAny_pure (wpAny_pure hq)) fun _ _ e=>e)
 obtain⟨it,fp,tn,J,H2,rfl,I2,T,st2,f2,q2⟩:=h₂
 refine comp_core (RR:=fun acc C=>compPost (model X.prog X.w) X.A X.xe (some (assign (.Name y py) X.env)) (fun _ s'=>SP X pins D .next s') acc C) S hc ht he I2 T st2 f2 q2 ?_
 intro Da C ys H' s' m hn own I' hD q
 show wpAny _ X.A (assign (.Name y py) X.env (.ref Da)) _ _ _
 refine wpAny_assign_Name (store_ok2 (v:=V.ref Da) I' nd hi' hy rfl (fun s2 I2' hsb=>?_) hf)
 obtain⟨b,hs2,hb⟩:=hsb
 have hCb:C≠b:=by
  rcases hb with rfl | hb
  ·exact own.ne
  ·exact fun z=>own.ce _ _ hb z.symm
 refine⟨m,hn.sameBut hs2 hCb,fun h' hs'=>⟨_,_,I2'.own_turn own hs',q Da hD⟩⟩
end
theorem comp_range {lo:Int} {n nn j:Nat} {σ:St} {tt:CA→TT} {te:CA→TE} {H1:Hp} {Q:List V→Hp→Prop} (Pv:Nat→List V→Hp→Prop) (hz:n < sizeLine) (h0:Pv 0 [] H1) (hl:∀i ys H,i≤n→Pv i ys H→ys.length≤i)
  (hs:∀i ys H,i < n→Pv i ys H→∀a:CA,tt a ((padS nn j σ).set j (some (.int (lo + i)))) H fun b H2=>if b=true then te a ((padS nn j σ).set j (some (.int (lo + i)))) H2 fun y H3=>Pv (i + 1) (ys++[y]) H3 else Pv (i + 1) ys H2)
  (hd:∀ys H,Pv n ys H→Q ys H):RComp σ nn j tt te (Itr lo n) H1 Q:=by
 refine⟨fun i m ys H=>m=n - i∧i≤n∧Pv i ys H,⟨n,by simp,Nat.zero_le _,h0⟩,?_⟩
 rintro i m ys H ⟨rfl,hi,p⟩
 have hy:=hl i ys H hi p
 refine⟨by lia,?_⟩
 by_cases hlt:i < n
 ·refine .inr ⟨hlt,Pv (i + 1),fun ys' H' p'=>⟨n - (i + 1),by lia,rfl,hlt,p'⟩,fun x H' y=>?_⟩
  obtain⟨e,e2⟩:=y
  subst e e2
  exact hs i ys _ hlt p
 ·have e:i=n:=by lia
  subst e
  exact .inl ⟨Nat.le_refl _,hd ys H p⟩
theorem comp_list {K:PySem.W.Frag} {a0:Addr} {xs:List V} {nn j:Nat} {σ:St} {tt:CA→TT} {te:CA→TE} {H1:Hp} {Q:List V→Hp→Prop} (Pv:Nat→List V→Hp→Prop) (hz:xs.length < sizeLine) (h0:Pv 0 [] H1)
  (hl:∀i ys H,i≤xs.length→Pv i ys H→ys.length≤i∧SqL K H a0 xs)
  (hs:∀i x ys H,xs[i]?=some x→Pv i ys H→∀a:CA,tt a ((padS nn j σ).set j (some x)) H fun b H2=>if b=true then te a ((padS nn j σ).set j (some x)) H2 fun y H3=>Pv (i + 1) (ys++[y]) H3 else Pv (i + 1) ys H2)
  (hd:∀ys H,Pv xs.length ys H→Q ys H):RComp σ nn j tt te (Itl K a0) H1 Q:=by
 refine⟨fun i m ys H=>m=xs.length - i∧i≤xs.length∧Pv i ys H,⟨xs.length,by simp,Nat.zero_le _,h0⟩,?_⟩
 rintro i m ys H ⟨rfl,hi,p⟩
 obtain⟨hy,q⟩:=hl i ys H hi p
 refine⟨by lia,?_⟩
 by_cases hlt:i < xs.length
 ·refine .inr ⟨⟨xs,xs[i],q,by simp [hlt]⟩,Pv (i + 1),fun ys' H' p'=>⟨xs.length - (i + 1),by lia,rfl,hlt,p'⟩,fun x H' y=>?_⟩
  obtain⟨e,y⟩:=y
  subst e
  exact hs i x ys _ (y xs q) p
 ·have e:i=xs.length:=by lia
  subst e
  exact .inl ⟨⟨xs,q,Nat.le_refl _⟩,hd ys H p⟩
section
variable {X:Cx}
def CDivB (_ j:Int):Prop:=0 < j∧j < 100000000000000000000000000000000000000000000000000000000000000
theorem op_fdivB:OpR X (binaryOp .FloorDiv) (rI CDivB fun i j=>.int (i / j)):=opI fun i j _ _ _ _ _ hc q=>by
 have h1:(0:Int) < j:=hc.1
 have h2:j < 2 ^ 250:=Int.lt_trans hc.2 (by decide)
 refine floordiv_int (by lia) (by rw[Int.fdiv_eq_ediv_of_nonneg i (by lia)];exact q) (.inl (PyProof.noPylong_of_log2 ?_))
 have h3:j.natAbs < 2 ^ 250:=by
  have:((j.natAbs:Nat):Int) < ((2 ^ 250:Nat):Int):=by
   rw[Int.natAbs_of_nonneg (Int.le_of_lt h1)]
   exact h2
  exact Int.ofNat_lt.mp this
 have h4:j.natAbs≠0:=by lia
 exact Nat.lt_trans ((Nat.log2_lt h4).mpr h3) (by decide)
theorem vals_bools:∀{bs:List Bool} {us:List Value},Vals (bs.map V.bl) us→LSm.BoolsAre us bs
 | [],_,.nil=>.nil
 | b::bs,_,.cons r t=>by
  cases (show _=Value.bool b from r)
  exact .cons b (vals_bools t)
theorem call_all (hc:X.calm=true):CallR X (.builtin "all") (fun xs H Q=>∃(p:Addr) (bs:List Bool),xs=[.ref p]∧SqL X.K H p (bs.map V.bl)∧Q (.bl (bs.all id)) H):=by
 intro pins s σ H xs us Q I r h
 obtain⟨p,bs,rfl,hq,q⟩:=h
 obtain⟨u,rfl,rx⟩:=vals1 r
 cases rx
 obtain⟨its,rv,pl,hz⟩:=I.list hq
 have hb:=vals_bools rv
 have hl:=pl.isList
 have hlt:p < s.heap.objs.size:=by obtain⟨_,e,_⟩:=hl;exact Heap.lt_size e
 refine call_all_walk (wpAny_pyIter_list hl ?_)
 refine⟨s.heap.objs.size,[s.heap.objs.size,p],[s.heap.objs.size],its.toArray.size,_,_,fun i=>(bs[i]?).getD true,rfl,Walks.list (A:=X.A.in1) (I.ok.hd hc) _ p (Nat.ne_of_lt hlt) its.toArray,
  ⟨⟨_,Heap.get?_push_size _ rfl,rfl,rfl⟩,hl.push _⟩,fun i v s' Q' E' hP hQ=>?_,fun h' tk hk=>?_⟩
 ·obtain⟨b,e,rfl⟩:=hb.get i v (by simpa using hP)
  simp only[e,Option.getD_some] at hQ
  exact wpAny_truthy_bool hQ
 ·have e:((List.range its.toArray.size).all fun i=>(bs[i]?).getD true)=bs.all id:=by
   rw[List.size_toArray,hb.length];exact LSm.range_all bs
  rw[e]
  exact⟨.bl _,H,I.kept (t':=tk) (LSm.kept_iter hk),rfl,q⟩
theorem call_isinst:CallR X (.builtin "isinstance") (fun xs H Q=>∃x cv c t b,xs=[x,cv]∧RelV cv c∧TyOf X.K H x t∧PySem.W.kitOne X.K t c=some b∧Q (.bl b) H):=by
 intro pins s σ H xs us Q I r h
 obtain⟨x,cv,c,t,b,rfl,rc,ty,k,q⟩:=h
 obtain⟨u,w',rfl,r1,r2⟩:=vals2 r
 have e:w'=c:=by
  cases cv with
  | non=>exact r2.trans rc.symm
  | bl y=>exact r2.trans rc.symm
  | ref y=>exact r2.trans rc.symm
  | ty y=>exact r2.trans rc.symm
  | int y=>
   obtain⟨t1,rfl⟩:=rc
   exfalso
   unfold PySem.W.kitOne PySem.W.kitCls at k
   cases ty <;> simp at k
  | str y=>
   obtain⟨t1,rfl⟩:=rc
   exfalso
   unfold PySem.W.kitOne PySem.W.kitCls at k
   cases ty <;> simp at k
  | byt y=>
   obtain⟨t1,rfl⟩:=rc
   exfalso
   unfold PySem.W.kitOne PySem.W.kitCls at k
   cases ty <;> simp at k
  | flt y=>
   obtain⟨t1,rfl⟩:=rc
   exfalso
   unfold PySem.W.kitOne PySem.W.kitCls at k
   cases ty <;> simp at k
 subst e
 exact isinst_ok I r1 ty k fun tk=>⟨.bl b,H,I.tok tk,rfl,q⟩
end
mutual
inductive DatV (K:PySem.W.Frag) (H:Hp):V→PyData→Prop
 | non:DatV K H .non .none
 | bl (b):DatV K H (.bl b) (.bool b)
 | int (i):DatV K H (.int i) (.int i)
 | str (x):DatV K H (.str x) (.str x)
 | lst {a xs ds}:SqL K H a xs→DatVs K H xs ds→DatV K H (.ref a) (.list ds)
 | tup {a xs ds}:SqT K H a xs→DatVs K H xs ds→DatV K H (.ref a) (.tuple ds)
inductive DatVs (K:PySem.W.Frag) (H:Hp):List V→List PyData→Prop
 | nil:DatVs K H [] []
 | cons {x xs d ds}:DatV K H x d→DatVs K H xs ds→DatVs K H (x::xs) (d::ds)
end
section
variable {X:Cx} {pins:List (Addr×Obj)} {σ:St} {H:Hp} {s:Shared}
mutual
theorem DatV.reads (I:Inv X pins σ H s):∀{x:V} {d:PyData} {u:Value},DatV X.K H x d→RelV x u→∃as,Reads s.heap u d as
 | _,_,_,.non,r=>by cases r;exact⟨_,.none⟩
 | _,_,_,.bl b,r=>by cases r;exact⟨_,.bool b⟩
 | _,_,_,.int i,r=>by obtain⟨t,rfl⟩:=r;exact⟨_,.int i t⟩
 | _,_,_,.str x,r=>by obtain⟨t,rfl⟩:=r;exact⟨_,.str x t⟩
 | _,_,_,.lst hq hs,r=>by
  cases r
  obtain⟨its,rv,pl,hz⟩:=I.list hq
  obtain⟨as,ra⟩:=DatVs.reads I hs rv
  obtain⟨o,e,c,n,d⟩:=pl.isList
  exact⟨_,.list e c d (by simpa using ra)⟩
 | _,_,_,.tup hq hs,r=>by
  cases r
  obtain⟨its,rv,pl,hz⟩:=I.tuple hq
  obtain⟨as,ra⟩:=DatVs.reads I hs rv
  obtain⟨o,e,c,n,d⟩:=pl
  exact⟨_,.tuple e c d (by simpa using ra)⟩
theorem DatVs.reads (I:Inv X pins σ H s):∀{xs:List V} {ds:List PyData} {us:List Value},DatVs X.K H xs ds→Vals xs us→∃as,ReadsAll s.heap us ds as
 | _,_,_,.nil,.nil=>⟨_,.nil⟩
 | _,_,_,.cons h t,.cons r rs=>by
  obtain⟨as,ra⟩:=DatV.reads I h r
  obtain⟨bs,rb⟩:=DatVs.reads I t rs
  exact⟨_,.cons ra rb⟩
end
end
section
variable {X:Cx}
def rEqD (K:PySem.W.Frag) (neg:Bool):R2:=fun x y H Q=>∃da db,DatV K H x da∧DatV K H y db∧da.canLay0=true∧db.canLay0=true∧min da.depth db.depth≤64∧Q (.bl (if neg then !PyData.eqv da db else PyData.eqv da db)) H
theorem op_eqD (hu:X.A.units + 64 < cLine):OpR X (compareOp .Eq) (rEqD X.K false):=by
 intro pins s σ H x y v u Q I rx ry h
 obtain⟨da,db,d1,d2,c1,c2,hd,q⟩:=h
 obtain⟨as,ra⟩:=d1.reads I rx
 obtain⟨bs,rb⟩:=d2.reads I ry
 exact SeqAt.compareEq_reads ra rb c1 c2 (by lia) ⟨.bl _,H,I,rfl,q⟩
theorem op_neD (hu:X.A.units + 64 < cLine):OpR X (compareOp .NotEq) (rEqD X.K true):=by
 intro pins s σ H x y v u Q I rx ry h
 obtain⟨da,db,d1,d2,c1,c2,hd,q⟩:=h
 obtain⟨as,ra⟩:=d1.reads I rx
 obtain⟨bs,rb⟩:=d2.reads I ry
 exact SeqAt.compareNe_reads ra rb c1 c2 (by lia) ⟨.bl _,H,I,rfl,q⟩
theorem get_list:PGet X (fun o i H Q=>∃p xs j v,o=.ref p∧i=.int j∧0≤j∧SqL X.K H p xs∧atI xs j=some v∧Q v H):=by
 intro pins s σ H o i ov iv Q I r1 r2 h
 obtain⟨p,xs,j,v,rfl,rfl,h0,hq,he,q⟩:=h
 cases r1
 obtain⟨t,rfl⟩:=r2
 obtain⟨its,r,pl,hz⟩:=I.list hq
 obtain⟨k,h1,h2,h3,h4,h5⟩:=atI_get he
 obtain⟨w,ew,rw'⟩:=r.get h2
 have hl:=r.length
 have hn:=line63
 have hj:j.toNat=k:=by
  rw[seqIndex_of h0 h5] at h1
  exact Option.some.inj h1
 exact wpAny_getItem_list pl.isList h0 (by lia) (by rw[hj];simpa using ew) ⟨v,H,I,rw',q⟩
theorem ps_mid {st:Stmt} {t:TS} (h:PS X st t):PS X st (fun D σ H=>∃M:St→Hp→Prop,t { D with nx:=M } σ H∧∀σ' H',M σ' H'→D.nx σ' H'):=by
 intro pins s σ H D I q
 obtain⟨M,q1,q2⟩:=q
 refine thn (h pins s σ H _ I q1) fun f s' z=>?_
 cases f with
 | next=>obtain⟨σ',H',I',m⟩:=z;exact⟨σ',H',I',q2 _ _ m⟩
 | brk=>exact z
 | cont=>exact z
 | ret v=>exact z
end
theorem bt_list:bootBuiltins "list" = some (.type "list"):=by decide +kernel
theorem bt_abs:bootBuiltins "abs" = some (.builtin "abs"):=by decide +kernel
theorem bt_min:bootBuiltins "min" = some (.builtin "min"):=by decide +kernel
theorem bt_max:bootBuiltins "max" = some (.builtin "max"):=by decide +kernel
theorem bt_isinstance:bootBuiltins "isinstance" = some (.builtin "isinstance"):=by decide +kernel
theorem bt_int:bootBuiltins "int" = some (.type "int"):=by decide +kernel
theorem bt_bool:bootBuiltins "bool" = some (.type "bool"):=by decide +kernel
theorem bt_all:bootBuiltins "all" = some (.builtin "all"):=by decide +kernel
theorem bt_tuple:bootBuiltins "tuple" = some (.type "tuple"):=by decide +kernel
theorem bt_sorted:bootBuiltins "sorted" = some (.builtin "sorted"):=by decide +kernel
theorem bt_len:bootBuiltins "len" = some (.builtin "len"):=by decide +kernel
theorem bt_dict:bootBuiltins "dict" = some (.type "dict"):=by decide +kernel
theorem bt_enumerate:bootBuiltins "enumerate" = some (.type "enumerate"):=by decide +kernel
section
variable {es:List Expr} {env:Env}
theorem se_Constant {c j p}:starEach (.Constant c j p::es) env=(false,eval (.Constant c j p) env)::starEach es env:=by rfl
theorem se_Name {c p}:starEach (.Name c p::es) env=(false,eval (.Name c p) env)::starEach es env:=by rfl
theorem se_BinOp {a o b p}:starEach (.BinOp a o b p::es) env=(false,eval (.BinOp a o b p) env)::starEach es env:=by rfl
theorem se_UnaryOp {o b p}:starEach (.UnaryOp o b p::es) env=(false,eval (.UnaryOp o b p) env)::starEach es env:=by rfl
theorem se_Compare {a o b p}:starEach (.Compare a o b p::es) env=(false,eval (.Compare a o b p) env)::starEach es env:=by rfl
theorem se_Call {a o b p}:starEach (.Call a o b p::es) env=(false,eval (.Call a o b p) env)::starEach es env:=by rfl
theorem se_Subscript {a o p}:starEach (.Subscript a o p::es) env=(false,eval (.Subscript a o p) env)::starEach es env:=by rfl
theorem se_Attribute {a o p}:starEach (.Attribute a o p::es) env=(false,eval (.Attribute a o p) env)::starEach es env:=by rfl
theorem se_List {a p}:starEach (.List a p::es) env=(false,eval (.List a p) env)::starEach es env:=by rfl
theorem se_Tuple {a k p}:starEach (.Tuple a k p::es) env=(false,eval (.Tuple a k p) env)::starEach es env:=by rfl
theorem se_Dict {a k p}:starEach (.Dict a k p::es) env=(false,eval (.Dict a k p) env)::starEach es env:=by rfl
theorem se_ListComp {a b c p}:starEach (.ListComp a b c p::es) env=(false,eval (.ListComp a b c p) env)::starEach es env:=by rfl
theorem np_nil {pos:Pos}:(backTo pos (starEach [] env)).any (·.1)=false:=by rfl
theorem np_cons {pos:Pos} {e:Expr} (hs:starEach (e::es) env=(false,eval e env)::starEach es env) (h:(backTo pos (starEach es env)).any (·.1)=false):(backTo pos (starEach (e::es) env)).any (·.1)=false:=by
 rw[hs]
 exact h
end
section
variable {X:Cx} {pos:Pos}
end
section
variable {X:Cx}
end
section
variable {X:Cx} {pins:List (Addr×Obj)} {σ:St} {H:Hp} {s:Shared} {h':Heap}
theorem Inv.turned2 {t':Nat} {e it:Addr} (I:Inv X pins σ H s) (k:∀b o,b≠e→b≠it→s.heap.get? b=some o→h'.get? b=some o) (fe:FpOk X pins H e) (fi:FpOk X pins H it):Inv X pins σ H { s with heap:=h',toks:=t' }:=by
 obtain⟨e0,e1,e2,e3,e4,e5⟩:=fe
 obtain⟨f0,f1,f2,f3,f4,f5⟩:=fi
 have nit:∀b u,H b=some u→b≠it:=fun b u e z=>by rw[z,f0] at e;cases e
 have nie:∀b u,H b=some u→b≠e:=fun b u q z=>by rw[z,e0] at q;cases q
 have kc:∀b o,b∉[e,it]→s.heap.get? b=some o→h'.get? b=some o:=fun b o hc q=>k b o (fun z=>hc (by simp [z])) (fun z=>hc (by simp [z])) q
 refine I.step (g':=s.gens) (d':=s.drawn) (ch:=[e,it]) (fun b hb=>?_) (fun b o _ _ hc e _=>kc b o hc e) (fun b o _ _ hc e _=>⟨o.slots,kc b o hc e⟩) (fun _ _ _ _ n=>n)
  (fun b o hc e=>⟨o,kc b o hc e⟩) (fun _ _ e=>e) (fun _ _ _ e=>e) (fun b ps e=>⟨#[],by rw[e];simp⟩) (fun m hm=>?_) (fun b u q=>?_) I.bare
 ·rcases List.mem_cons.mp hb with z | z
  ·subst z;exact⟨e3,e1,e4,e5⟩
  ·have z':b=it:=by simpa using z
   subst z'
   exact⟨f3,f1,f4,f5⟩
 ·obtain⟨o,es,ep,ho,r⟩:=hm
  exact⟨o,es,ep,k _ o (Ne.symm e1) (Ne.symm f1) ho,r⟩
 ·refine (I.hok b u q).stay (fun c v hc z=>k c v ?_ ?_ z) (fun _ z=>z) fun _ _ z=>z
  ·rcases hc with z | z
   ·rw[z];exact nie b u q
   ·exact nie c _ z
  ·rcases hc with z | z
   ·rw[z];exact nit b u q
   ·exact nit c _ z
end
def Ite (K:PySem.W.Frag) (a:Addr):It:=
 ⟨fun i H=>∃xs x,SqL K H a xs∧xs[i]?=some x,fun i H x H'=>∃p v,x=.ref p∧H p=none∧H'=upd H p (.tup [.int ((i:Nat):Int),v])∧∀xs,SqL K H a xs→xs[i]?=some v,fun i H=>∃xs,SqL K H a xs∧xs.length≤i⟩
theorem turn_enum {P:Program} {w:World} {K:PySem.W.Frag} {elts:List Expr} {x1} {tpos:Pos} (a e it:Addr) (hne:e≠it):Turn P w K (.Tuple elts x1 tpos) (Ite K a) [e,it] e (fun i h=>(∃old,IsEnum h e it ((i:Nat):Int) old)∧h.IsListIter it a i) where
 mem:=by simp
 obj:=fun i h st b hb=>by
  obtain⟨⟨old,h1⟩,h2⟩:=st
  rcases List.mem_cons.mp hb with z | z
  ·subst z
   exact⟨_,h1,fun v z=>by
    have z':Data.fields _=Data.cell v:=z
    cases z'⟩
  ·have z':b=it:=by simpa using z
   subst z'
   obtain⟨o,e,c,d⟩:=h2
   exact⟨o,e,fun v z=>by rw[d] at z;cases z⟩
 keep:=fun i h h' st k=>by
  obtain⟨⟨old,h1⟩,h2⟩:=st
  exact⟨⟨old,k e (by simp) _ h1⟩,h2.at fun o q=>k it (by simp) o q⟩
 item:=by
  intro X hP hw hK hc i pins s σ H E I hf st hg
  subst hP hw hK
  obtain⟨⟨old,st1⟩,st2⟩:=st
  obtain⟨xs,x,hq,hx⟩:=hg
  obtain⟨its,rv,p,hz⟩:=I.list hq
  obtain⟨u,hu,ru⟩:=rv.get hx
  have fe:=hf e (by simp)
  have fi:=hf it (by simp)
  have le:e < s.heap.objs.size:=Heap.lt_size st1
  have li:it < s.heap.objs.size:=by obtain⟨_,q,_⟩:=id st2;exact Heap.lt_size q
  refine wpAny_pyNext_enum_item st1 st2 p.isList (x:=u) (by simpa using hu) hne fun h' ho hit' hT hsz hk=>?_
  refine⟨_,rfl,wpAny_letOwnedTupleGo_enum ho fun h2 he2 hs2=>?_⟩
  replace hs2:Heap.SameBut e h' h2:=hs2
  have hn:H s.heap.objs.size=none:=I.hok.fresh (Nat.le_refl _)
  have I1:Inv X pins σ (upd H s.heap.objs.size (.tup [.int ((i:Nat):Int),x])) { s with heap:=s.heap.push { cls:=.type "tuple",data:=.seq #[.int i s.toks,u] },toks:=s.toks }:=
   I.laid (fun b o q=>Heap.get?_push_of_some _ q) (Nat.le_refl _) ⟨by show 2≤sizeLine;decide,[.int i s.toks,u],.cons ⟨_,rfl⟩ (.cons ru .nil),⟨_,Heap.get?_push_size _ rfl,rfl,_,rfl⟩⟩
  have ge:∀b,b < s.heap.objs.size→FpOk X pins H b→FpOk X pins (upd H s.heap.objs.size (.tup [.int ((i:Nat):Int),x])) b:=fun b hb f=>⟨by rw[upd_ne (Nat.ne_of_lt hb)];exact f.1,f.2⟩
  have I2:=I1.turned2 (h':=h2) (t':=s.toks + 1) (e:=e) (it:=it) (fun b o n1 n2 q=>by
   rw[hs2.2 b n1]
   rcases Heap.get?_push_cases q with ⟨z,z2⟩ | q
   ·subst z z2
    exact hT
   ·exact hk b o n1 n2 q) (ge e le fe) (ge it li fi)
  refine⟨.ref s.heap.objs.size,_,I2,rfl,⟨_,x,rfl,hn,rfl,fun ys hy=>by rw[I.list_inj hy hq];exact hx⟩,⟨⟨u,he2⟩,hit'.at fun o q=>(hs2.2 it hne.symm).trans q⟩,fun b hb=>?_⟩
  rcases List.mem_cons.mp hb with z | z
  ·subst z;exact (ge b le fe).1
  ·have z':b=it:=by simpa using z
   subst z'
   exact (ge b li fi).1
 done:=by
  intro X hP hw hK hc i pins s σ H E I hf st hg
  subst hP hw hK
  obtain⟨⟨old,st1⟩,st2⟩:=st
  obtain⟨xs,hq,hx⟩:=hg
  obtain⟨its,rv,p,hz⟩:=I.list hq
  have hl:=rv.length
  exact wpAny_pyNext_enum_end (I.ok.hd hc) st1 st2 p.isList (by simp;lia) fun h' eb=>⟨rfl,I.turned2 (t':=s.toks) (fun b o n1 n2 q=>eb b o n2 q) (hf e (by simp)) (hf it (by simp))⟩
 self:=fun _ _ _ _ _ st h=>by
  obtain⟨⟨old,st1⟩,_⟩:=st
  exact wpAny_pyIter_enum st1 h
section
variable {X:Cx}
def iEnum (K:PySem.W.Frag) (ta:TA):TI:=fun σ H R=>ta σ H fun vs H1=>∃a,vs=[.ref a]∧(∃xs,SqL K H1 a xs)∧R (Ite K a) H1
theorem pi_enum {elts:List Expr} {x1} {tpos:Pos} {a:Expr} {ta:TA} {p pos:Pos} (hg:Gl X "enumerate") (hm:X.mg "enumerate" = none) (ha:PA X [a] ta) (hs:starEach [a] X.env=[(false,eval a X.env)]:=by rfl):PI X (.Tuple elts x1 tpos) (.Call (.Name "enumerate" p) [a] [] pos) (iEnum X.K ta):=by
 intro pins s σ H R I h
 refine Call_ (ld_blt I hg hm bt_enumerate (PyProof.Rows.callWith_type1 (thn (ha pos pins s σ H _ I h) fun us s1 zz244=>el5 zz244 fun vs H1 I1 r1 q1=>?_) hs rfl))
 obtain⟨a',e,⟨xs,hq⟩,q⟩:=q1
 subst e
 obtain⟨u,rfl,rx⟩:=vals1 r1
 cases rx
 obtain⟨its,rv,pl,hz⟩:=I1.list hq
 refine call_enumerate_list pl.isList fun h' he hit hsz hk=>?_
 refine wpAny_pyIter_enum (s:={ s1 with heap:=h' }) he ?_
 have I2:Inv X pins σ H1 { s1 with heap:=h' }:=I1.kept (t':=s1.toks) hk
 refine⟨_,[s1.heap.objs.size + 1,s1.heap.objs.size],_,_,H1,rfl,I2,turn_enum a' _ _ (Nat.ne_of_gt (Nat.lt_succ_self _)),⟨⟨.none,he⟩,hit⟩,fun b hb=>?_,q⟩
 rcases List.mem_cons.mp hb with z | z
 ·subst z;exact I1.fpOk (Nat.le_succ _) (I1.hok.fresh (Nat.le_succ _))
 ·have z':b=s1.heap.objs.size:=by simpa using z
  subst z'
  exact I1.fpOk (Nat.le_refl _) (I1.hok.fresh (Nat.le_refl _))
theorem ps_no {st:Stmt}:PS X st (fun _ _ _=>False):=fun _ _ _ _ _ _ h=>h.elim
end
section
variable {X:Cx} {pins:List (Addr×Obj)} {σ:St} {H:Hp} {s:Shared}
end
section
variable {X:Cx}
def rIndex (K:PySem.W.Frag):V→List V→Hp→VK→Prop:=fun x vs H Q=>∃(l:Addr) (ns:List Int) (k:Int),x=.ref l∧vs=[.int k]∧SqL K H l (ns.map V.int)∧k∈ns∧ns.length≤100000∧Q (.int (ns.idxOf k:Nat)) H
theorem mt_index:MtM X "list.index" (rIndex X.K):=by
 intro pins s σ H x vs v us Q I rx rv h
 obtain⟨l,ns,k,rfl,rfl,hq,hk,hn,q⟩:=h
 cases rx
 obtain⟨u,rfl,t,rfl⟩:=vals1 rv
 obtain⟨its,r,pl,hz⟩:=I.list hq
 have hi:=intsAre_of r
 obtain⟨⟨cls,dd,data,sl⟩,ho,hc,n,hd⟩:=pl.isList
 simp only at hc hd
 subst hc hd
 have hlen:=hi.length
 have hj:ns.idxOf k < ns.length:=List.idxOf_lt_length_iff.mpr hk
 refine call_meets PySem.F.slot_list_index ⟨_,ho,rfl⟩ PySem.F.entry_list_index (PySem.F.args_list_index_2 _ _)
  (SeqAt.list_indexAt l its.toArray n dd sl (.int k t) (isInt k) (ns.idxOf k) (by simpa [hlen] using hj) (by lia) ?_ ?_) ⟨ho,fun y hy=>(eq_isInt k t hi y (by simpa using hy)).at _ _,⟨.int _,H,I.tok _,⟨_,rfl⟩,q⟩⟩
 ·show isInt k its[ns.idxOf k]=true
  rw[isInt_at k hi _ (by lia) hj]
  simpa using List.getElem_idxOf hj
 ·intro j hjs hlt
  show isInt k its[j]=false
  rw[isInt_at k hi j (by simpa using hjs) (by lia)]
  exact ne_of_lt_idxOf hlt _
end
inductive TyOf2 (K:PySem.W.Frag) (H:Hp):V→Value→Prop where
 | o {x:V} {t:Value}:TyOf K H x t→TyOf2 K H x t
 | f {a:Addr} {o:Obj} {kvs:List (List Key×V)}:H a=some (.frz o (.dT kvs))→TyOf2 K H (.ref a) (.type "dict")
section
variable {X:Cx}
theorem call_isinst2:CallR X (.builtin "isinstance") (fun xs H Q=>∃x cv c t b,xs=[x,cv]∧RelV cv c∧TyOf2 X.K H x t∧PySem.W.kitOne X.K t c=some b∧Q (.bl b) H):=by
 intro pins s σ H xs us Q I r h
 obtain⟨x,cv,c,t,b,rfl,rc,ty,k,q⟩:=h
 obtain⟨u,w',rfl,r1,r2⟩:=vals2 r
 have e:w'=c:=by
  cases cv with
  | non=>exact r2.trans rc.symm
  | bl y=>exact r2.trans rc.symm
  | ref y=>exact r2.trans rc.symm
  | ty y=>exact r2.trans rc.symm
  | int y=>
   obtain⟨t1,rfl⟩:=rc
   exfalso
   unfold PySem.W.kitOne PySem.W.kitCls at k
   cases ty with
   | o ty=>cases ty <;> simp at k
   | f e=>simp at k
  | str y=>
   obtain⟨t1,rfl⟩:=rc
   exfalso
   unfold PySem.W.kitOne PySem.W.kitCls at k
   cases ty with
   | o ty=>cases ty <;> simp at k
   | f e=>simp at k
  | byt y=>
   obtain⟨t1,rfl⟩:=rc
   exfalso
   unfold PySem.W.kitOne PySem.W.kitCls at k
   cases ty with
   | o ty=>cases ty <;> simp at k
   | f e=>simp at k
  | flt y=>
   obtain⟨t1,rfl⟩:=rc
   exfalso
   unfold PySem.W.kitOne PySem.W.kitCls at k
   cases ty with
   | o ty=>cases ty <;> simp at k
   | f e=>simp at k
 subst e
 cases ty with
 | o ty=>exact isinst_ok I r1 ty k fun tk=>⟨.bl b,H,I.tok tk,rfl,q⟩
 | @f a o kvs ea=>
  cases (show u=Value.ref a from r1)
  obtain⟨_,_,_,xs,_,o',es,ep,h1,h2,_⟩:=(show ObjOk X.prog X.w H s.heap a (.frz o (.dT kvs)) from I.hok a _ ea)
  exact PySem.W.kia_one PySem.W.kitx_dict I.kIn ⟨o',h1,h2.1⟩ k (fun z=>nomatch z) fun tk=>⟨.bl b,H,I.tok tk,rfl,q⟩
theorem Vals.rev:∀{xs:List V} {us:List Value},Vals xs us→Vals xs.reverse us.reverse
 | _,_,.nil=>.nil
 | _::xs,_::us,.cons r t=>by
  rw[List.reverse_cons,List.reverse_cons]
  exact (Vals.rev t).append (.cons r .nil)
end
theorem lri_nolen:typeLookup (.type "list_reverseiterator") "__len__" = pure none:=by
 rw[typeLookup_type,builtinLookup_eq_fast];kernel_rfl
theorem lri_hint:typeLookup (.type "list_reverseiterator") "__length_hint__" = pure (some (.builtin "list_reverseiterator.__length_hint__")):=by
 rw[typeLookup_type,builtinLookup_eq_fast];kernel_rfl
section
variable {prog:Program} {w:World} {A:Around} {E:Value→Shared→Prop} {s:Shared}
theorem hint_lri {r l:Addr} {i:Int} {Q:Bool→Shared→Prop} (hr:s.heap.IsRevIter r l i) (h:∀tk,Q false { s with toks:=tk }):wpAny (model prog w) A (Builtin.List.listLengthHint (.ref r)) Q E s:=by
 have hT:=hr.typeIs
 unfold Builtin.List.listLengthHint
 refine wpAny_bind (wpAny_specialOf hT lri_nolen ?_)
 show wpAny _ A (specialOf (Value.ref r) (Str.ofString "__length_hint__") >>= _) _ _ _
 refine wpAny_bind (wpAny_specialOf hT lri_hint ?_)
 generalize hid:("list_reverseiterator.__length_hint__" : String)=id0
 wp_delta
 rw[show splitId id0=some ("list_reverseiterator", "__length_hint__") from by subst hid;decide +kernel]
 subst hid
 refine wpAny_bind (wpAny_isInstance (b:=true) hT (by rw[isSubtype_type];kernel_rfl) ?_)
 exact wpAny_pure (h s.toks)
theorem call_list_lri {r l:Addr} {items:Array Value} {Q:Value→Shared→Prop} (hh:A.handled=none) (hr:s.heap.IsRevIter r l ((items.size:Int) - 1)) (hl:s.heap.IsList l items) (hne:l≠r) (hz:items.size≤sizeLine)
  (hQ:∀(h':Heap) (tk:Nat) (acc:Array Value) (c:Nat),(∀b o,b≠r→s.heap.get? b=some o→h'.get? b=some o)→h'.get? s.heap.objs.size=some { cls:=.type "list",dict:=none,data:=.seq acc c,slots:=#[] }→
   ItemsOf (fun i v=>items[items.size - 1 - i]?=some v) acc items.size→Q (.ref s.heap.objs.size) { s with heap:=h',toks:=tk }):wpAny (model prog w) A (call (.type "list") [.ref r]) Q E s:=by
 have rlt:r < s.heap.objs.size:=by obtain⟨_,q,_⟩:=hr;exact Heap.lt_size q
 have llt:l < s.heap.objs.size:=by obtain⟨_,q,_⟩:=hl;exact Heap.lt_size q
 refine callType_codes (Q₁:=fun obj t=>obj=.ref s.heap.objs.size∧t={ s with heap:=s.heap.push { cls:=.type "list",data:=.seq #[] } }) F.called_list (F.typeCall_list_1 _) F.entry_list_init (code_list_new _ ⟨rfl,rfl⟩) fun obj t ht=>?_
 obtain⟨rfl,rfl⟩:=ht
 have hS:(s.heap.push { cls:=.type "list",data:=.seq #[] }).get? s.heap.objs.size=some { cls:=.type "list",data:=.seq #[] }:=Heap.get?_push_size _ rfl
 refine⟨⟨_,hS,rfl⟩,F.args_list_init_2 _ _,?_⟩
 generalize hh2:s.heap.push { cls:=.type "list",data:=.seq #[] }=h2 at hS
 have old:∀b o,s.heap.get? b=some o→h2.get? b=some o:=fun b o e=>hh2▸Heap.get?_push_of_some _ e
 have hSr:s.heap.objs.size≠r:=Nat.ne_of_gt rlt
 have hSl:s.heap.objs.size≠l:=Nat.ne_of_gt llt
 show wpAny _ _ (do let was ←Builtin.List.listItems (.ref s.heap.objs.size);Builtin.List.listUpdate (.ref s.heap.objs.size) (fun _=>#[]);letGo was.toList.reverse;Builtin.List.listExtendWith (.ref s.heap.objs.size) (.ref r) .none) _ _ _
 refine wpAny_bind ?_
 unfold Builtin.List.listItems
 refine wpAny_bind (wpAny_seqItems hS rfl (wpAny_pure ?_))
 show wpAny _ _ (updateSeq s.heap.objs.size (fun _=>#[]) >>= fun _=>letGo (#[]:Array Value).toList.reverse >>= fun _=>Builtin.List.listExtendWith (.ref s.heap.objs.size) (.ref r) .none) _ _ _
 refine wpAny_bind (wpAny_updateSeq hS rfl ?_)
 have hS3:=Heap.get?_update_self (Obj.mapSeq (fun _=>(#[]:Array Value))) hS rfl
 refine wpAny_bind (wpAny_letGo ?_)
 have oth:∀b o,b≠s.heap.objs.size→h2.get? b=some o→(h2.update s.heap.objs.size (Obj.mapSeq (fun _=>(#[]:Array Value)))).get? b=some o:=fun b o n e=>(Heap.get?_update_other _ _ (Ne.symm n)).trans e
 generalize h2.update s.heap.objs.size (Obj.mapSeq (fun _=>(#[]:Array Value)))=h3 at hS3 oth
 have old3:∀b o,s.heap.get? b=some o→h3.get? b=some o:=fun b o e=>oth b o (Nat.ne_of_lt (Heap.lt_size e)) (old b o e)
 have hr3:h3.IsRevIter r l ((items.size:Int) - 1):=hr.at fun o e=>old3 r o e
 have hl3:h3.IsList l items:=hl.at fun o e=>old3 l o e
 have W:=(Walks.listRev (prog:=prog) (w:=w) (A:=A.in1.in1) hh r l hne items).toS
 unfold Builtin.List.listExtendWith
 refine wpAny_bind (wpAny_typeOf (T:= "list_reverseiterator") (s:={ s with heap:=h3 }) hr3.typeIs ?_)
 have z1:Builtin.List.listSameRef (.ref s.heap.objs.size) (.ref r)=false:=by simp [Builtin.List.listSameRef,hSr]
 rw[if_neg (by rw[z1];decide)]
 refine wpAny_bind (wpAny_pyIter_revIter (s:={ s with heap:=h3 }) hr3 ?_)
 refine wpAny_bind (wpAny_holding (hint_lri (s:={ s with heap:=h3 }) hr3 fun tk=>?_))
 rw[if_neg (by decide)]
 have nf:s.heap.objs.size∉[r,l]:=fun q=>by
  rcases List.mem_cons.mp q with e | e
  ·exact hSr e
  ·exact hSl (by simpa using e)
 have st0:0≤items.size∧h3.IsRevIter r l ((items.size:Int) - 1 - ((0:Nat):Int))∧h3.IsList l items:=⟨Nat.zero_le _,by simpa using hr3,hl3⟩
 refine wpAny_pure ⟨plainId_quiet F.plain_extend_loop _,codeAny_extend_loopS W hz _ nf _ items.size 0 _ _ _ rfl (Nat.zero_le _) st0 hS3 (ItemsOf.nil _) fun s' acc c hm hS' hacc=>?_⟩
 rw[Moved.eq_with hm]
 refine⟨rfl,hQ s'.heap s'.toks acc c (fun b o n e=>hm.heap b o (fun q=>?_) (old3 b o e)) hS' hacc⟩
 rcases List.mem_cons.mp q with z | z
 ·exact Nat.ne_of_lt (Heap.lt_size e) z
 ·exact n (by simpa using z)
end
theorem bt_reversed2:bootBuiltins "reversed" = some (.type "reversed"):=by decide +kernel
theorem items_rev {items:Array Value} {acc:Array Value} (h:ItemsOf (fun i v=>items[items.size - 1 - i]?=some v) acc items.size):acc.toList=items.toList.reverse:=by
 have hl:acc.size=items.size:=h.1
 apply List.ext_getElem?
 intro i
 by_cases c:i < items.size
 ·have ha:i < acc.size:=by lia
  have e:=h.2 i acc[i] (Array.getElem?_eq_getElem ha)
  rw[List.getElem?_reverse (by rw[Array.length_toList];exact c),Array.length_toList,Array.getElem?_toList,Array.getElem?_toList,Array.getElem?_eq_getElem ha]
  exact e.symm
 ·rw[List.getElem?_eq_none (by rw[Array.length_toList];lia),List.getElem?_eq_none (by rw[List.length_reverse,Array.length_toList];lia)]
section
variable {X:Cx}
theorem pe_lrev {e:Expr} {te:TA} {p1 p2 p3 p4:Pos} (hg1:Gl X "list") (hm1:X.mg "list" = none) (hg2:Gl X "reversed") (hm2:X.mg "reversed" = none) (hc:X.calm=true) (he:PA X [e] te) (hs:starEach [e] X.env=[(false,eval e X.env)]:=by rfl)
  (hs2:starEach [.Call (.Name "reversed" p2) [e] [] p3] X.env=[(false,eval (.Call (.Name "reversed" p2) [e] [] p3) X.env)]:=by rfl):PE X (.Call (.Name "list" p1) [.Call (.Name "reversed" p2) [e] [] p3] [] p4)
   (fun σ H Q=>te σ H fun vs H1=>∃a xs,vs=[.ref a]∧SqL X.K H1 a xs∧∀p,H1 p=none→Q (.ref p) (upd H1 p (.lst xs.reverse))):=by
 intro pins s σ H Q I h
 refine Call_ (ld_blt I hg1 hm1 bt_list (PyProof.Rows.callWith_type1 ?_ hs2 rfl))
 rw[hs2]
 show wpAny _ _ (spliced [(false,eval (.Call (.Name "reversed" p2) [e] [] p3) X.env)]) _ _ s
 refine Calls.spliced_cons ?_
 refine Call_ (ld_blt I hg2 hm2 bt_reversed2 (PyProof.Rows.callWith_type1 (thn (he p3 pins s σ H _ I h) fun us s1 zz271=>el5 zz271 fun vs H1 I1 r1 q1=>?_) hs rfl))
 obtain⟨a,xs,rfl,hq,q⟩:=q1
 obtain⟨u,rfl,rx⟩:=vals1 r1
 cases rx
 obtain⟨its,rv,pl,hz⟩:=I1.list hq
 have alt:a < s1.heap.objs.size:=by obtain⟨_,z,_⟩:=pl.isList;exact Heap.lt_size z
 refine call_reversed_list pl.isList (Calls.spliced_nil ?_)
 have hr:(s1.heap.push (revObj a ((its.toArray.size:Int) - 1))).IsRevIter s1.heap.objs.size a ((its.toArray.size:Int) - 1):=⟨_,Heap.get?_push_size _ rfl,rfl,rfl⟩
 have hl2:(s1.heap.push (revObj a ((its.toArray.size:Int) - 1))).IsList a its.toArray:=pl.isList.push _
 have hsz:(s1.heap.push (revObj a ((its.toArray.size:Int) - 1))).objs.size=s1.heap.objs.size + 1:=Heap.size_push ..
 refine call_list_lri (s:={ s1 with heap:=s1.heap.push (revObj a ((its.toArray.size:Int) - 1)) }) (I1.ok.hd hc) hr hl2 (Nat.ne_of_lt alt) (by rw[List.size_toArray,←rv.length];exact hz) fun h' tk acc c hk hS hacc=>?_
 have eq:=items_rev hacc
 refine⟨.ref _,_,I1.laid (t':=tk) (o:=.lst xs.reverse) (fun b o z=>hk b o (Nat.ne_of_lt (Heap.lt_size z)) (Heap.get?_push_of_some _ z)) (by show s1.heap.objs.size≤_;rw[hsz];exact Nat.le_succ _) (show ObjOk X.prog X.w _ h' _ (.lst xs.reverse) from ⟨by rw[List.length_reverse];exact hz,acc.toList,c,?_,by simpa using hS⟩),rfl,q _ (I1.hok.fresh (by show s1.heap.objs.size≤_;rw[hsz];exact Nat.le_succ _))⟩
 rw[eq]
 exact Vals.rev rv
def Itv (K:PySem.W.Frag) (a:Addr) (n:Nat):It:=
 ⟨fun i H=>∃xs x,SqL K H a xs∧xs.length=n∧xs.reverse[i]?=some x,fun i H x H'=>H'=H∧∀xs,SqL K H a xs→xs.reverse[i]?=some x,fun i _=>n≤i⟩
theorem turn_rev {P:Program} {w:World} {K:PySem.W.Frag} {tg:Expr} (a it:Addr) (n:Nat):Turn P w K tg (Itv K a n) [it] it (fun i h=>i≤n∧h.IsRevIter it a ((n:Int) - 1 - ((i:Nat):Int))) where
 mem:=by simp
 obj:=fun i h st b hb=>by
  have e:b=it:=by simpa using hb
  subst e
  obtain⟨_,o,e,c,d⟩:=st
  exact⟨o,e,fun v z=>by rw[d] at z;cases z⟩
 keep:=fun i h h' st k=>⟨st.1,st.2.at fun o e=>k it (by simp) o e⟩
 item:=by
  intro X hP hw hK hc i pins s σ H E I hf st hg
  subst hP hw hK
  obtain⟨xs,x,hq,hn,hx⟩:=hg
  obtain⟨its,rv,p,hz⟩:=I.list hq
  have hil:i < n:=by
   have:=(List.getElem?_eq_some_iff.mp hx).1
   rw[List.length_reverse,hn] at this
   exact this
  have hx':xs[n - 1 - i]?=some x:=by rw[List.getElem?_reverse (by lia),hn] at hx;exact hx
  obtain⟨u,hu,ru⟩:=rv.get hx'
  obtain⟨f0,f1,f2,f3,f4,f5⟩:=hf it (by simp)
  have ei:(n:Int) - 1 - ((i:Nat):Int)=((n - 1 - i:Nat):Int):=by lia
  refine wpAny_pyNext_rev_item (i:=n - 1 - i) (by rw[←ei];exact st.2) p.isList (x:=u) (by simpa using hu) fun h' st' sb=>?_
  have I1:Inv X pins σ H { s with heap:=h' }:=I.turned (t':=s.toks) (fun b o hb e=>(sb.2 b hb).trans e) f0 f1 f3 f4 f5
  obtain⟨o,e,c,d⟩:=id st'
  have ej:((n - 1 - i:Nat):Int) - 1=(n:Int) - 1 - ((i + 1:Nat):Int):=by lia
  exact⟨u,rfl,go_of (s:={ s with heap:=h' }) e c d (by decide) ⟨x,H,I1,ru,⟨rfl,fun ys hy=>by rw[I.list_inj hy hq];exact hx⟩,⟨hil,by rw[←ej];exact st'⟩,fun b hb=>(hf b hb).1⟩⟩
 done:=by
  intro X hP hw hK hc i pins s σ H E I hf st hg
  subst hP hw hK
  obtain⟨f0,f1,f2,f3,f4,f5⟩:=hf it (by simp)
  have e:i=n:=Nat.le_antisymm st.1 hg
  have em:(n:Int) - 1 - ((i:Nat):Int)=-1:=by lia
  exact wpAny_pyNext_rev_end (I.ok.hd hc) (by rw[←em];exact st.2) fun h' eb=>⟨rfl,I.turned (t':=s.toks) (fun b o hb e=>eb b o hb e) f0 f1 f3 f4 f5⟩
 self:=fun _ _ _ _ _ st h=>wpAny_pyIter_revIter st.2 h
def iRev (K:PySem.W.Frag) (ta:TA):TI:=fun σ H R=>ta σ H fun vs H1=>∃a xs,vs=[.ref a]∧SqL K H1 a xs∧R (Itv K a xs.length) H1
theorem pi_rev {tg a:Expr} {ta:TA} {p pos:Pos} (hg:Gl X "reversed") (hm:X.mg "reversed" = none) (ha:PA X [a] ta) (hs:starEach [a] X.env=[(false,eval a X.env)]:=by rfl):PI X tg (.Call (.Name "reversed" p) [a] [] pos) (iRev X.K ta):=by
 intro pins s σ H R I h
 refine Call_ (ld_blt I hg hm bt_reversed2 (PyProof.Rows.callWith_type1 (thn (ha pos pins s σ H _ I h) fun us s1 zz272=>el5 zz272 fun vs H1 I1 r1 q1=>?_) hs rfl))
 obtain⟨a',xs,rfl,hq,q⟩:=q1
 obtain⟨u,rfl,rx⟩:=vals1 r1
 cases rx
 obtain⟨its,rv,pl,hz⟩:=I1.list hq
 have en:((its.toArray.size:Nat):Int) - 1=((xs.length:Nat):Int) - 1:=by rw[List.size_toArray,←rv.length]
 refine call_reversed_list pl.isList ?_
 rw[en]
 have hr:(s1.heap.push (revObj a' ((xs.length:Int) - 1))).IsRevIter s1.heap.objs.size a' ((xs.length:Int) - 1):=⟨_,Heap.get?_push_size _ rfl,rfl,rfl⟩
 refine wpAny_pyIter_revIter (s:={ s1 with heap:=s1.heap.push (revObj a' ((xs.length:Int) - 1)) }) hr ?_
 refine⟨_,[s1.heap.objs.size],_,_,H1,rfl,I1.kept (t':=s1.toks) fun b o e=>Heap.get?_push_of_some _ e,turn_rev a' _ xs.length,⟨Nat.zero_le _,by simpa using hr⟩,fun b hb=>?_,q⟩
 have e:b=s1.heap.objs.size:=by simpa using hb
 subst e
 exact I1.fpOk (Nat.le_refl _) (I1.hok.fresh (Nat.le_refl _))
end
section
variable {X:Cx} {pins:List (Addr×Obj)} {σ:St} {H:Hp} {s:Shared}
end
section
variable {prog:Program} {w:World} {A:Around} {E:Value→Shared→Prop} {s:Shared}
end
section
variable {prog:Program} {w:World} {A:Around} {R:Result→Shared→Prop} {I:Addr} {fp wr:List Addr} {n:Nat} {P:Nat→Value→Prop} {St:Nat→Heap→Prop}
end
theorem Vals.un:∀{xs:List V} {us:List Value} {i:Nat} {u:Value},Vals xs us→us[i]?=some u→∃x,xs[i]?=some x∧RelV x u
 | _,_,_,_,.nil,e=>by simp at e
 | _,_,0,_,.cons r _,e=>by
  cases e
  exact⟨_,rfl,r⟩
 | _,_,i + 1,_,.cons _ t,e=>Vals.un (i:=i) t e
section
variable {X:Cx}
end
section
variable {X:Cx} {pins:List (Addr×Obj)} {σ:St} {H:Hp} {s:Shared} {h':Heap}
end
section
variable {X:Cx}
end
section
variable {X:Cx} {tg:Expr}
end
section
variable {prog:Program} {w:World} {A:Around} {R:Result→Shared→Prop} {I:Addr} {fp wr:List Addr} {n:Nat} {P:Nat→Value→Prop} {St:Nat→Heap→Prop}
theorem max_loopI (kw:List (Str×Value)) (val:Nat→Int) (hval:∀i v,P i v→∃t,v=.int (val i) t) (W:Walks prog w A.in1 I fp wr n P St) (S:Addr) (hSf:S∉fp) :
  ∀(k j:Nat) (s:Shared) (vb:Value) (c:Nat),n - (j + 1)=k→j + 1≤n→St (j + 1) s.heap→(∃i,P i vb∧i≤j∧∀q,q≤j→val q≤val i)→
  s.heap.get? S=some { cls:=.type "list",dict:=none,data:=.seq #[vb,vb] c,slots:=#[] }→
  (∀v h' tk,(∃i,P i v∧i < n∧∀q,q < n→val q≤val i)→(∀b o,b∉wr→b≠S→s.heap.get? b=some o→h'.get? b=some o)→R (.ok (.ret v)) { s with heap:=h',toks:=tk })→
  codeAny (model prog w) A (.builtin "max.loop" ⟨[.ref I,.none,.ref S],kw⟩) R s:=by
 have hSw:S∉wr:=fun h=>hSf (W.sub _ h)
 have hname:(toString "max" ++toString ".loop" : String) = "max.loop" :=by decide
 intro k
 induction k with
 | zero=>
  intro j s vb c hk hj hst hPb hS hR
  have hin:j + 1=n:=by omega
  refine codeAny_builtin F.entry_max_loop ?_
  rw[Around.under_plainId F.plain_max_loop _]
  show wpAny _ A.in1 (seqItems? (.ref S) >>= _) _ _ s
  refine wpAny_bind (wpAny_seqItems hS rfl ?_)
  show wpAny _ A.in1 (tryCatch (pyNext (.ref I)) _ >>= _) _ _ s
  refine wpAny_bind (wpAny_tryCatch (W.done s _ _ (hin▸hst) fun h' tk hk'=>?_))
  have hS':=hk' S _ hSw hS
  show wpAny _ A.in1 (updateSeq S (fun _=>#[]) >>= _) _ _ _
  refine wpAny_bind ?_
  refine wpAny_updateSeq hS' rfl (wpAny_bind (wpAny_letGo (wpAny_pure ?_)))
  obtain⟨i,h1,h2,h3⟩:=hPb
  exact hR vb _ tk ⟨i,h1,by omega,fun q hq=>h3 q (by omega)⟩ fun b o hbw hbS e=>(Heap.get?_update_other _ _ (Ne.symm hbS)).trans (hk' b o hbw e)
 | succ k ih=>
  intro j s vb c hk hj hst hPb hS hR
  have hlt:j + 1 < n:=by omega
  refine codeAny_builtin F.entry_max_loop ?_
  rw[Around.under_plainId F.plain_max_loop _]
  show wpAny _ A.in1 (seqItems? (.ref S) >>= _) _ _ s
  refine wpAny_bind (wpAny_seqItems hS rfl ?_)
  show wpAny _ A.in1 (tryCatch (pyNext (.ref I)) _ >>= _) _ _ s
  refine wpAny_bind (wpAny_tryCatch (W.item (j + 1) s _ _ hlt hst fun v h' tk hP hst' hk'=>?_))
  have hS':=hk' S _ hSw hS
  obtain⟨ib,hib,hi1,hi2⟩:=hPb
  obtain⟨t1,rfl⟩:=hval _ v hP
  obtain⟨t2,rfl⟩:=hval _ vb hib
  show wpAny _ A.in1 (tryCatch (holding [_,_] (richCompare .Gt _ _ >>= _)) _ >>= _) _ _ _
  refine wpAny_bind (wpAny_tryCatch (wpAny_holding (wpAny_bind (richCompare_gives (op:=.Gt) (typeIs_int _ _ t1) (typeIs_int _ _ t2) F.slot_int_gt F.entry_int_gt (F.args_int_gt_2 _ _) (gives_int_gt _ _ t1 t2) (fun x=>nomatch x) ?_))))
  refine wpAny_bind (wpAny_holding (wpAny_truthy_bool ?_))
  refine wpAny_bind (wpAny_letGo (wpAny_pure ?_))
  by_cases bt:val (j + 1) > val ib
  ·rw[decide_eq_true bt]
   simp only[if_true]
   refine wpAny_bind ?_
   refine wpAny_updateSeq hS' rfl (wpAny_bind (wpAny_letGo ?_))
   rw[hname]
   refine wpAny_pure ⟨plainId_quiet F.plain_max_loop _,ih (j + 1) _ _ _ (by omega) hlt (W.frame _ _ _ hst' fun b hbf o e=>?_) ⟨j + 1,hP,Nat.le_refl _,fun q hq=>?_⟩ (Heap.get?_update_self _ hS' rfl)
    fun v' h'' tk'' hP' hk''=>?_⟩
   ·exact (Heap.get?_update_other _ _ (fun h:S=b=>hSf (by rw[h];exact hbf))).trans e
   ·by_cases e:q=j + 1
    ·subst e;exact Int.le_refl _
    ·have:=hi2 q (by omega);omega
   ·exact hR v' h'' tk'' hP' fun b o hbw hbS e=>hk'' b o hbw hbS ((Heap.get?_update_other _ _ (Ne.symm hbS)).trans (hk' b o hbw e))
  ·rw[decide_eq_false bt]
   simp only[Bool.false_eq_true,if_false]
   refine wpAny_bind (wpAny_letGo ?_)
   rw[hname]
   refine wpAny_pure ⟨plainId_quiet F.plain_max_loop _,ih (j + 1) _ _ c (by omega) hlt hst' ⟨ib,hib,by omega,fun q hq=>?_⟩ hS' fun v' h'' tk'' hP' hk''=>?_⟩
   ·by_cases e:q=j + 1
    ·subst e;omega
    ·exact hi2 q (by omega)
   ·exact hR v' h'' tk'' hP' fun b o hbw hbS e=>hk'' b o hbw hbS (hk' b o hbw e)
theorem max_firstI (kw:List (Str×Value)) (val:Nat→Int) (hval:∀i v,P i v→∃t,v=.int (val i) t) (W:Walks prog w A.in1 I fp wr n P St) (S:Addr) (hSf:S∉fp) (hn:0 < n) {s:Shared} {c:Nat} (hst:St 0 s.heap)
  (hS:s.heap.get? S=some { cls:=.type "list",dict:=none,data:=.seq #[] c,slots:=#[] })
  (hR:∀v h' tk,(∃i,P i v∧i < n∧∀q,q < n→val q≤val i)→(∀b o,b∉wr→b≠S→s.heap.get? b=some o→h'.get? b=some o)→R (.ok (.ret v)) { s with heap:=h',toks:=tk }) :
  codeAny (model prog w) A (.builtin "max.loop" ⟨[.ref I,.none,.ref S],kw⟩) R s:=by
 have hSw:S∉wr:=fun h=>hSf (W.sub _ h)
 have hname:(toString "max" ++toString ".loop" : String) = "max.loop" :=by decide
 refine codeAny_builtin F.entry_max_loop ?_
 rw[Around.under_plainId F.plain_max_loop _]
 show wpAny _ A.in1 (seqItems? (.ref S) >>= _) _ _ s
 refine wpAny_bind (wpAny_seqItems hS rfl ?_)
 show wpAny _ A.in1 (tryCatch (pyNext (.ref I)) _ >>= _) _ _ s
 refine wpAny_bind (wpAny_tryCatch (W.item 0 s _ _ hn hst fun v h' tk hP hst' hk'=>?_))
 have hS':=hk' S _ hSw hS
 show wpAny _ A.in1 (updateSeq S (fun _=>#[v,v]) >>= _) _ _ _
 refine wpAny_bind ?_
 refine wpAny_updateSeq hS' rfl ?_
 rw[hname]
 refine wpAny_pure ⟨plainId_quiet F.plain_max_loop _,max_loopI kw val hval W S hSf _ 0 _ v _ rfl hn (W.frame _ _ _ hst' fun b hbf o e=>?_) ⟨0,hP,Nat.le_refl _,fun q hq=>by rw[show q=0 by omega];exact Int.le_refl _⟩ (Heap.get?_update_self _ hS' rfl) fun v' h'' tk'' hP' hk''=>?_⟩
 ·exact (Heap.get?_update_other _ _ (fun h:S=b=>hSf (by rw[h];exact hbf))).trans e
 ·exact hR v' h'' tk'' hP' fun b o hbw hbS e=>hk'' b o hbw hbS ((Heap.get?_update_other _ _ (Ne.symm hbS)).trans (hk' b o hbw e))
end
section
variable {X:Cx}
def topI (ns:List Int) (M:Int):Prop:=M∈ns∧∀n∈ns,n≤M
def rMaxI (K:PySem.W.Frag):List V→Hp→VK→Prop:=fun xs H Q=>∃(p:Addr) (ns:List Int),xs=[.ref p]∧SqL K H p (ns.map V.int)∧ns≠[]∧∀M,topI ns M→Q (.int M) H
theorem ints_val {ns:List Int} {its:List Value} (rv:Vals (ns.map V.int) its) {i:Nat} {v:Value} (h:its[i]?=some v):∃n t,ns[i]?=some n∧v=.int n t:=by
 obtain⟨x,hx,rx⟩:=Vals.un rv h
 rw[List.getElem?_map] at hx
 cases e:ns[i]? with
 | none=>rw[e] at hx;cases hx
 | some n=>
  rw[e] at hx
  cases hx
  obtain⟨t,rfl⟩:=rx
  exact⟨n,t,rfl,rfl⟩
theorem call_maxI (hc:X.calm=true):CallR X (.builtin "max") (rMaxI X.K):=by
 intro pins s σ H xs us Q I r h
 obtain⟨p,ns,rfl,hq,hne,q⟩:=h
 obtain⟨u,rfl,rx⟩:=vals1 r
 cases rx
 obtain⟨its,rv,pl,hz⟩:=I.list hq
 have hl:=pl.isList
 have hlt:p < s.heap.objs.size:=by obtain⟨_,e,_⟩:=hl;exact Heap.lt_size e
 have hlen:=rv.length
 rw[List.length_map] at hlen
 have hname:(toString "max" ++toString ".loop" : String) = "max.loop" :=by decide
 refine call_function_tree F.kind_max F.plain_max F.entry_max (F.args_max1 _) ?_
 show wpAny _ X.A.in1 (Builtin.Builtins.bindParams "max" ["key", "default"] 0 ⟨[],[]⟩ >>= _) _ _ s
 refine wpAny_bind (wpAny_of_eq (show Builtin.Builtins.bindParams "max" ["key", "default"] 0 ⟨[],[]⟩=pure [none,none] from rfl) ?_)
 refine wpAny_bind (wpAny_pure ?_)
 refine wpAny_bind (wpAny_pyIter_list hl ?_)
 refine wpAny_bind (wpAny_newObj_type ?_)
 rw[hname]
 have W:=Walks.list (prog:=X.prog) (w:=X.w) (A:=X.A.in1) (I.ok.hd hc) s.heap.objs.size p (Nat.ne_of_lt hlt) its.toArray
 have sz:∀(h:Heap) (o:Obj),(h.push o).objs.size=h.objs.size + 1:=fun h o=>by simp [Heap.push]
 refine wpAny_pure ⟨plainId_quiet F.plain_max_loop _,max_firstI [] (fun i=>(ns[i]?).getD 0) (fun i v hv=>?_) W _ ?_ ?_ ?_ (Heap.get?_push_size _ rfl) fun v h' tk hP hk=>?_⟩
 ·have hv':its[i]?=some v:=by simpa using hv
  obtain⟨n,t,e,rfl⟩:=ints_val rv hv'
  exact⟨t,by rw[e];rfl⟩
 ·intro hm
  rw[sz] at hm
  rcases List.mem_cons.mp hm with z | z
  ·exact absurd z (Nat.succ_ne_self _)
  ·have h2:s.heap.objs.size + 1=p:=List.mem_singleton.mp z
   have h3:s.heap.objs.size + 1 < s.heap.objs.size:=by rw[h2];exact hlt
   exact absurd h3 (Nat.not_lt.mpr (Nat.le_succ _))
 ·rw[List.size_toArray,←hlen]
  exact List.length_pos_iff.mpr hne
 ·exact W.frame _ _ _ ⟨⟨_,Heap.get?_push_size _ rfl,rfl,rfl⟩,hl.push _⟩ fun b _ o e=>Heap.get?_push_of_some _ e
 ·obtain⟨i,hi,hi1,hi2⟩:=hP
  have hv':its[i]?=some v:=by simpa using hi
  obtain⟨n,t,e,rfl⟩:=ints_val rv hv'
  refine⟨.int n,H,I.kept (t':=tk) fun b o e=>?_,⟨t,rfl⟩,q n ⟨List.mem_of_getElem? e,fun m hm=>?_⟩⟩
  ·have hb:=Heap.lt_size e
   refine hk b o (fun hm=>?_) (fun hm=>?_) (Heap.get?_push_of_some _ (Heap.get?_push_of_some _ e))
   ·rw[List.mem_singleton.mp hm] at hb;exact Nat.lt_irrefl _ hb
   ·rw[hm,sz] at hb;exact absurd hb (Nat.not_lt.mpr (Nat.le_succ _))
  ·obtain⟨j,hj,rfl⟩:=List.mem_iff_getElem.mp hm
   have:=hi2 j (by rw[List.size_toArray,←hlen];exact hj)
   rw[List.getElem?_eq_getElem hj,e] at this
   exact this
end
section
variable {prog:Program} {w:World} {A:Around} {R:Result→Shared→Prop} {I:Addr} {fp wr:List Addr} {n:Nat} {P:Nat→Value→Prop} {St:Nat→Heap→Prop}
end
section
variable {X:Cx}
end
end L2
namespace My
open PySem L2
def Hd (H:Hp) (a l:Addr):Prop:=∃(ns:List Int) (p b c u v:Int),H l=some (.lst (ns.map V.int))∧0≤p∧H a=some (.lst [.ref l,.int p,.int b,.int c,.int u,.int v])
def Kp (a:Addr) (H H':Hp):Prop:=∀b o,H b=some o→b≠a→H' b=some o
theorem Kp.refl (a:Addr) (H:Hp):Kp a H H:=fun _ _ e _=>e
theorem Kp.trans {a:Addr} {H H1 H2:Hp} (x:Kp a H H1) (y:Kp a H1 H2):Kp a H H2:=fun b o e n=>y b o (x b o e n) n
theorem ne_hand {H:Hp} {a l:Addr} {ns:List Int} {xs:List V} (hl:H l=some (.lst (ns.map V.int))) (ha:H a=some (.lst (.ref l::xs))):l≠a:=ne_of hl ha (by
 intro e
 injection e with e
 cases ns with
 | nil=>cases e
 | cons n r=>injection e with e1;cases e1)
theorem Hd.at1 {H:Hp} {a l:Addr} (h:Hd H a l):∃o,H a=some o:=let ⟨_,_,_,_,_,_,_,_,e⟩:=h;⟨_,e⟩
theorem Hd.at2 {H:Hp} {a l:Addr} (h:Hd H a l):∃o,H l=some o:=let ⟨_,_,_,_,_,_,e,_⟩:=h;⟨_,e⟩
theorem Hd.ne {H:Hp} {a l p:Addr} (h:Hd H a l) (hp:H p=none):p≠a∧p≠l:=by
 obtain⟨o,e⟩:=h.at1
 obtain⟨o',e'⟩:=h.at2
 exact⟨(ne_of_none e hp).symm,(ne_of_none e' hp).symm⟩
theorem Hd.wr {H:Hp} {a l p:Addr} {o:HO} (h:Hd H a l) (n1:p≠a) (n2:p≠l):Hd (upd H p o) a l:=by
 obtain⟨ns,q,b,c,u,v,h1,h2,h3⟩:=h
 exact⟨ns,q,b,c,u,v,by rw[upd_ne n2.symm];exact h1,h2,by rw[upd_ne n1.symm];exact h3⟩
theorem Hd.lay {H:Hp} {a l p:Addr} {o:HO} (h:Hd H a l) (hp:H p=none):Hd (upd H p o) a l:=h.wr (h.ne hp).1 (h.ne hp).2
theorem Hd.same {H H':Hp} {a l:Addr} (h:Hd H a l) (s:Same H H'):Hd H' a l:=by
 obtain⟨ns,q,b,c,u,v,h1,h2,h3⟩:=h
 exact⟨ns,q,b,c,u,v,s _ _ h1,h2,s _ _ h3⟩
theorem _root_.L2.Same.lay {p:Addr} {H H1:Hp} {o:HO} (x:Same H H1) (h:H1 p=none):Same H (upd H1 p o):=fun b u e=>by
 have e1:=x b u e
 rw[upd_ne (ne_of_none e1 h)];exact e1
theorem atI_ints {ns:List Int} {p:Int} (h0:0≤p) (h1:p < (ns.length:Int)):∃z,atI (ns.map V.int) p=some (.int z):=by
 obtain⟨n,rfl⟩:=Int.eq_ofNat_of_zero_le h0
 have hp:n < ns.length:=by lia
 exact⟨ns[n],atI_nat (by rw[List.getElem?_map,List.getElem?_eq_getElem hp];rfl)⟩
def spHand (K:PySem.W.Frag):Sp:=fun vs H Q _=>∃(a:Addr) (ns:List Int),vs=[.ref a]∧SqL K H a (ns.map V.int)∧∀(p l:Addr) (H':Hp),H p=none→H l=none→Hd H' p l→Same H H'→Q (.ref p) H'
def spNext:Sp:=fun vs H Q _=>∃a l,vs=[.ref a]∧Hd H a l∧∀(r:Int) (H':Hp),Hd H' a l→Kp a H H'→Q (.int r) H'
def spTake:Sp:=fun vs H Q _=>∃a l,vs=[.ref a]∧Hd H a l∧∀(H':Hp),Hd H' a l→Kp a H H'→Q .non H'
def spDraw:Sp:=fun vs H Q _=>∃a l m,vs=[.ref a,.int m]∧Hd H a l∧0 < m∧m < 100000000000000000000000000000000000000000000000000000000000000∧∀(r:Int) (H':Hp),0≤r→r < m→Hd H' a l→Kp a H H'→Q (.int r) H'
def dEn (ks:List (List Int)):List (List Key×V):=ks.map fun k=>(k.map Sum.inl,V.bl true)
def dEm (ks:List (List Int×Int)):List (List Key×V):=ks.map fun p=>(p.1.map Sum.inl,V.int p.2)
def keyT (k:List Int):PyData:=.tuple (k.map PyData.int)
inductive DiU:HO→List (PyData×PyData)→Prop
 | t:DiU (.dT []) []
 | k (i j:Int):DiU (.dK [(Sum.inl i,V.int j)]) [(.int i,.int j)]
 | f (o:Obj) (ks:List (List Int)):DiU (.frz o (.dT (dEn ks))) ((.none,.none)::ks.map fun k=>(keyT k,.bool true))
mutual
inductive ThV (F:Addr→Prop) (H:Hp):V→PyData→Prop
 | non:ThV F H .non .none
 | bl (b):ThV F H (.bl b) (.bool b)
 | int (i):ThV F H (.int i) (.int i)
 | str (x):ThV F H (.str x) (.str x)
 | lst {a xs ds}:F a→H a=some (.lst xs)→ThVs F H xs ds→ThV F H (.ref a) (.list ds)
 | tup {a xs ds}:F a→H a=some (.tup xs)→ThVs F H xs ds→ThV F H (.ref a) (.tuple ds)
 | dic {a u kvs}:F a→H a=some u→DiU u kvs→ThV F H (.ref a) (.dict kvs)
inductive ThVs (F:Addr→Prop) (H:Hp):List V→List PyData→Prop
 | nil:ThVs F H [] []
 | cons {x xs d ds}:ThV F H x d→ThVs F H xs ds→ThVs F H (x::xs) (d::ds)
end
mutual
theorem ThV.mv {F G:Addr→Prop} {H H':Hp} (f:∀b o,F b→H b=some o→G b∧H' b=some o):∀{v:V} {d:PyData},ThV F H v d→ThV G H' v d
 | _,_,.non=>.non
 | _,_,.bl b=>.bl b
 | _,_,.int i=>.int i
 | _,_,.str x=>.str x
 | _,_,.lst n e t=>.lst (f _ _ n e).1 (f _ _ n e).2 (ThVs.mv f t)
 | _,_,.tup n e t=>.tup (f _ _ n e).1 (f _ _ n e).2 (ThVs.mv f t)
 | _,_,.dic n e t=>.dic (f _ _ n e).1 (f _ _ n e).2 t
theorem ThVs.mv {F G:Addr→Prop} {H H':Hp} (f:∀b o,F b→H b=some o→G b∧H' b=some o):∀{vs:List V} {ds:List PyData},ThVs F H vs ds→ThVs G H' vs ds
 | _,_,.nil=>.nil
 | _,_,.cons x t=>.cons (ThV.mv f x) (ThVs.mv f t)
end
theorem ThVs.same {F:Addr→Prop} {H H':Hp} {v:List V} {d:List PyData} (t:ThVs F H v d) (s:Same H H'):ThVs F H' v d:=t.mv fun b o z e=>⟨z,s b o e⟩
theorem ThVs.append {F:Addr→Prop} {H:Hp} {xs:List V} {ds:List PyData} {ys:List V} {es:List PyData} (t:ThVs F H xs ds) (y:ThVs F H ys es):ThVs F H (xs++ys) (ds++es):=by
 induction xs generalizing ds with
 | nil=>cases t;exact y
 | cons v xs ih=>
  cases t with
  | cons x t=>exact .cons x (ih t)
theorem ThVs.len {F:Addr→Prop} {H:Hp} {xs:List V} {ds:List PyData} (t:ThVs F H xs ds):xs.length=ds.length:=by
 induction xs generalizing ds with
 | nil=>cases t;rfl
 | cons v xs ih=>
  cases t with
  | cons x t=>rw[List.length_cons,List.length_cons,ih t]
theorem ThVs.get {F:Addr→Prop} {H:Hp}:∀{xs:List V} {ds:List PyData} {i:Nat} {v:V},ThVs F H xs ds→xs[i]?=some v→∃d,ds[i]?=some d∧ThV F H v d
 | _,_,_,_,.nil,e=>by simp at e
 | _,_,0,v,.cons (d:=d) x _,e=>by
  have e':=Option.some.inj e
  subst e'
  exact⟨d,rfl,x⟩
 | _,_,i + 1,v,.cons _ t,e=>ThVs.get (i:=i) t e
theorem ThVs.at {F:Addr→Prop} {H:Hp}:∀{xs:List V} {ds:List PyData} {i:Nat} {d:PyData},ThVs F H xs ds→ds[i]?=some d→∃v,xs[i]?=some v∧ThV F H v d
 | _,_,_,_,.nil,e=>by simp at e
 | _,_,0,d,.cons (x:=v) x _,e=>by
  have e':=Option.some.inj e
  subst e'
  exact⟨v,rfl,x⟩
 | _,_,i + 1,v,.cons _ t,e=>ThVs.at (i:=i) t e
mutual
theorem ThV.dat {K:PySem.W.Frag} {F:Addr→Prop} {H:Hp}:∀{v:V} {d:PyData},ThV F H v d→d.canLay0=true→DatV K H v d
 | _,_,.non,_=>.non
 | _,_,.bl b,_=>.bl b
 | _,_,.int i,_=>.int i
 | _,_,.str x,_=>.str x
 | _,_,.lst _ e t,h=>.lst (SqL.of e) (ThVs.dat t (by rw[PyData.canLay0] at h;exact h))
 | _,_,.tup _ e t,h=>.tup (SqT.of e) (ThVs.dat t (by rw[PyData.canLay0] at h;exact h))
 | _,_,.dic _ _ _,h=>by rw[PyData.canLay0] at h;cases h
theorem ThVs.dat {K:PySem.W.Frag} {F:Addr→Prop} {H:Hp}:∀{vs:List V} {ds:List PyData},ThVs F H vs ds→PyData.canLayAll0 ds=true→DatVs K H vs ds
 | _,_,.nil,_=>.nil
 | _,_,.cons x t,h=>by
  rw[PyData.canLayAll0,Bool.and_eq_true] at h
  exact .cons (ThV.dat x h.1) (ThVs.dat t h.2)
end
structure DC where
 F:Addr→Prop
 hand:Option (Addr×Addr)
 H0:Hp
def Kq (h:Option (Addr×Addr)) (H H':Hp):Prop:=∀b o,H b=some o→(∀q,h=some q→b≠q.1)→H' b=some o
def Hq (h:Option (Addr×Addr)) (H:Hp):Prop:=∀q,h=some q→Hd H q.1 q.2
section
variable {h:Option (Addr×Addr)} {H H1 H2 H':Hp} {p:Addr} {o:HO}
theorem Kq.refl:Kq h H H:=fun _ _ e _=>e
theorem Kq.trans (a:Kq h H H1) (b:Kq h H1 H2):Kq h H H2:=fun c o e n=>b c o (a c o e n) n
theorem Kq.same (s:Same H H'):Kq h H H':=fun b o e _=>s b o e
theorem Kq.fr {b:Addr} (k:Kq h H H') (q:Hq h H') (e:H' b=none):H b=none:=by
 cases z:H b with
 | none=>rfl
 | some o=>
  by_cases c:∀p,h=some p→b≠p.1
  ·rw[k b o z c] at e;cases e
  ·refine absurd (fun p hp hb=>?_) c
   obtain⟨o',e'⟩:=(q p hp).at1
   rw[hb,e'] at e;cases e
theorem Kq.lay (hp:H p=none):Kq h H (upd H p o):=Kq.same ((Same.refl H).lay hp)
theorem Hq.lay (q:Hq h H) (hp:H p=none):Hq h (upd H p o):=fun z hz=>(q z hz).lay hp
end
inductive Rws (G F:Addr→Prop) (H:Hp):List Addr→List (List PyData)→Prop
 | nil:Rws G F H [] []
 | cons {b vs as ds dss}:G b→H b=some (.lst vs)→ThVs F H vs ds→Rws G F H as dss→Rws G F H (b::as) (ds::dss)
theorem Rws.mv {G F G' F':Addr→Prop} {H H':Hp} {as:List Addr} {dss:List (List PyData)} (t:Rws G F H as dss) (f:∀b o,F b→H b=some o→F' b∧H' b=some o) (g:∀b o,G b→H b=some o→G' b∧H' b=some o):Rws G' F' H' as dss:=by
 induction t with
 | nil=>exact .nil
 | cons x e y _ ih=>exact .cons (g _ _ x e).1 (g _ _ x e).2 (y.mv f) ih
theorem Rws.mvl {G F G' F':Addr→Prop} {H H':Hp} {as:List Addr} {dss:List (List PyData)} (t:Rws G F H as dss) (f:∀b o,F b→H b=some o→F' b∧H' b=some o) (g:∀b ys,G b→H b=some (.lst ys)→G' b∧H' b=some (.lst ys)):Rws G' F' H' as dss:=by
 induction t with
 | nil=>exact .nil
 | cons x e y _ ih=>exact .cons (g _ _ x e).1 (g _ _ x e).2 (y.mv f) ih
def DiAt (H:Hp) (a:Addr) (ks:List (List Int)):Bool→Prop
 | false=>H a=some (.dT (dEn ks))
 | true=>∃o,H a=some (.frz o (.dT (dEn ks)))
theorem DiAt.mv {H H':Hp} {a:Addr} {ks:List (List Int)} {f:Bool} (h:DiAt H a ks f) (k:∀o,H a=some o→H' a=some o):DiAt H' a ks f:=by
 cases f with
 | false=>exact k _ h
 | true=>obtain⟨o,h⟩:=h;exact⟨o,k _ h⟩
theorem DiAt.ne {H:Hp} {a:Addr} {ks:List (List Int)} {f:Bool} (h:DiAt H a ks f):H a≠none:=by
 cases f with
 | false=>exact fun q=>by rw[show H a=_ from h] at q;cases q
 | true=>obtain⟨o,h⟩:=h;exact fun q=>by rw[h] at q;cases q
def DmAt (H:Hp) (a:Addr) (ks:List (List Int×Int)):Bool→Prop
 | false=>H a=some (.dT (dEm ks))
 | true=>∃o,H a=some (.frz o (.dT (dEm ks)))
theorem DmAt.mv {H H':Hp} {a:Addr} {ks:List (List Int×Int)} {f:Bool} (h:DmAt H a ks f) (k:∀o,H a=some o→H' a=some o):DmAt H' a ks f:=by
 cases f with
 | false=>exact k _ h
 | true=>obtain⟨o,h⟩:=h;exact⟨o,k _ h⟩
theorem DmAt.ne {H:Hp} {a:Addr} {ks:List (List Int×Int)} {f:Bool} (h:DmAt H a ks f):H a≠none:=by
 cases f with
 | false=>exact fun q=>by rw[show H a=_ from h] at q;cases q
 | true=>obtain⟨o,h⟩:=h;exact fun q=>by rw[h] at q;cases q
structure ORel where
 p:(Addr→Prop)→Hp→V→Prop
 mv:∀{W W':Addr→Prop} {H H':Hp} {v:V},(∀b o,W b→H b=some o→W' b∧H' b=some o)→p W H v→p W' H' v
inductive Sl where
 | no
 | sh (d:PyData)
 | ow (ds:List PyData)
 | bo (ds:List PyData)
 | hd
 | o2 (dss:List (List PyData))
 | b2 (dss:List (List PyData))
 | di (f:Bool) (ks:List (List Int))
 | dm (f:Bool) (kvs:List (List Int×Int))
 | bd (d:PyData)
 | ot (d:PyData)
 | ob (R:ORel)
abbrev Z (col:Addr→Nat):Addr→Prop:=fun b=>col b=0
abbrev Le (C:DC):Addr→Prop:=fun b=>C.H0 b≠none∧∀q,C.hand=some q→b≠q.1
abbrev Ow (C:DC) (col:Addr→Nat) (H:Hp) (i:Nat):Addr→Prop:=fun b=>(col b=2 * i + 3∧C.H0 b=none)∨(col b=0∧∃xs,H b=some (.tup xs))
def SlR (C:DC) (col:Addr→Nat) (H:Hp) (i:Nat) (o:Option V):Sl→Prop
 | .no=>True
 | .sh d=>∃v,o=some v∧ThV (Z col) H v d
 | .ow ds=>∃a vs,o=some (.ref a)∧col a=2 * i + 3∧C.H0 a=none∧H a=some (.lst vs)∧ThVs (Z col) H vs ds
 | .bo ds=>∃a vs,o=some (.ref a)∧col a≤1∧(∀q,C.hand=some q→a≠q.1)∧H a=some (.lst vs)∧ThVs (Z col) H vs ds
 | .hd=>∃q,C.hand=some q∧o=some (.ref q.1)
 | .o2 dss=>∃a as,o=some (.ref a)∧(col a=2 * i + 3∧C.H0 a=none)∧H a=some (.lst (as.map V.ref))∧(a::as).Nodup∧Rws (fun b=>col b=2 * i + 3∧C.H0 b=none) (Z col) H as dss
 | .b2 dss=>∃a as,o=some (.ref a)∧(col a≤1∧∀q,C.hand=some q→a≠q.1)∧H a=some (.lst (as.map V.ref))∧Rws (fun b=>col b≤1∧∀q,C.hand=some q→b≠q.1) (Z col) H as dss
 | .di f ks=>∃a,o=some (.ref a)∧col a=2 * i + 3∧C.H0 a=none∧DiAt H a ks f
 | .dm f ks=>∃a,o=some (.ref a)∧col a=2 * i + 3∧C.H0 a=none∧DmAt H a ks f
 | .bd d=>∃v,o=some v∧ThV (Le C) C.H0 v d
 | .ot d=>∃v,o=some v∧ThV (Ow C col H i) H v d
 | .ob R=>∃v,o=some v∧R.p (Ow C col H i) H v
inductive Pe where
 | v (v:V) (d:PyData)
 | n (a:Addr) (o:HO)
 | s (vs:List V) (ds:List PyData)
 | o (c:Nat) (as:List Addr) (dss:List (List PyData))
 | w (v:V) (d:PyData)
def PeR (C:DC) (col:Addr→Nat) (H:Hp):Pe→Prop
 | .v v d=>ThV (Z col) H v d
 | .n a o=>col a≤1∧(∀q,C.hand=some q→a≠q.1)∧H a=some o
 | .s vs ds=>ThVs (Z col) H vs ds
 | .o c as dss=>as.Nodup∧Rws (fun b=>col b=2 * c + 2∧C.H0 b=none) (Z col) H as dss
 | .w v d=>ThV (Le C) C.H0 v d
structure RelC (C:DC) (col:Addr→Nat) (ρ:List Sl) (σ:St) (P:List Pe) (H:Hp):Prop where
 fresh:∀b,H b=none→col b=0
 inF:∀b,col b=0→C.F b
 hnd:∀q,C.hand=some q→col q.1=1
 sl:∀i s,ρ[i]?=some s→SlR C col H i (σ[i]?).join s
 pd:∀p∈P,PeR C col H p
 kq:Kq C.hand C.H0 H
 hq:Hq C.hand H
 hq0:Hq C.hand C.H0
 nf:(∀b,C.H0 b=none→C.F b)∧∀b xs,C.H0 b=some (.tup xs)→C.F b
 len:ρ.length=σ.length
def Rel (C:DC) (ρ:List Sl) (σ:St) (P:List Pe) (H:Hp):Prop:=∃col,RelC C col ρ σ P H
section
variable {C:DC} {col col':Addr→Nat} {ρ:List Sl} {σ:St} {P P':List Pe} {H H':Hp} {v:V} {d:PyData} {o:HO} {p:Addr}
theorem RelC.notH (r:RelC C col ρ σ P H) {b:Addr} (hb:col b≠1):∀q,C.hand=some q→b≠q.1:=fun q hq e=>hb (e▸r.hnd q hq)
theorem RelC.mv (r:RelC C col ρ σ P H) (k:Kq C.hand H H') (q:Hq C.hand H'):RelC C col ρ σ P H':=by
 have mv0:∀b o,Z col b→H b=some o→Z col b∧H' b=some o:=fun b o z e=>⟨z,k b o e (r.notH (by rw[show col b=0 from z];decide))⟩
 refine⟨fun b e=>r.fresh b (k.fr q e),r.inF,r.hnd,fun i s e=>?_,fun p hp=>?_,r.kq.trans k,q,r.hq0,r.nf,r.len⟩
 ·have h:=r.sl i s e
  cases s with
  | no=>trivial
  | sh d=>obtain⟨v,e1,t⟩:=h;exact⟨v,e1,t.mv mv0⟩
  | ow ds=>obtain⟨a,vs,e1,c,n,e2,t⟩:=h;exact⟨a,vs,e1,c,n,k a _ e2 (r.notH (by lia)),t.mv mv0⟩
  | bo ds=>obtain⟨a,vs,e1,c,n,e2,t⟩:=h;exact⟨a,vs,e1,c,n,k a _ e2 n,t.mv mv0⟩
  | hd=>exact h
  | o2 dss=>obtain⟨a,as,e1,c,e2,nd,t⟩:=h;exact⟨a,as,e1,c,k a _ e2 (r.notH (by lia)),nd,t.mv mv0 fun b o g e=>⟨g,k b o e (r.notH (by have:=g.1;lia))⟩⟩
  | b2 dss=>obtain⟨a,as,e1,c,e2,t⟩:=h;exact⟨a,as,e1,c,k a _ e2 c.2,t.mv mv0 fun b o g e=>⟨g,k b o e g.2⟩⟩
  | di f ks=>obtain⟨a,e1,c,n,e2⟩:=h;exact⟨a,e1,c,n,e2.mv fun o e=>k a o e (r.notH (by lia))⟩
  | dm f ks=>obtain⟨a,e1,c,n,e2⟩:=h;exact⟨a,e1,c,n,e2.mv fun o e=>k a o e (r.notH (by lia))⟩
  | bd d=>exact h
  | ot d=>
   obtain⟨v,e1,t⟩:=h
   refine⟨v,e1,t.mv fun b o g e=>?_⟩
   have e':H' b=some o:=k b o e (r.notH (by rcases g with g | g <;> (have:=g.1;lia)))
   exact⟨g.imp id fun ⟨c,xs,z⟩=>⟨c,xs,by rw[e] at z;rw[e'];exact z⟩,e'⟩
  | ob R=>
   obtain⟨v,e1,t⟩:=h
   refine⟨v,e1,R.mv (fun b o g e=>?_) t⟩
   have e':H' b=some o:=k b o e (r.notH (by rcases g with g | g <;> (have:=g.1;lia)))
   exact⟨g.imp id fun ⟨c,xs,z⟩=>⟨c,xs,by rw[e] at z;rw[e'];exact z⟩,e'⟩
 ·have h:=r.pd p hp
  cases p with
  | v v d=>exact ThV.mv mv0 h
  | n a o=>exact⟨h.1,h.2.1,k a o h.2.2 h.2.1⟩
  | s vs ds=>exact ThVs.mv mv0 h
  | o c as dss=>exact⟨h.1,h.2.mv mv0 fun b o g e=>⟨g,k b o e (r.notH (by have:=g.1;lia))⟩⟩
  | w v d=>exact h
theorem RelC.lay (r:RelC C col ρ σ P H) (hp:H p=none):RelC C col ρ σ P (upd H p o):=r.mv (Kq.lay hp) (r.hq.lay hp)
theorem RelC.add (r:RelC C col ρ σ P H) {x:Pe} (t:PeR C col H x):RelC C col ρ σ (x::P) H:=
 { r with pd:=fun p hp=>(List.mem_cons.mp hp).elim (fun e=>e▸t) (r.pd p) }
theorem RelC.push (r:RelC C col ρ σ P H) (t:ThV (Z col) H v d):RelC C col ρ σ (.v v d::P) H:=r.add t
theorem RelC.sub (r:RelC C col ρ σ P H) (h:∀p∈P',p∈P):RelC C col ρ σ P' H:={ r with pd:=fun p hp=>r.pd p (h p hp) }
theorem Rel.sub (r:Rel C ρ σ P H) (h:∀p∈P',p∈P):Rel C ρ σ P' H:=let ⟨c,r⟩:=r;⟨c,r.sub h⟩
theorem Rel.pop {x:Pe} (r:Rel C ρ σ (x::P) H):Rel C ρ σ P H:=r.sub fun _ h=>List.mem_cons_of_mem _ h
theorem RelC.tup {vs:List V} {ds:List PyData} (r:RelC C col ρ σ P H) (t:ThVs (Z col) H vs ds) (hp:H p=none):RelC C col ρ σ (.v (.ref p) (.tuple ds)::P) (upd H p (.tup vs)):=
 (r.lay hp).push (.tup (r.fresh p hp) upd_same (t.same ((Same.refl H).lay hp)))
theorem RelC.lst {vs:List V} {ds:List PyData} (r:RelC C col ρ σ P H) (t:ThVs (Z col) H vs ds) (hp:H p=none):RelC C col ρ σ (.v (.ref p) (.list ds)::P) (upd H p (.lst vs)):=
 (r.lay hp).push (.lst (r.fresh p hp) upd_same (t.same ((Same.refl H).lay hp)))
theorem RelC.recol (r:RelC C col ρ σ P H) {ρ':List Sl} {σ':St} (hl:ρ'.length=σ'.length) (f:∀b,H b=none→col' b=0) (i:∀b,col' b=0→C.F b) (n:∀q,C.hand=some q→col' q.1=1) (z:∀b,col b=0→H b≠none→col' b=0)
  (lo:∀b,col b≤1→H b≠none→col' b≤1) (c2:∀b c,col b=2 * c + 2→col' b=2 * c + 2) (s:∀i s,ρ'[i]?=some s→SlR C col' H i (σ'[i]?).join s):RelC C col' ρ' σ' P H:=by
 have mv0:∀b o,Z col b→H b=some o→Z col' b∧H b=some o:=fun b o zz e=>⟨z b zz (by rw[e];exact fun q=>nomatch q),e⟩
 refine⟨f,i,n,s,fun p hp=>?_,r.kq,r.hq,r.hq0,r.nf,hl⟩
 have h:=r.pd p hp
 cases p with
 | v v d=>exact ThV.mv mv0 h
 | n a o=>exact⟨lo a h.1 (by rw[h.2.2];exact fun q=>nomatch q),h.2⟩
 | s vs ds=>exact ThVs.mv mv0 h
 | o c as dss=>exact⟨h.1,h.2.mv mv0 fun b o g e=>⟨⟨c2 b c g.1,g.2⟩,e⟩⟩
 | w v d=>exact h
theorem RelC.freeze {i:Nat} {ds:List PyData} (r:RelC C col ρ σ P H) (e:ρ[i]?=some (.ow ds)) :
  ∃a,(σ[i]?).join=some (.ref a)∧Rel C (ρ.set i (.sh (.list ds))) σ (.v (.ref a) (.list ds)::P) H:=by
 obtain⟨a,vs,e1,c,n,e2,t⟩:=r.sl i _ e
 let col':Addr→Nat:=fun b=>if b=a then 0 else col b
 have ca:col' a=0:=if_pos rfl
 have cn:∀b,b≠a→col' b=col b:=fun b hb=>if_neg hb
 have z:∀b,col b=0→col' b=0:=fun b hb=>by
  by_cases q:b=a
  ·rw[q];exact ca
  ·rw[cn b q];exact hb
 have mv0:∀b o,Z col b→H b=some o→Z col' b∧H b=some o:=fun b o zz e=>⟨z b zz,e⟩
 have T:ThV (Z col') H (.ref a) (.list ds):=.lst ca e2 (t.mv mv0)
 have R:RelC C col' (ρ.set i (.sh (.list ds))) σ P H:=by
  refine r.recol (by rw[List.length_set];exact r.len) (fun b hb=>z b (r.fresh b hb)) (fun b hb=>?_) (fun q hq=>?_) (fun b hb _=>z b hb) (fun b hb _=>?_) (fun b c2 hb=>by rw[cn b (fun q=>by rw[q] at hb;lia)];exact hb) fun j s es=>?_
  ·by_cases q:b=a
   ·rw[q];exact r.nf.1 a n
   ·rw[cn b q] at hb;exact r.inF b hb
  ·rw[cn _ fun q'=>by have:=r.hnd q hq;rw[q'] at this;lia];exact r.hnd q hq
  ·by_cases q:b=a
   ·rw[q,ca];lia
   ·rw[cn b q];exact hb
  ·by_cases hj:j=i
   ·subst hj
    rw[List.getElem?_set] at es
    simp only[if_true] at es
    split at es
    ·cases es;exact⟨_,e1,T⟩
    ·cases es
   ·rw[List.getElem?_set_ne (Ne.symm hj)] at es
    have h:=r.sl j s es
    cases s with
    | no=>trivial
    | sh d=>obtain⟨v,e1,t⟩:=h;exact⟨v,e1,t.mv mv0⟩
    | ow ds=>obtain⟨a',vs',e1',c',n',e2',t'⟩:=h;exact⟨a',vs',e1',by rw[cn a' (fun q=>by rw[q] at c';lia)];exact c',n',e2',t'.mv mv0⟩
    | bo ds=>obtain⟨a',vs',e1',c',n',e2',t'⟩:=h;exact⟨a',vs',e1',by by_cases q:a'=a;{ rw[q,ca];lia };{ rw[cn a' q];exact c' },n',e2',t'.mv mv0⟩
    | hd=>exact h
    | o2 dss=>obtain⟨a',as',e1',c',e2',nd',t'⟩:=h;exact⟨a',as',e1',⟨by rw[cn a' (fun q=>by rw[q] at c';lia)];exact c'.1,c'.2⟩,e2',nd',t'.mv mv0 fun b o g e=>⟨⟨by rw[cn b (fun q=>by have:=g.1;rw[q] at this;lia)];exact g.1,g.2⟩,e⟩⟩
    | b2 dss=>obtain⟨a',as',e1',c',e2',t'⟩:=h;exact⟨a',as',e1',⟨by by_cases q:a'=a;{ rw[q,ca];lia };{ rw[cn a' q];exact c'.1 },c'.2⟩,e2',t'.mv mv0 fun b o g e=>⟨⟨by by_cases q:b=a;{ rw[q,ca];lia };{ rw[cn b q];exact g.1 },g.2⟩,e⟩⟩
    | di f ks=>obtain⟨a',e1',c',n',e2'⟩:=h;exact⟨a',e1',by rw[cn a' (fun q=>by rw[q] at c';lia)];exact c',n',e2'⟩
    | dm f ks=>obtain⟨a',e1',c',n',e2'⟩:=h;exact⟨a',e1',by rw[cn a' (fun q=>by rw[q] at c';lia)];exact c',n',e2'⟩
    | bd d=>exact h
    | ot d=>obtain⟨v,e1',t'⟩:=h;exact⟨v,e1',t'.mv fun b o g e=>⟨g.imp (fun g=>⟨by rw[cn b (fun q=>by rw[q] at g;have:=g.1;lia)];exact g.1,g.2⟩) fun g=>⟨z b g.1,g.2⟩,e⟩⟩
    | ob R=>obtain⟨v,e1',t'⟩:=h;exact⟨v,e1',R.mv (fun b o g e=>⟨g.imp (fun g=>⟨by rw[cn b (fun q=>by rw[q] at g;have:=g.1;lia)];exact g.1,g.2⟩) fun g=>⟨z b g.1,g.2⟩,e⟩) t'⟩
 exact⟨a,e1,col',R.push T⟩
theorem RelC.store {i:Nat} (r:RelC C col ρ σ P H) (t:ThV (Z col) H v d):RelC C col (ρ.set i (.sh d)) (σ.set i (some v)) P H:=by
 refine { r with sl:=fun j s es=>?_,len:=by rw[List.length_set,List.length_set];exact r.len }
 by_cases hj:j=i
 ·subst hj
  rw[List.getElem?_set] at es
  simp only[if_true] at es
  split at es
  ·rename_i hl
   cases es
   refine⟨v,?_,t⟩
   rw[List.getElem?_set,if_pos rfl,if_pos (by rw[←r.len];exact hl)];rfl
  ·cases es
 ·rw[List.getElem?_set_ne (Ne.symm hj)] at es
  rw[List.getElem?_set_ne (Ne.symm hj)]
  exact r.sl j s es
theorem RelC.own {i:Nat} {vs:List V} {ds:List PyData} (r:RelC C col ρ σ P H) (t:ThVs (Z col) H vs ds) (hp:H p=none):Rel C (ρ.set i (.ow ds)) (σ.set i (some (.ref p))) P (upd H p (.lst vs)):=by
 let col':Addr→Nat:=fun b=>if b=p then 2 * i + 3 else col b
 have ca:col' p=2 * i + 3:=if_pos rfl
 have cn:∀b,b≠p→col' b=col b:=fun b hb=>if_neg hb
 have ne:∀b,H b≠none→b≠p:=fun b hb q=>hb (q▸hp)
 have mv0:∀b o,Z col b→H b=some o→Z col' b∧upd H p (.lst vs) b=some o:=fun b o zz e=>by
  have q:=ne b (by rw[e];exact fun q=>nomatch q)
  exact⟨(cn b q).trans zz,by rw[upd_ne q];exact e⟩
 have r1:=r.lay (o:=.lst vs) hp
 have c0:C.H0 p=none:=r.kq.fr r.hq hp
 refine⟨col',fun b hb=>?_,fun b hb=>?_,fun q hq=>?_,fun j s es=>?_,fun x hx=>?_,r1.kq,r1.hq,r.hq0,r.nf,by rw[List.length_set,List.length_set];exact r.len⟩
 ·have q:b≠p:=fun q=>by rw[q,upd_same] at hb;cases hb
  rw[cn b q];exact r1.fresh b hb
 ·have q:b≠p:=fun q=>by rw[q,ca] at hb;cases hb
  rw[cn b q] at hb;exact r.inF b hb
 ·obtain⟨o',e'⟩:=(r.hq q hq).at1
  rw[cn _ (ne _ (by rw[e'];exact fun q=>nomatch q))];exact r.hnd q hq
 ·by_cases hj:j=i
  ·subst hj
   rw[List.getElem?_set] at es
   simp only[if_true] at es
   split at es
   ·rename_i hl
    cases es
    exact⟨p,vs,by rw[List.getElem?_set,if_pos rfl,if_pos (by rw[←r.len];exact hl)];rfl,ca,c0,upd_same,t.mv mv0⟩
   ·cases es
  ·rw[List.getElem?_set_ne (Ne.symm hj)] at es
   rw[List.getElem?_set_ne (Ne.symm hj)]
   have h:=r.sl j s es
   cases s with
   | no=>trivial
   | sh d=>obtain⟨v,e1,t⟩:=h;exact⟨v,e1,t.mv mv0⟩
   | ow ds=>
    obtain⟨a',vs',e1',c',n',e2',t'⟩:=h
    have q:=ne a' (by rw[e2'];exact fun q=>nomatch q)
    exact⟨a',vs',e1',by rw[cn a' q];exact c',n',by rw[upd_ne q];exact e2',t'.mv mv0⟩
   | bo ds=>
    obtain⟨a',vs',e1',c',n',e2',t'⟩:=h
    have q:=ne a' (by rw[e2'];exact fun q=>nomatch q)
    exact⟨a',vs',e1',by rw[cn a' q];exact c',n',by rw[upd_ne q];exact e2',t'.mv mv0⟩
   | hd=>exact h
   | o2 dss=>
    obtain⟨a',as',e1',c',e2',nd',t'⟩:=h
    have q:=ne a' (by rw[e2'];exact fun q=>nomatch q)
    exact⟨a',as',e1',⟨by rw[cn a' q];exact c'.1,c'.2⟩,by rw[upd_ne q];exact e2',nd',t'.mv mv0 fun b o g e=>by
     have q:=ne b (by rw[e];exact fun q=>nomatch q)
     exact⟨⟨by rw[cn b q];exact g.1,g.2⟩,by rw[upd_ne q];exact e⟩⟩
   | b2 dss=>
    obtain⟨a',as',e1',c',e2',t'⟩:=h
    have q:=ne a' (by rw[e2'];exact fun q=>nomatch q)
    exact⟨a',as',e1',⟨by rw[cn a' q];exact c'.1,c'.2⟩,by rw[upd_ne q];exact e2',t'.mv mv0 fun b o g e=>by
     have q:=ne b (by rw[e];exact fun q=>nomatch q)
     exact⟨⟨by rw[cn b q];exact g.1,g.2⟩,by rw[upd_ne q];exact e⟩⟩
   | di f ks=>
    obtain⟨a',e1',c',n',e2'⟩:=h
    have q:=ne a' e2'.ne
    exact⟨a',e1',by rw[cn a' q];exact c',n',e2'.mv fun o e=>by rw[upd_ne q];exact e⟩
   | dm f ks=>
    obtain⟨a',e1',c',n',e2'⟩:=h
    have q:=ne a' e2'.ne
    exact⟨a',e1',by rw[cn a' q];exact c',n',e2'.mv fun o e=>by rw[upd_ne q];exact e⟩
   | bd d=>exact h
   | ot d=>
    obtain⟨v,e1',t'⟩:=h
    exact⟨v,e1',t'.mv fun b o g e=>by
     have q:=ne b (by rw[e];exact fun q=>nomatch q)
     exact⟨g.imp (fun g=>⟨by rw[cn b q];exact g.1,g.2⟩) fun g=>⟨by rw[cn b q];exact g.1,by rw[upd_ne q];exact g.2⟩,by rw[upd_ne q];exact e⟩⟩
   | ob R=>
    obtain⟨v,e1',t'⟩:=h
    exact⟨v,e1',R.mv (fun b o g e=>by
     have q:=ne b (by rw[e];exact fun q=>nomatch q)
     exact⟨g.imp (fun g=>⟨by rw[cn b q];exact g.1,g.2⟩) fun g=>⟨by rw[cn b q];exact g.1,by rw[upd_ne q];exact g.2⟩,by rw[upd_ne q];exact e⟩) t'⟩
 ·have h:=r.pd x hx
  cases x with
  | v v d=>exact ThV.mv mv0 h
  | n a o=>
   have q:=ne a (by rw[h.2.2];exact fun q=>nomatch q)
   exact⟨by rw[cn a q];exact h.1,h.2.1,by rw[upd_ne q];exact h.2.2⟩
  | s vs ds=>exact ThVs.mv mv0 h
  | o c as dss=>exact⟨h.1,h.2.mv mv0 fun b o g e=>by
    have q:=ne b (by rw[e];exact fun q=>nomatch q)
    exact⟨⟨by rw[cn b q];exact g.1,g.2⟩,by rw[upd_ne q];exact e⟩⟩
  | w v d=>exact h
theorem RelC.write {i:Nat} {a:Addr} {ws:List V} {ds es:List PyData} (r:RelC C col ρ σ P H) (e:ρ[i]?=some (.ow ds)) (ea:(σ[i]?).join=some (.ref a)) (t:ThVs (Z col) H ws es) :
  RelC C col (ρ.set i (.ow es)) σ P (upd H a (.lst ws)):=by
 obtain⟨a',vs',e1,c,n,e2,_⟩:=r.sl i _ e
 rw[e1] at ea
 cases ea
 have ne:∀b,col b≠2 * i + 3→b≠a:=fun b hb q=>hb (q▸c)
 have mv0:∀b o,Z col b→H b=some o→Z col b∧upd H a (.lst ws) b=some o:=fun b o zz e=>⟨zz,by rw[upd_ne (ne b (by rw[show col b=0 from zz];lia))];exact e⟩
 refine⟨fun b hb=>?_,r.inF,r.hnd,fun j s es'=>?_,fun x hx=>?_,fun b o e q=>?_,fun q hq=>?_,r.hq0,r.nf,by rw[List.length_set];exact r.len⟩
 ·by_cases q:b=a
  ·rw[q,upd_same] at hb;cases hb
  ·rw[upd_ne q] at hb;exact r.fresh b hb
 ·by_cases hj:j=i
  ·subst hj
   rw[List.getElem?_set] at es'
   simp only[if_true] at es'
   split at es'
   ·cases es'
    exact⟨a,ws,e1,c,n,upd_same,t.mv mv0⟩
   ·cases es'
  ·rw[List.getElem?_set_ne (Ne.symm hj)] at es'
   have h:=r.sl j s es'
   cases s with
   | no=>trivial
   | sh d=>obtain⟨v,e1,t⟩:=h;exact⟨v,e1,t.mv mv0⟩
   | ow ds=>
    obtain⟨a',vs',e1',c',n',e2',t'⟩:=h
    exact⟨a',vs',e1',c',n',by rw[upd_ne (ne a' (by lia))];exact e2',t'.mv mv0⟩
   | bo ds=>
    obtain⟨a',vs',e1',c',n',e2',t'⟩:=h
    exact⟨a',vs',e1',c',n',by rw[upd_ne (ne a' (by lia))];exact e2',t'.mv mv0⟩
   | hd=>exact h
   | o2 dss=>
    obtain⟨a',as',e1',c',e2',nd',t'⟩:=h
    exact⟨a',as',e1',c',by rw[upd_ne (ne a' (by lia))];exact e2',nd',t'.mv mv0 fun b o g e=>⟨g,by rw[upd_ne (ne b (by have:=g.1;lia))];exact e⟩⟩
   | b2 dss=>
    obtain⟨a',as',e1',c',e2',t'⟩:=h
    exact⟨a',as',e1',c',by rw[upd_ne (ne a' (by have:=c'.1;lia))];exact e2',t'.mv mv0 fun b o g e=>⟨g,by rw[upd_ne (ne b (by have:=g.1;lia))];exact e⟩⟩
   | di f ks=>
    obtain⟨a',e1',c',n',e2'⟩:=h
    exact⟨a',e1',c',n',e2'.mv fun o e=>by rw[upd_ne (ne a' (by lia))];exact e⟩
   | dm f ks=>
    obtain⟨a',e1',c',n',e2'⟩:=h
    exact⟨a',e1',c',n',e2'.mv fun o e=>by rw[upd_ne (ne a' (by lia))];exact e⟩
   | bd d=>exact h
   | ot d=>
    obtain⟨v,e1',t'⟩:=h
    exact⟨v,e1',t'.mv fun b o g e=>by
     have q:=ne b (by rcases g with g | g <;> (have:=g.1;lia))
     exact⟨g.imp id fun g=>⟨g.1,by rw[upd_ne q];exact g.2⟩,by rw[upd_ne q];exact e⟩⟩
   | ob R=>
    obtain⟨v,e1',t'⟩:=h
    exact⟨v,e1',R.mv (fun b o g e=>by
     have q:=ne b (by rcases g with g | g <;> (have:=g.1;lia))
     exact⟨g.imp id fun g=>⟨g.1,by rw[upd_ne q];exact g.2⟩,by rw[upd_ne q];exact e⟩) t'⟩
 ·have h:=r.pd x hx
  cases x with
  | v v d=>exact ThV.mv mv0 h
  | n b o=>exact⟨h.1,h.2.1,by rw[upd_ne (ne b (by have:=h.1;lia))];exact h.2.2⟩
  | s vs ds=>exact ThVs.mv mv0 h
  | o c as dss=>exact⟨h.1,h.2.mv mv0 fun b o g e=>⟨g,by rw[upd_ne (ne b (by have:=g.1;lia))];exact e⟩⟩
  | w v d=>exact h
 ·have z:=r.kq b o e q
  have q':b≠a:=fun q'=>by rw[q',n] at e;cases e
  rw[upd_ne q'];exact z
 ·obtain⟨o1,h1⟩:=(r.hq0 q hq).at1
  obtain⟨o2,h2⟩:=(r.hq0 q hq).at2
  exact (r.hq q hq).wr (fun z=>by rw[←z,n] at h1;cases h1) (fun z=>by rw[←z,n] at h2;cases h2)
end
open Classical in
theorem RelC.norm {C:DC} {col:Addr→Nat} {ρ:List Sl} {σ:St} {P:List Pe} {H:Hp} (r:RelC C col ρ σ P H):∃col',RelC C col' ρ σ P H∧∀b xs,H b=some (.tup xs)→col' b=0:=by
 let col':Addr→Nat:=fun b=>if ∃xs,H b=some (.tup xs) then 0 else col b
 have ct:∀b xs,H b=some (.tup xs)→col' b=0:=fun b xs e=>if_pos ⟨xs,e⟩
 have cn:∀b,(∀xs,H b≠some (.tup xs))→col' b=col b:=fun b h=>if_neg fun ⟨xs,e⟩=>h xs e
 have hl:∀b ys,H b=some (.lst ys)→col' b=col b:=fun b ys e=>cn b fun xs z=>by rw[e] at z;cases z
 have hd:∀q,C.hand=some q→∀xs,H q.1≠some (.tup xs):=fun q hq xs z=>by
  obtain⟨_,_,_,_,_,_,_,_,e⟩:=r.hq q hq
  rw[e] at z;cases z
 have z0:∀b,col b=0→col' b=0:=fun b hb=>by
  by_cases h:∃xs,H b=some (.tup xs)
  ·exact if_pos h
  ·exact (if_neg h).trans hb
 have lo:∀b,col b≤1→col' b≤1:=fun b hb=>by
  by_cases h:∃xs,H b=some (.tup xs)
  ·rw[show col' b=0 from if_pos h];lia
  ·rw[show col' b=col b from if_neg h];exact hb
 have mv0:∀b o,Z col b→H b=some o→Z col' b∧H b=some o:=fun b o zz e=>⟨z0 b zz,e⟩
 refine⟨col',⟨fun b e=>z0 b (r.fresh b e),fun b hb=>?_,fun q hq=>(cn _ (hd q hq)).trans (r.hnd q hq),fun i s e=>?_,fun p hp=>?_,r.kq,r.hq,r.hq0,r.nf,r.len⟩,ct⟩
 ·by_cases h:∃xs,H b=some (.tup xs)
  ·obtain⟨xs,h⟩:=h
   cases q:C.H0 b with
   | none=>exact r.nf.1 b q
   | some o=>
    have:=r.kq b o q fun p hp e=>hd p hp xs (e▸h)
    rw[this] at h
    cases h
    exact r.nf.2 b xs q
  ·rw[show col' b=col b from if_neg h] at hb;exact r.inF b hb
 ·have h:=r.sl i s e
  cases s with
  | no=>trivial
  | sh d=>obtain⟨v,e1,t⟩:=h;exact⟨v,e1,t.mv mv0⟩
  | ow ds=>obtain⟨a,vs,e1,c,n,e2,t⟩:=h;exact⟨a,vs,e1,(hl a _ e2).trans c,n,e2,t.mv mv0⟩
  | bo ds=>obtain⟨a,vs,e1,c,n,e2,t⟩:=h;exact⟨a,vs,e1,lo a c,n,e2,t.mv mv0⟩
  | hd=>exact h
  | o2 dss=>obtain⟨a,as,e1,c,e2,nd,t⟩:=h;exact⟨a,as,e1,⟨(hl a _ e2).trans c.1,c.2⟩,e2,nd,t.mvl mv0 fun b ys g e=>⟨⟨(hl b _ e).trans g.1,g.2⟩,e⟩⟩
  | b2 dss=>obtain⟨a,as,e1,c,e2,t⟩:=h;exact⟨a,as,e1,⟨lo a c.1,c.2⟩,e2,t.mvl mv0 fun b ys g e=>⟨⟨lo b g.1,g.2⟩,e⟩⟩
  | di f ks=>
   obtain⟨a,e1,c,n,e2⟩:=h
   refine⟨a,e1,(cn a fun xs z=>?_).trans c,n,e2⟩
   cases f with
   | false=>rw[show H a=_ from e2] at z;cases z
   | true=>obtain⟨o,e2⟩:=e2;rw[e2] at z;cases z
  | dm f ks=>
   obtain⟨a,e1,c,n,e2⟩:=h
   refine⟨a,e1,(cn a fun xs z=>?_).trans c,n,e2⟩
   cases f with
   | false=>rw[show H a=_ from e2] at z;cases z
   | true=>obtain⟨o,e2⟩:=e2;rw[e2] at z;cases z
  | bd d=>exact h
  | ot d=>
   obtain⟨v,e1,t⟩:=h
   refine⟨v,e1,t.mv fun b o g e=>⟨?_,e⟩⟩
   by_cases q:∃xs,H b=some (.tup xs)
   ·obtain⟨xs,q⟩:=q
    exact .inr ⟨ct b xs q,xs,q⟩
   ·rcases g with g | g
    ·exact .inl ⟨(if_neg q).trans g.1,g.2⟩
    ·exact absurd g.2 q
  | ob R=>
   obtain⟨v,e1,t⟩:=h
   refine⟨v,e1,R.mv (fun b o g e=>⟨?_,e⟩) t⟩
   by_cases q:∃xs,H b=some (.tup xs)
   ·obtain⟨xs,q⟩:=q
    exact .inr ⟨ct b xs q,xs,q⟩
   ·rcases g with g | g
    ·exact .inl ⟨(if_neg q).trans g.1,g.2⟩
    ·exact absurd g.2 q
 ·have h:=r.pd p hp
  cases p with
  | v v d=>exact ThV.mv mv0 h
  | n a o=>exact⟨lo a h.1,h.2⟩
  | s vs ds=>exact ThVs.mv mv0 h
  | o c as dss=>exact⟨h.1,h.2.mvl mv0 fun b ys g e=>⟨⟨(hl b _ e).trans g.1,g.2⟩,e⟩⟩
  | w v d=>exact h
inductive Pds (P:List Pe):List V→List PyData→Prop
 | nil:Pds P [] []
 | cons {v d vs ds}:Pe.v v d∈P→Pds P vs ds→Pds P (v::vs) (d::ds)
theorem Pds.th {C:DC} {col:Addr→Nat} {ρ:List Sl} {σ:St} {P:List Pe} {H:Hp} (r:RelC C col ρ σ P H):∀{vs:List V} {ds:List PyData},Pds P vs ds→ThVs (Z col) H vs ds
 | _,_,.nil=>.nil
 | _,_,.cons h t=>.cons (r.pd _ h) (Pds.th r t)
abbrev DE:=List Sl→(PyData→List Sl→Prop)→Prop
abbrev DT:=List Sl→(Bool→List Sl→Prop)→Prop
abbrev DF:=List Sl→(List PyData→List Sl→Prop)→Prop
def eOf (C:DC) (t:DE):TE:=fun σ H Q=>∃ρ P Qd,Rel C ρ σ P H∧t ρ Qd∧∀v d ρ' H',Rel C ρ' σ (.v v d::P) H'→Qd d ρ'→Q v H'
def cOf (C:DC) (t:DT):TT:=fun σ H Q=>∃ρ P Qd,Rel C ρ σ P H∧t ρ Qd∧∀b ρ' H',Rel C ρ' σ P H'→Qd b ρ'→Q b H'
def fOf (C:DC) (t:DF):TE:=fun σ H Q=>∃ρ P Qd,Rel C ρ σ P H∧t ρ Qd∧∀p vs ds ρ' H1,(∃col,RelC C col ρ' σ P H1∧ThVs (Z col) H1 vs ds)→H1 p=none→Qd ds ρ'→Q (.ref p) (upd H1 p (.lst vs))
def vOf (C:DC) (t:DF):TA:=fun σ H Q=>∃ρ P Qd,Rel C ρ σ P H∧t ρ Qd∧∀vs ds ρ' P' H',Rel C ρ' σ P' H'→(∀p∈P,p∈P')→Pds P' vs ds→Qd ds ρ'→Q vs H'
def bnd {α:Type} (o:Option α) (Q:α→Prop):Prop:=match o with
 | some a=>Q a
 | none=>False
theorem bnd_of {α:Type} {o:Option α} {Q:α→Prop} (h:bnd o Q):∃a,o=some a∧Q a:=by
 cases o with
 | none=>exact h.elim
 | some a=>exact⟨a,rfl,h⟩
section
variable {X:Cx} {C:DC}
theorem PE.wk {e:Expr} {t t':TE} (h:PE X e t) (f:∀σ H Q,t' σ H Q→t σ H Q):PE X e t':=fun pins s σ H Q I q=>h pins s σ H Q I (f σ H Q q)
theorem PT.wk {e:Expr} {t t':TT} (h:PT X e t) (f:∀σ H Q,t' σ H Q→t σ H Q):PT X e t':=fun pins s σ H Q I q=>h pins s σ H Q I (f σ H Q q)
theorem PW.wk {e:Expr} {t t':TT} (h:PW X e t) (f:∀σ H Q,t' σ H Q→t σ H Q):PW X e t':=fun wh pins s σ H Q I q=>h wh pins s σ H Q I (f σ H Q q)
theorem PA.wk {es:List Expr} {t t':TA} (h:PA X es t) (f:∀σ H Q,t' σ H Q→t σ H Q):PA X es t':=fun pos pins s σ H Q I q=>h pos pins s σ H Q I (f σ H Q q)
theorem PO.wk {e:Option Expr} {t t':TO} (h:PO X e t) (f:∀σ H Q,t' σ H Q→t σ H Q):PO X e t':=fun pins s σ H Q I q=>h pins s σ H Q I (f σ H Q q)
def dC (d:PyData)  (ρ:List Sl) (Q:PyData→List Sl→Prop):Prop:=Q d ρ
theorem pd_c {e:Expr} {v:V} {d:PyData} (h:PE X e (tC v)) (t:∀F H,ThV F H v d):PE X e (eOf C (dC d)):=PE.wk h fun _ _ _ zz1=>el3 zz1 fun _ _ _ zz2 ht k=>zz2.elim fun col r=>k _ _ _ _ ⟨col,r.push (t _ _)⟩ ht
theorem pd_int {i j pos}:PE X (.Constant (.int i) j pos) (eOf C (dC (.int i))):=pd_c pe_int fun _ _=>.int i
theorem pd_bl {b j pos}:PE X (.Constant (.bool b) j pos) (eOf C (dC (.bool b))):=pd_c pe_bl fun _ _=>.bl b
theorem pd_non {j pos}:PE X (.Constant .none j pos) (eOf C (dC .none)):=pd_c pe_non fun _ _=>.non
theorem pd_gi {e:Expr} {i:Int} (h:PE X e (tC (.int i))):PE X e (eOf C (dC (.int i))):=pd_c h fun _ _=>.int i
theorem join_some {α:Type} {o:Option (Option α)} {v:α} (h:o.join=some v):o=some (some v):=by
 cases o with
 | none=>cases h
 | some q=>exact congrArg some h
def dVar (i:Nat)  (ρ:List Sl) (Q:PyData→List Sl→Prop):Prop:=match ρ[i]? with
 | some (.sh d)=>Q d ρ
 | some (.ow ds)=>Q (.list ds) (ρ.set i (.sh (.list ds)))
 | _=>False
theorem pd_var {e:Expr} {i:Nat} (h:PE X e (tVar i)):PE X e (eOf C (dVar i)):=PE.wk h fun σ H Q zz3=>el3 zz3 fun ρ P Qd zz4 ht k=>zz4.elim fun col r=>by
 unfold dVar at ht
 split at ht
 ·rename_i d e
  obtain⟨v,e1,t⟩:=r.sl i _ e
  exact⟨v,join_some e1,k _ _ _ _ ⟨col,r.push t⟩ ht⟩
 ·rename_i ds e
  obtain⟨a,e1,R⟩:=r.freeze e
  exact⟨_,join_some e1,k _ _ _ _ R ht⟩
 ·exact ht.elim
def slotD (ρ:List Sl) (i:Nat):Option PyData:=match ρ[i]? with
 | some (.sh d)=>some d
 | some (.ow ds)=>some (.list ds)
 | some (.bo ds)=>some (.list ds)
 | _=>none
inductive Red (col:Addr→Nat) (H:Hp):V→PyData→Prop
 | th {v d}:ThV (Z col) H v d→Red col H v d
 | ls {a vs ds}:H a=some (.lst vs)→ThVs (Z col) H vs ds→Red col H (.ref a) (.list ds)
theorem RelC.slot {col:Addr→Nat} {ρ:List Sl} {σ:St} {P:List Pe} {H:Hp} (r:RelC C col ρ σ P H) {i:Nat} {d:PyData} (h:slotD ρ i=some d):∃v,σ[i]?=some (some v)∧Red col H v d:=by
 unfold slotD at h
 split at h
 ·rename_i d' e
  cases h
  obtain⟨v,e1,t⟩:=r.sl i _ e
  exact⟨v,join_some e1,.th t⟩
 ·rename_i ds e
  cases h
  obtain⟨a,vs,e1,_,_,e2,t⟩:=r.sl i _ e
  exact⟨_,join_some e1,.ls e2 t⟩
 ·rename_i ds e
  cases h
  obtain⟨a,vs,e1,_,_,e2,t⟩:=r.sl i _ e
  exact⟨_,join_some e1,.ls e2 t⟩
 ·cases h
theorem Red.lst {col:Addr→Nat} {H:Hp} {v:V} {ds:List PyData} (h:Red col H v (.list ds)):∃a vs,v=.ref a∧H a=some (.lst vs)∧ThVs (Z col) H vs ds:=by
 cases h with
 | th t=>cases t with
  | lst _ e t=>exact⟨_,_,rfl,e,t⟩
 | ls e t=>exact⟨_,_,rfl,e,t⟩
theorem Red.tup {col:Addr→Nat} {H:Hp} {v:V} {ds:List PyData} (h:Red col H v (.tuple ds)):∃a vs,v=.ref a∧H a=some (.tup vs)∧ThVs (Z col) H vs ds:=by
 cases h with
 | th t=>cases t with
  | tup _ e t=>exact⟨_,_,rfl,e,t⟩
abbrev G2:=PyData→PyData→(PyData→Prop)→Prop
def OpOk (C:DC) (r:R2) (g:G2):Prop:=
 ∀{ρ:List Sl} {σ:St} {P:List Pe} {H:Hp} {v w:V} {a b:PyData} {Qd:PyData→Prop} {Q:VK},Rel C ρ σ (.v w b::.v v a::P) H→g a b Qd→(∀u d H',Rel C ρ σ (.v u d::P) H'→Qd d→Q u H')→r v w H Q
def dOp (g:G2) (ta tb:DE)  (ρ:List Sl) (Q:PyData→List Sl→Prop):Prop:=ta ρ fun a ρ1=>tb ρ1 fun b ρ2=>g a b fun d=>Q d ρ2
theorem dOp_rd {r:R2} {g:G2} {ta tb:DE} (hg:OpOk C r g) {σ:St} {H:Hp} {Q:VK} (h:eOf C (dOp g ta tb) σ H Q):tOp r (eOf C ta) (eOf C tb) σ H Q:=by
 obtain⟨ρ,P,Qd,R,ht,k⟩:=h
 exact⟨ρ,P,_,R,ht,fun v a ρ1 H1 R1 h1=>⟨ρ1,_,_,R1,h1,fun w b ρ2 H2 R2 h2=>hg R2 h2 fun u d H' R' q=>k u d ρ2 H' R' q⟩⟩
variable {a b:Expr} {ta tb:DE} {pos:Pos}
theorem pd_op {op:Operator} {r:R2} {g:G2} (ho:OpR X (binaryOp op) r) (hg:OpOk C r g) (ha:PE X a (eOf C ta)) (hb:PE X b (eOf C tb)):PE X (.BinOp a op b pos) (eOf C (dOp g ta tb)):=PE.wk (pe_op ho ha hb) fun _ _ _ h=>dOp_rd hg h
theorem pd_cmp {op:CmpOp} {r:R2} {g:G2} (ho:OpR X (compareOp op) r) (hg:OpOk C r g) (ha:PE X a (eOf C ta)) (hb:PE X b (eOf C tb)) (hm:behindInMarks op b=false):PE X (.Compare a [op] [b] pos) (eOf C (dOp g ta tb)):=PE.wk (pe_cmpR ho ha hb hm) fun _ _ _ h=>dOp_rd hg h
def dT (t:DE)  (ρ:List Sl) (Q:Bool→List Sl→Prop):Prop:=t ρ fun d ρ'=>match d with
 | .bool b=>Q b ρ'
 | _=>False
theorem dT_rd {t:DE} {σ:St} {H:Hp} {Q:Bool→Hp→Prop} (h:cOf C (dT t) σ H Q):eOf C t σ H fun x H'=>∃k,x=.bl k∧Q k H':=by
 obtain⟨ρ,P,Qd,R,ht,k⟩:=h
 refine⟨ρ,P,_,R,ht,fun v d ρ' H' R' q=>?_⟩
 split at q
 ·obtain⟨col,r⟩:=R'
  have t:=r.pd _ List.mem_cons_self
  cases (show ThV (Z col) H' v (.bool _) from t)
  exact⟨_,rfl,k _ _ _ (Rel.pop ⟨col,r⟩) q⟩
 ·exact q.elim
theorem pdt_val {e:Expr} {t:DE} (h:PE X e (eOf C t)) (he:∀whole,isTrue e X.env whole=(do let v ←whole;standAt e.pos;holding [v] (truthy v)):=by intro _;rfl):PT X e (cOf C (dT t)):=PT.wk (pt_val h he) fun _ _ _ h=>dT_rd h
theorem pdt_cmp {op:CmpOp} {r:R2} {g:G2} (ho:OpR X (compareOp op) r) (hg:OpOk C r g) (ha:PE X a (eOf C ta)) (hb:PE X b (eOf C tb)) (hm:behindInMarks op b=false):PT X (.Compare a [op] [b] pos) (cOf C (dT (dOp g ta tb))):=
 PT.wk (pt_cmpR ho ha hb hm) fun σ H Q h=>dOp_rd hg (dT_rd h)
def dNot (t:DT)  (ρ:List Sl) (Q:Bool→List Sl→Prop):Prop:=t ρ fun b ρ'=>Q (!b) ρ'
theorem pdt_not {t:DT} (h:PT X a (cOf C t)):PT X (.UnaryOp .Not a pos) (cOf C (dNot t)):=PT.wk (pt_not h) fun _ _ _ zz5=>el3 zz5 fun ρ P _ R ht k=>⟨ρ,P,_,R,ht,fun b ρ' H' R' q=>k _ _ _ R' q⟩
def dAnd (t u:DT)  (ρ:List Sl) (Q:Bool→List Sl→Prop):Prop:=t ρ fun b ρ'=>if b=true then u ρ' Q else Q false ρ'
def dOr (t u:DT)  (ρ:List Sl) (Q:Bool→List Sl→Prop):Prop:=t ρ fun b ρ'=>if b=true then Q true ρ' else u ρ' Q
variable {t u:DT} {rest:List Expr}
theorem pwd_and1 (h:PT X a (cOf C t)):PW X (.BoolOp .And [a] pos) (cOf C t):=pw_and1 h
theorem pwd_or1 (h:PT X a (cOf C t)):PW X (.BoolOp .Or [a] pos) (cOf C t):=pw_or1 h
theorem pwd_and (ha:PT X a (cOf C t)) (hb:PW X (.BoolOp .And (b::rest) pos) (cOf C u)):PW X (.BoolOp .And (a::b::rest) pos) (cOf C (dAnd t u)):=PW.wk (pw_and ha hb) fun _ _ _ zz6=>el3 zz6 fun ρ P Qd R ht k=>
 ⟨ρ,P,_,R,ht,fun b ρ' H' R' q=>by
  cases b with
  | true=>exact⟨ρ',P,Qd,R',by simpa using q,k⟩
  | false=>exact k _ _ _ R' (by simpa using q)⟩
theorem pwd_or (ha:PT X a (cOf C t)) (hb:PW X (.BoolOp .Or (b::rest) pos) (cOf C u)):PW X (.BoolOp .Or (a::b::rest) pos) (cOf C (dOr t u)):=PW.wk (pw_or ha hb) fun _ _ _ zz7=>el3 zz7 fun ρ P Qd R ht k=>
 ⟨ρ,P,_,R,ht,fun b ρ' H' R' q=>by
  cases b with
  | true=>exact k _ _ _ R' (by simpa using q)
  | false=>exact⟨ρ',P,Qd,R',by simpa using q,k⟩⟩
def dBV (t:DE) (f:Bool→List Sl→Prop)  (ρ:List Sl):Prop:=t ρ fun d ρ'=>match d with
 | .bool b=>f b ρ'
 | _=>False
def dAndV (ta tb:DE)  (ρ:List Sl) (Q:PyData→List Sl→Prop):Prop:=dBV ta (fun b ρ'=>if b=true then tb ρ' Q else Q (.bool false) ρ') ρ
def dOrV (ta tb:DE)  (ρ:List Sl) (Q:PyData→List Sl→Prop):Prop:=dBV ta (fun b ρ'=>if b=true then Q (.bool true) ρ' else tb ρ' Q) ρ
def dNotV (ta:DE)  (ρ:List Sl) (Q:PyData→List Sl→Prop):Prop:=dBV ta (fun b ρ'=>Q (.bool (!b)) ρ') ρ
theorem dBV_rd {f:Bool→List Sl→Prop} {ρ:List Sl} {σ:St} {P:List Pe} {H:Hp} {Q:VK} (R:Rel C ρ σ P H) (ht:dBV ta f ρ) (k:∀c ρ' H',Rel C ρ' σ P H'→f c ρ'→Q (.bl c) H'):eOf C ta σ H Q:=by
 refine⟨ρ,P,_,R,ht,fun v d ρ' H' R' q=>?_⟩
 split at q
 ·obtain⟨col,r⟩:=R'
  have t:=r.pd _ List.mem_cons_self
  cases (show ThV (Z col) H' v (.bool _) from t)
  exact k _ _ _ (Rel.pop ⟨col,r⟩) q
 ·exact q.elim
theorem pd_one {op} (h:PE X a (eOf C ta)):PE X (.BoolOp op [a] pos) (eOf C ta):=pe_one h
theorem pd_and (ha:PE X a (eOf C ta)) (hb:PE X (.BoolOp .And (b::rest) pos) (eOf C tb)):PE X (.BoolOp .And (a::b::rest) pos) (eOf C (dAndV ta tb)):=PE.wk (pe_and ha hb) fun _ _ _ zz8=>el3 zz8 fun _ P Qd R ht k=>
 dBV_rd R ht fun c ρ' H' R' q=>⟨c,rfl,by
  cases c with
  | true=>exact iteT ⟨ρ',P,Qd,R',by simpa using q,k⟩
  | false=>
   obtain⟨col,r⟩:=R'
   exact iteF (k _ _ _ _ ⟨col,r.push (.bl false)⟩ (by simpa using q))⟩
theorem pd_or (ha:PE X a (eOf C ta)) (hb:PE X (.BoolOp .Or (b::rest) pos) (eOf C tb)):PE X (.BoolOp .Or (a::b::rest) pos) (eOf C (dOrV ta tb)):=PE.wk (pe_or ha hb) fun _ _ _ zz9=>el3 zz9 fun _ P Qd R ht k=>
 dBV_rd R ht fun c ρ' H' R' q=>⟨c,rfl,by
  cases c with
  | true=>
   obtain⟨col,r⟩:=R'
   exact iteT (k _ _ _ _ ⟨col,r.push (.bl true)⟩ (by simpa using q))
  | false=>exact iteF ⟨ρ',P,Qd,R',by simpa using q,k⟩⟩
theorem pd_not (ha:PE X a (eOf C ta)):PE X (.UnaryOp .Not a pos) (eOf C (dNotV ta)):=PE.wk (pe_not ha) fun _ _ _ zz10=>el3 zz10 fun _ _ _ R ht k=>
 dBV_rd R ht fun c ρ' H' zz11 q=>zz11.elim fun col r=>⟨c,rfl,k _ _ _ _ ⟨col,r.push (.bl _)⟩ q⟩
def dNeg (ta:DE)  (ρ:List Sl) (Q:PyData→List Sl→Prop):Prop:=ta ρ fun d ρ'=>match d with
 | .int i=>Q (.int (-i)) ρ'
 | _=>False
theorem pd_neg (ha:PE X a (eOf C ta)):PE X (.UnaryOp .USub a pos) (eOf C (dNeg ta)):=PE.wk (pe_un un_neg ha) fun _ _ _ zz12=>el3 zz12 fun ρ P _ R ht k=>⟨ρ,P,_,R,ht,fun v d ρ' H' R' q=>by
 split at q
 ·obtain⟨col,r⟩:=R'
  have t:=r.pd _ List.mem_cons_self
  cases (show ThV (Z col) H' v (.int _) from t)
  exact⟨_,rfl,k _ _ _ _ ⟨col,(r.sub fun _ h=>List.mem_cons_of_mem _ h).push (.int _)⟩ q⟩
 ·exact q.elim⟩
def dIf (c:DT) (ta tb:DE)  (ρ:List Sl) (Q:PyData→List Sl→Prop):Prop:=c ρ fun b ρ'=>if b=true then ta ρ' Q else tb ρ' Q
theorem pd_if {c:Expr} (hc:PT X c (cOf C t)) (ha:PE X a (eOf C ta)) (hb:PE X b (eOf C tb)):PE X (.IfExp c a b pos) (eOf C (dIf t ta tb)):=PE.wk (pe_ifExp hc ha hb) fun _ _ _ zz13=>el3 zz13 fun ρ P Qd R ht k=>
 ⟨ρ,P,_,R,ht,fun b ρ' H' R' q=>by
  cases b with
  | true=>exact iteT ⟨ρ',P,Qd,R',by simpa using q,k⟩
  | false=>exact iteF ⟨ρ',P,Qd,R',by simpa using q,k⟩⟩
def dChain (g g':G2) (ta tb tc:DE)  (ρ:List Sl) (Q:PyData→List Sl→Prop):Prop:=ta ρ fun a ρ1=>tb ρ1 fun b ρ2=>g a b fun z=>match z with
 | .bool k=>if k=true then tc ρ2 fun c ρ3=>g' b c fun d=>Q d ρ3 else Q (.bool false) ρ2
 | _=>False
end
def gI (c:Int→Int→Prop) (f:Int→Int→PyData)  (a b:PyData) (Q:PyData→Prop):Prop:=match a,b with
 | .int i,.int j=>c i j∧Q (f i j)
 | _,_=>False
def gI0 (f:Int→Int→PyData)  (a b:PyData) (Q:PyData→Prop):Prop:=match a,b with
 | .int i,.int j=>Q (f i j)
 | _,_=>False
section
variable {C:DC} {X:Cx}
theorem th2 {ρ:List Sl} {σ:St} {P:List Pe} {H:Hp} {v w:V} {a b:PyData} (r:Rel C ρ σ (.v w b::.v v a::P) H):∃col,RelC C col ρ σ P H∧ThV (Z col) H v a∧ThV (Z col) H w b:=by
 obtain⟨col,r⟩:=r
 exact⟨col,r.sub fun _ h=>List.mem_cons_of_mem _ (List.mem_cons_of_mem _ h),r.pd _ (List.mem_cons_of_mem _ List.mem_cons_self),r.pd _ List.mem_cons_self⟩
theorem ok_I0 {f:Int→Int→V} {g:Int→Int→PyData} (h:∀i j F H,ThV F H (f i j) (g i j)):OpOk C (rI0 f) (gI0 g):=by
 intro ρ σ P H v w a b Qd Q R hg k
 unfold gI0 at hg
 split at hg
 ·obtain⟨col,r,t1,t2⟩:=th2 R
  cases t1;cases t2
  exact⟨_,_,rfl,rfl,k _ _ _ ⟨col,r.push (h _ _ _ _)⟩ hg⟩
 ·exact hg.elim
theorem ok_I {c:Int→Int→Prop} {f:Int→Int→V} {g:Int→Int→PyData} (h:∀i j F H,ThV F H (f i j) (g i j)):OpOk C (rI c f) (gI c g):=by
 intro ρ σ P H v w a b Qd Q R hg k
 unfold gI at hg
 split at hg
 ·obtain⟨col,r,t1,t2⟩:=th2 R
  cases t1;cases t2
  exact⟨_,_,rfl,rfl,hg.1,k _ _ _ ⟨col,r.push (h _ _ _ _)⟩ hg.2⟩
 ·exact hg.elim
def gAdd:G2:=gI0 fun i j=>.int (i + j)
def gMns:G2:=gI0 fun i j=>.int (i - j)
def gMul:G2:=gI CMul fun i j=>.int (i * j)
def gMod:G2:=gI (fun _ j=>0 < j) fun i j=>.int (i % j)
def gDiv:G2:=gI CDivB fun i j=>.int (i / j)
def gPow:G2:=gI CPow fun i j=>.int (i ^ j.toNat)
def gLt:G2:=gI0 fun i j=>.bool (decide (i < j))
def gLe:G2:=gI0 fun i j=>.bool (decide (i≤j))
def gGt:G2:=gI0 fun i j=>.bool (decide (j < i))
def gGe:G2:=gI0 fun i j=>.bool (decide (j≤i))
theorem ok_add:OpOk C (rI0 (fun i j=>.int (i + j))) gAdd:=ok_I0 (f:=fun i j=>.int (i + j)) fun _ _ _ _=>.int _
theorem ok_sub:OpOk C (rI0 (fun i j=>.int (i - j))) gMns:=ok_I0 (f:=fun i j=>.int (i - j)) fun _ _ _ _=>.int _
theorem ok_mul:OpOk C (rI CMul (fun i j=>.int (i * j))) gMul:=ok_I (f:=fun i j=>.int (i * j)) fun _ _ _ _=>.int _
theorem ok_div:OpOk C (rI CDivB (fun i j=>.int (i / j))) gDiv:=ok_I (f:=fun i j=>.int (i / j)) fun _ _ _ _=>.int _
theorem ok_pow:OpOk C (rI CPow (fun i j=>.int (i ^ j.toNat))) gPow:=ok_I (f:=fun i j=>.int (i ^ j.toNat)) fun _ _ _ _=>.int _
theorem ok_lt:OpOk C (rI0 (fun i j=>.bl (decide (i < j)))) gLt:=ok_I0 (f:=fun i j=>.bl (decide (i < j))) fun _ _ _ _=>.bl _
theorem ok_le:OpOk C (rI0 (fun i j=>.bl (decide (i≤j)))) gLe:=ok_I0 (f:=fun i j=>.bl (decide (i≤j))) fun _ _ _ _=>.bl _
theorem ok_gt:OpOk C (rI0 (fun i j=>.bl (decide (j < i)))) gGt:=ok_I0 (f:=fun i j=>.bl (decide (j < i))) fun _ _ _ _=>.bl _
def gEq (neg:Bool)  (a b:PyData) (Q:PyData→Prop):Prop:=a.canLay0=true∧b.canLay0=true∧min a.depth b.depth≤64∧Q (.bool (if neg then !PyData.eqv a b else PyData.eqv a b))
theorem ok_eq {K:PySem.W.Frag} {neg:Bool}:OpOk C (rEqD K neg) (gEq neg):=by
 intro ρ σ P H v w a b Qd Q R hg k
 obtain⟨col,r,t1,t2⟩:=th2 R
 exact⟨a,b,t1.dat hg.1,t2.dat hg.2.1,hg.1,hg.2.1,hg.2.2.1,k _ _ _ ⟨col,r.push (.bl _)⟩ hg.2.2.2⟩
def isN:PyData→Bool
 | .none=>true
 | _=>false
def gIsN (neg:Bool)  (a b:PyData) (Q:PyData→Prop):Prop:=match b with
 | .none=>Q (.bool (if neg then !isN a else isN a))
 | _=>False
theorem isN_th {F:Addr→Prop} {H:Hp} {v:V} {a:PyData} (t:ThV F H v a):decide (v=V.non)=isN a:=by
 cases t <;> simp [isN]
theorem ok_isN:OpOk C (fun x y H Q=>y=.non∧Q (.bl (decide (x=.non))) H) (gIsN false):=by
 intro ρ σ P H v w a b Qd Q R hg k
 unfold gIsN at hg
 split at hg
 ·obtain⟨col,r,t1,t2⟩:=th2 R
  cases t2
  refine⟨rfl,k _ _ _ ⟨col,r.push (d:=.bool (isN a)) ?_⟩ hg⟩
  rw[isN_th t1];exact .bl _
 ·exact hg.elim
theorem ok_notN:OpOk C (fun x y H Q=>y=.non∧Q (.bl (!decide (x=.non))) H) (gIsN true):=by
 intro ρ σ P H v w a b Qd Q R hg k
 unfold gIsN at hg
 split at hg
 ·obtain⟨col,r,t1,t2⟩:=th2 R
  cases t2
  refine⟨rfl,k _ _ _ ⟨col,r.push (d:=.bool (!isN a)) ?_⟩ hg⟩
  rw[isN_th t1];exact .bl _
 ·exact hg.elim
end
section
variable {X:Cx} {C:DC} {a b c:Expr} {ta tb tc:DE} {pos:Pos}
theorem chain_rd {f f':Int→Int→Bool} {σ:St} {H:Hp} {Q:VK} (h:eOf C (dChain (gI0 fun i j=>.bool (f i j)) (gI0 fun i j=>.bool (f' i j)) ta tb tc) σ H Q) :
  tChain (rI0 fun i j=>.bl (f i j)) (rI0 fun i j=>.bl (f' i j)) (eOf C ta) (eOf C tb) (eOf C tc) σ H Q:=by
 obtain⟨ρ,P,Qd,R,ht,k⟩:=h
 exact⟨ρ,P,_,R,ht,fun v x ρ1 H1 R1 h1=>⟨ρ1,_,_,R1,h1,fun w y ρ2 H2 R2 h2=>by
  obtain⟨col,r,t1,t2⟩:=th2 R2
  cases x with
  | int i=>
   cases y with
   | int j=>
    cases t1;cases t2
    refine⟨i,j,rfl,rfl,f i j,rfl,?_⟩
    have h2':if f i j=true then tc ρ2 (fun c ρ3=>gI0 (fun i j=>.bool (f' i j)) (.int j) c fun d=>Qd d ρ3) else Qd (.bool false) ρ2:=h2
    cases e:f i j with
    | true=>
     rw[e] at h2'
     refine iteT ⟨ρ2,P,_,⟨col,r⟩,by simpa using h2',fun u z ρ3 H3 R3 h3=>?_⟩
     obtain⟨col3,r3⟩:=R3
     have t3:=r3.pd _ List.mem_cons_self
     cases z with
     | int l=>
      cases (show ThV (Z col3) H3 u (.int l) from t3)
      exact⟨j,l,rfl,rfl,k _ _ _ _ ⟨col3,(r3.sub fun _ h=>List.mem_cons_of_mem _ h).push (.bl _)⟩ h3⟩
     | _=>exact h3.elim
    | false=>
     rw[e] at h2'
     exact iteF (k _ _ _ _ ⟨col,r.push (.bl false)⟩ (by simpa using h2'))
   | _=>exact h2.elim
  | _=>exact h2.elim⟩⟩
theorem pd_chain {op op':CmpOp} {f f':Int→Int→Bool} (ho:OpR X (compareOp op) (rI0 fun i j=>.bl (f i j))) (ho':OpR X (compareOp op') (rI0 fun i j=>.bl (f' i j))) (ha:PE X a (eOf C ta)) (hb:PE X b (eOf C tb)) (hc:PE X c (eOf C tc))
  (hm:lastMarks [op,op'] [b,c]=false:=by with_unfolding_all rfl):PE X (.Compare a [op,op'] [b,c] pos) (eOf C (dChain (gI0 fun i j=>.bool (f i j)) (gI0 fun i j=>.bool (f' i j)) ta tb tc)):=PE.wk (pe_chain ho ho' ha hb hc hm) fun _ _ _ h=>chain_rd h
theorem pdt_chain {op op':CmpOp} {f f':Int→Int→Bool} (ho:OpR X (compareOp op) (rI0 fun i j=>.bl (f i j))) (ho':OpR X (compareOp op') (rI0 fun i j=>.bl (f' i j))) (ha:PE X a (eOf C ta)) (hb:PE X b (eOf C tb)) (hc:PE X c (eOf C tc))
  (hm:lastMarks [op,op'] [b,c]=false:=by with_unfolding_all rfl):PT X (.Compare a [op,op'] [b,c] pos) (cOf C (dT (dChain (gI0 fun i j=>.bool (f i j)) (gI0 fun i j=>.bool (f' i j)) ta tb tc))):=PT.wk (pt_chain ho ho' ha hb hc hm) fun _ _ _ h=>chain_rd (dT_rd h)
end
section
variable {X:Cx} {C:DC} {e a b:Expr} {es:List Expr} {t ta tb:DE} {u:DF} {pos:Pos}
theorem sub_cons {P P':List Pe} {x:Pe} (h:∀p∈P,p∈P'):∀p∈x::P,p∈x::P':=fun p hp=>(List.mem_cons.mp hp).elim (fun e=>e▸List.mem_cons_self) fun hp=>List.mem_cons_of_mem _ (h p hp)
def dNil  (ρ:List Sl) (Q:List PyData→List Sl→Prop):Prop:=Q [] ρ
def dCons (t:DE) (u:DF)  (ρ:List Sl) (Q:List PyData→List Sl→Prop):Prop:=t ρ fun d ρ1=>u ρ1 fun ds ρ2=>Q (d::ds) ρ2
theorem dv_nil:PA X [] (vOf C dNil):=PA.wk pa_nil fun _ _ _ zz1=>el3 zz1 fun _ _ _ R ht k=>k [] [] _ _ _ R (fun _ h=>h) .nil ht
theorem dv_cons (ha:PE X e (eOf C t)) (hr:PA X es (vOf C u)) (hs:starEach (e::es) X.env=(false,eval e X.env)::starEach es X.env:=by rfl):PA X (e::es) (vOf C (dCons t u)):=PA.wk (pa_cons ha hr hs) fun _ _ _ zz2=>el3 zz2 fun ρ P _ R ht k=>
 ⟨ρ,P,_,R,ht,fun _ _ ρ1 _ R1 h1=>⟨ρ1,_,_,R1,h1,fun _ _ _ _ _ R2 s2 p2 h2=>k _ _ _ _ _ R2 (fun p hp=>s2 p (List.mem_cons_of_mem _ hp)) (.cons (s2 _ List.mem_cons_self) p2) h2⟩⟩
def dTup (t:DF)  (ρ:List Sl) (Q:PyData→List Sl→Prop):Prop:=t ρ fun ds ρ'=>ds.length≤1000∧Q (.tuple ds) ρ'
theorem pd_tup {x1} (h:PA X es (vOf C u)):PE X (.Tuple es x1 pos) (eOf C (dTup u)):=PE.wk (pe_tup h) fun _ _ _ zz3=>el3 zz3 fun ρ P _ R ht k=>⟨ρ,P,_,R,ht,fun vs ds ρ' P' H' zz4 s p q=>zz4.elim fun col r=>
 ⟨by rw[(p.th r).len];exact Nat.le_of_lt (small1000 q.1),fun b hb=>k _ _ _ _ ⟨col,(r.tup (p.th r) hb).sub (sub_cons s)⟩ q.2⟩⟩
def dLst (t:DF)  (ρ:List Sl) (Q:List PyData→List Sl→Prop):Prop:=t ρ fun ds ρ'=>ds.length≤1000∧Q ds ρ'
theorem pf_lst (h:PA X es (vOf C u)):PE X (.List es pos) (fOf C (dLst u)):=PE.wk (pe_lst h) fun _ _ _ zz5=>el3 zz5 fun ρ P _ R ht k=>⟨ρ,P,_,R,ht,fun vs ds ρ' P' H' zz6 s p q=>zz6.elim fun col r=>
 ⟨by rw[(p.th r).len];exact Nat.le_of_lt (small1000 q.1),fun b hb=>k _ _ _ _ _ ⟨col,r.sub s,p.th r⟩ hb q.2⟩⟩
def dF (t:DF)  (ρ:List Sl) (Q:PyData→List Sl→Prop):Prop:=t ρ fun ds ρ'=>Q (.list ds) ρ'
theorem pd_f (h:PE X e (fOf C u)):PE X e (eOf C (dF u)):=PE.wk h fun _ _ _ zz7=>el3 zz7 fun ρ P _ R ht k=>⟨ρ,P,_,R,ht,fun _ _ _ _ _ zz8 hp q=>el2 zz8 fun col r t=>k _ _ _ _ ⟨col,r.lst t hp⟩ q⟩
def ixD (a b:PyData):Option PyData:=match a,b with
 | .list xs,.int i=>atI xs i
 | .tuple xs,.int i=>atI xs i
 | _,_=>none
theorem atI_th {F:Addr→Prop} {H:Hp} {vs:List V} {ds:List PyData} {i:Int} {d:PyData} (t:ThVs F H vs ds) (h:atI ds i=some d):∃v,atI vs i=some v∧ThV F H v d:=by
 unfold atI at h ⊢
 rw[t.len]
 cases q:ixN ds.length i with
 | none=>rw[q] at h;cases h
 | some j=>
  rw[q] at h
  exact t.at h
theorem ix_rd {K:PySem.W.Frag} {col:Addr→Nat} {H:Hp} {v w:V} {a b d:PyData} (t1:Red col H v a) (t2:ThV (Z col) H w b) (h:ixD a b=some d):∃u,ThV (Z col) H u d∧∀Q:VK,Q u H→rIx K v w H Q:=by
 unfold ixD at h
 split at h
 ·cases t2
  obtain⟨p,vs,rfl,e,t⟩:=t1.lst
  obtain⟨u,hu,tu⟩:=atI_th t h
  exact⟨u,tu,fun Q q=>.inl ⟨p,vs,_,u,rfl,rfl,SqL.of e,hu,q⟩⟩
 ·cases t2
  obtain⟨p,vs,rfl,e,t⟩:=t1.tup
  obtain⟨u,hu,tu⟩:=atI_th t h
  exact⟨u,tu,fun Q q=>.inr (.inl ⟨p,vs,_,u,rfl,rfl,SqT.of e,hu,q⟩)⟩
 ·cases h
def dIx (ta tb:DE)  (ρ:List Sl) (Q:PyData→List Sl→Prop):Prop:=ta ρ fun a ρ1=>tb ρ1 fun b ρ2=>bnd (ixD a b) fun d=>Q d ρ2
theorem pd_ix (ha:PE X a (eOf C ta)) (hb:PE X b (eOf C tb)) (hs:PlainIx b):PE X (.Subscript a b pos) (eOf C (dIx ta tb)):=PE.wk (pe_ix ix_seq ha hb hs) fun _ _ _ zz9=>el3 zz9 fun ρ P _ R ht k=>⟨ρ,P,_,R,ht,fun v _ ρ1 H1 R1 h1=>⟨ρ1,_,_,R1,h1,fun w _ ρ2 H2 R2 h2=>by
 obtain⟨d,hd,q⟩:=bnd_of h2
 obtain⟨col,r,t1,t2⟩:=th2 R2
 obtain⟨u,tu,f⟩:=ix_rd (K:=X.K) (.th t1) t2 hd
 exact f _ (k _ _ _ _ ⟨col,r.push tu⟩ q)⟩⟩
def dIxV (i:Nat) (tb:DE)  (ρ:List Sl) (Q:PyData→List Sl→Prop):Prop:=bnd (slotD ρ i) fun _=>tb ρ fun b ρ2=>bnd (slotD ρ2 i) fun a=>bnd (ixD a b) fun d=>Q d ρ2
theorem pd_ixv {i:Nat} (ha:PE X a (tVar i)) (hb:PE X b (eOf C tb)) (hs:PlainIx b):PE X (.Subscript a b pos) (eOf C (dIxV i tb)):=PE.wk (pe_ix ix_seq ha hb hs) fun σ H Q zz10=>el3 zz10 fun ρ P Qd zz11 ht k=>zz11.elim fun col0 r0=>by
 obtain⟨_,h0,ht⟩:=bnd_of ht
 obtain⟨v,ev,_⟩:=r0.slot h0
 refine⟨v,ev,ρ,P,_,⟨col0,r0⟩,ht,fun w b ρ2 H2 R2 h2=>?_⟩
 obtain⟨a,ha,h2⟩:=bnd_of h2
 obtain⟨d,hd,q⟩:=bnd_of h2
 obtain⟨col,r⟩:=R2
 obtain⟨v',ev',t1⟩:=r.slot ha
 rw[ev] at ev'
 cases ev'
 obtain⟨u,tu,f⟩:=ix_rd (K:=X.K) t1 (r.pd _ List.mem_cons_self) hd
 exact f _ (k _ _ _ _ ⟨col,(r.sub fun _ h=>List.mem_cons_of_mem _ h).push tu⟩ q)
def CbOk (C:DC) (r:List V→Hp→VK→Prop) (g:List PyData→(PyData→Prop)→Prop):Prop:=
 ∀{ρ:List Sl} {σ:St} {P:List Pe} {col:Addr→Nat} {H:Hp} {vs:List V} {ds:List PyData} {Qd:PyData→Prop} {Q:VK},RelC C col ρ σ P H→ThVs (Z col) H vs ds→g ds Qd→(∀u d H',Rel C ρ σ (.v u d::P) H'→Qd d→Q u H')→r vs H Q
def dCb (g:List PyData→(PyData→Prop)→Prop) (u:DF)  (ρ:List Sl) (Q:PyData→List Sl→Prop):Prop:=u ρ fun ds ρ'=>g ds fun d=>Q d ρ'
theorem pd_cb {r:List V→Hp→VK→Prop} {g:List PyData→(PyData→Prop)→Prop} (hr:CbOk C r g) (h:PE X e (tCB r (vOf C u))):PE X e (eOf C (dCb g u)):=PE.wk h fun _ _ _ zz12=>el3 zz12 fun ρ P _ R ht k=>⟨ρ,P,_,R,ht,fun vs ds ρ' P' H' zz13 s p q=>zz13.elim fun col r=>
 hr (r.sub s) (p.th r) q fun u d H2 R2 q2=>k _ _ _ _ R2 q2⟩
theorem ths1 {F:Addr→Prop} {H:Hp} {vs:List V} {d:PyData} (t:ThVs F H vs [d]):∃v,vs=[v]∧ThV F H v d:=by
 cases t with
 | cons x y=>cases y;exact⟨_,rfl,x⟩
theorem ths2 {F:Addr→Prop} {H:Hp} {vs:List V} {d d':PyData} (t:ThVs F H vs [d,d']):∃v w,vs=[v,w]∧ThV F H v d∧ThV F H w d':=by
 cases t with
 | cons x y=>
  obtain⟨w,rfl,z⟩:=ths1 y
  exact⟨_,w,rfl,x,z⟩
def lenD:PyData→Option Nat
 | .list xs=>some xs.length
 | .tuple xs=>some xs.length
 | _=>none
def gLen  (ds:List PyData) (Q:PyData→Prop):Prop:=match ds with
 | [d]=>bnd (lenD d) fun n=>Q (.int n)
 | _=>False
abbrev rLen (K:PySem.W.Frag):List V→Hp→VK→Prop:=fun xs H Q=>∃p ys,xs=[.ref p]∧(SqL K H p ys∨SqT K H p ys)∧Q (.int ys.length) H
theorem len_rd {K:PySem.W.Frag} {col:Addr→Nat} {H:Hp} {v:V} {a:PyData} {n:Nat} {Q:VK} (t:Red col H v a) (h:lenD a=some n) (q:Q (.int n) H):rLen K [v] H Q:=by
 cases a with
 | list ds=>
  cases h
  obtain⟨p,vs,rfl,e,t⟩:=t.lst
  exact⟨p,vs,rfl,.inl (SqL.of e),by rw[t.len];exact q⟩
 | tuple ds=>
  cases h
  obtain⟨p,vs,rfl,e,t⟩:=t.tup
  exact⟨p,vs,rfl,.inr (SqT.of e),by rw[t.len];exact q⟩
 | _=>cases h
theorem cb_len {K:PySem.W.Frag}:CbOk C (rLen K) gLen:=by
 intro ρ σ P col H vs ds Qd Q r t g k
 unfold gLen at g
 split at g
 ·obtain⟨v,rfl,t1⟩:=ths1 t
  obtain⟨n,hn,q⟩:=bnd_of g
  exact len_rd (.th t1) hn (k _ _ _ ⟨col,r.push (.int _)⟩ q)
 ·exact g.elim
def dLenV (i:Nat)  (ρ:List Sl) (Q:PyData→List Sl→Prop):Prop:=bnd (slotD ρ i) fun a=>bnd (lenD a) fun n=>Q (.int n) ρ
theorem pd_lenv {i:Nat} {K:PySem.W.Frag} (h:PE X e (tCB (rLen K) (tCons (tVar i) tNil))):PE X e (eOf C (dLenV i)):=PE.wk h fun _ _ _ zz14=>el3 zz14 fun ρ P _ zz15 ht k=>zz15.elim fun col r=>by
 obtain⟨a,ha,ht⟩:=bnd_of ht
 obtain⟨n,hn,q⟩:=bnd_of ht
 obtain⟨v,ev,t⟩:=r.slot ha
 exact⟨v,ev,len_rd t hn (k _ _ _ _ ⟨col,r.push (.int _)⟩ q)⟩
def gI2 (f:Int→Int→Int)  (ds:List PyData) (Q:PyData→Prop):Prop:=match ds with
 | [.int i,.int j]=>Q (.int (f i j))
 | _=>False
theorem cb_I2 {f:Int→Int→Int}:CbOk C (fun xs H Q=>∃i j,xs=[.int i,.int j]∧Q (.int (f i j)) H) (gI2 f):=by
 intro ρ σ P col H vs ds Qd Q r t g k
 unfold gI2 at g
 split at g
 ·obtain⟨v,w,rfl,t1,t2⟩:=ths2 t
  cases t1;cases t2
  exact⟨_,_,rfl,k _ _ _ ⟨col,r.push (.int _)⟩ g⟩
 ·exact g.elim
def gMin:=gI2 fun i j=>if j < i then j else i
def gMax:=gI2 fun i j=>if j > i then j else i
theorem cb_min:CbOk C (fun xs H Q=>∃i j,xs=[.int i,.int j]∧Q (.int (if j < i then j else i)) H) gMin:=cb_I2 (f:=fun i j=>if j < i then j else i)
theorem cb_max:CbOk C (fun xs H Q=>∃i j,xs=[.int i,.int j]∧Q (.int (if j > i then j else i)) H) gMax:=cb_I2 (f:=fun i j=>if j > i then j else i)
def gAbs  (ds:List PyData) (Q:PyData→Prop):Prop:=match ds with
 | [.int i]=>Q (.int (if i < 0 then -i else i))
 | _=>False
def gInt  (ds:List PyData) (Q:PyData→Prop):Prop:=match ds with
 | [.int i]=>Q (.int i)
 | [.bool b]=>Q (.int (if b then 1 else 0))
 | _=>False
theorem cb_int:CbOk C (fun xs H Q=>(∃i,xs=[.int i]∧Q (.int i) H)∨∃k,xs=[.bl k]∧Q (.int (if k then 1 else 0)) H) gInt:=by
 intro ρ σ P col H vs ds Qd Q r t g k
 unfold gInt at g
 split at g
 ·obtain⟨v,rfl,t1⟩:=ths1 t
  cases t1
  exact .inl ⟨_,rfl,k _ _ _ ⟨col,r.push (.int _)⟩ g⟩
 ·obtain⟨v,rfl,t1⟩:=ths1 t
  cases t1
  exact .inr ⟨_,rfl,k _ _ _ ⟨col,r.push (.int _)⟩ g⟩
 ·exact g.elim
def boolsD:List PyData→Option (List Bool)
 | []=>some []
 | .bool b::r=>(boolsD r).map (b::·)
 | _::_=>none
theorem bools_th {F:Addr→Prop} {H:Hp} {ds:List PyData} {vs:List V} {bs:List Bool} (t:ThVs F H vs ds) (h:boolsD ds=some bs):vs=bs.map V.bl:=by
 induction ds generalizing vs bs with
 | nil=>cases t;cases h;rfl
 | cons d r ih=>
  cases t with
  | cons x y=>
   cases x with
   | bl b=>
    have h':(boolsD r).map (b::·)=some bs:=h
    cases q:boolsD r with
    | none=>rw[q] at h';cases h'
    | some cs=>
     rw[q] at h'
     cases h'
     rw[ih y q];rfl
   | _=>cases h
def gBs (f:List Bool→Bool)  (ds:List PyData) (Q:PyData→Prop):Prop:=match ds with
 | [.list xs]=>bnd (boolsD xs) fun bs=>Q (.bool (f bs))
 | _=>False
theorem cb_bs {K:PySem.W.Frag} {f:List Bool→Bool}:CbOk C (fun xs H Q=>∃(p:Addr) (bs:List Bool),xs=[.ref p]∧SqL K H p (bs.map V.bl)∧Q (.bl (f bs)) H) (gBs f):=by
 intro ρ σ P col H vs ds Qd Q r t g k
 unfold gBs at g
 split at g
 ·obtain⟨bs,hb,q⟩:=bnd_of g
  obtain⟨v,rfl,t1⟩:=ths1 t
  cases t1 with
  | lst _ e t2=>
   have z:=bools_th t2 hb
   subst z
   exact⟨_,bs,rfl,SqL.of e,k _ _ _ ⟨col,r.push (.bl _)⟩ q⟩
 ·exact g.elim
def gAll:=gBs fun bs=>bs.all id
def gAny:=gBs fun bs=>bs.any id
theorem cb_all {K:PySem.W.Frag}:CbOk C (fun xs H Q=>∃(p:Addr) (bs:List Bool),xs=[.ref p]∧SqL K H p (bs.map V.bl)∧Q (.bl (bs.all id)) H) gAll:=cb_bs
abbrev rListOf (K:PySem.W.Frag):List V→Hp→VK→Prop:=fun xs H Q=>∃p ys,xs=[.ref p]∧(SqL K H p ys∨SqT K H p ys)∧∀l,H l=none→Q (.ref l) (upd H l (.lst ys))
def itemsD:PyData→Option (List PyData)
 | .list xs=>some xs
 | .tuple xs=>some xs
 | _=>none
theorem items_rd {col:Addr→Nat} {H:Hp} {v:V} {a:PyData} {ds:List PyData} (t:Red col H v a) (h:itemsD a=some ds):∃p vs,v=.ref p∧(H p=some (.lst vs)∨H p=some (.tup vs))∧ThVs (Z col) H vs ds:=by
 cases a with
 | list ds=>
  cases h
  obtain⟨p,vs,rfl,e,t⟩:=t.lst
  exact⟨p,vs,rfl,.inl e,t⟩
 | tuple ds=>
  cases h
  obtain⟨p,vs,rfl,e,t⟩:=t.tup
  exact⟨p,vs,rfl,.inr e,t⟩
 | _=>cases h
def dListV (i:Nat)  (ρ:List Sl) (Q:List PyData→List Sl→Prop):Prop:=bnd (slotD ρ i) fun a=>bnd (itemsD a) fun ds=>Q ds ρ
theorem pf_listv {i:Nat} {K:PySem.W.Frag} (h:PE X e (tCB (rListOf K) (tCons (tVar i) tNil))):PE X e (fOf C (dListV i)):=PE.wk h fun _ _ _ zz16=>el3 zz16 fun ρ P _ zz17 ht k=>zz17.elim fun col r=>by
 obtain⟨a,ha,ht⟩:=bnd_of ht
 obtain⟨ds,hn,q⟩:=bnd_of ht
 obtain⟨v,ev,t⟩:=r.slot ha
 obtain⟨p,vs,rfl,e,t⟩:=items_rd t hn
 exact⟨_,ev,p,vs,rfl,e.elim (fun e=>.inl (SqL.of e)) (fun e=>.inr (SqT.of e)),fun l hl=>k _ _ _ _ _ ⟨col,r,t⟩ hl q⟩
def dList (ta:DE)  (ρ:List Sl) (Q:List PyData→List Sl→Prop):Prop:=ta ρ fun a ρ'=>bnd (itemsD a) fun ds=>Q ds ρ'
abbrev DO:=List Sl→(Option Int→List Sl→Prop)→Prop
def oOf (C:DC) (t:DO):TO:=fun σ H Q=>∃ρ P Qd,Rel C ρ σ P H∧t ρ Qd∧∀o ρ' H',Rel C ρ' σ P H'→Qd o ρ'→Q o H'
def oN  (ρ:List Sl) (Q:Option Int→List Sl→Prop):Prop:=Q none ρ
def oS (t:DE)  (ρ:List Sl) (Q:Option Int→List Sl→Prop):Prop:=t ρ fun d ρ'=>match d with
 | .int i=>Q (some i) ρ'
 | _=>False
theorem do_n:PO X none (oOf C oN):=PO.wk po_none fun _ _ _ zz20=>el3 zz20 fun _ _ _ R ht k=>k _ _ _ R ht
theorem do_s (h:PE X e (eOf C t)):PO X (some e) (oOf C (oS t)):=PO.wk (po_some h) fun _ _ _ zz21=>el3 zz21 fun ρ P _ R ht k=>⟨ρ,P,_,R,ht,fun v d ρ' H' R' q=>by
 split at q
 ·obtain⟨col,r⟩:=R'
  have t:=r.pd _ List.mem_cons_self
  cases (show ThV (Z col) H' v (.int _) from t)
  exact⟨_,rfl,k _ _ _ (Rel.pop ⟨col,r⟩) q⟩
 ·exact q.elim⟩
def cutD (xs:List PyData) (lo hi:Option Int):List PyData:=(xs.drop (HT.sIx xs.length 0 lo)).take (HT.sIx xs.length xs.length hi - HT.sIx xs.length 0 lo)
theorem ThVs.drop {F:Addr→Prop} {H:Hp}:∀{vs:List V} {ds:List PyData} (n:Nat),ThVs F H vs ds→ThVs F H (vs.drop n) (ds.drop n)
 | _,_,0,h=>h
 | _,_,_ + 1,.nil=>.nil
 | _,_,n + 1,.cons _ t=>ThVs.drop n t
theorem ThVs.take {F:Addr→Prop} {H:Hp}:∀{vs:List V} {ds:List PyData} (n:Nat),ThVs F H vs ds→ThVs F H (vs.take n) (ds.take n)
 | _,_,0,_=>.nil
 | _,_,_ + 1,.nil=>.nil
 | _,_,n + 1,.cons x t=>.cons x (ThVs.take n t)
theorem cut_th {F:Addr→Prop} {H:Hp} {vs:List V} {ds:List PyData} (t:ThVs F H vs ds) (lo hi:Option Int):ThVs F H (cutV vs lo hi) (cutD ds lo hi):=by
 unfold cutV cutD
 rw[t.len]
 exact (t.drop _).take _
def listD:PyData→Option (List PyData)
 | .list xs=>some xs
 | _=>none
def dSlV (i:Nat) (tl th:DO)  (ρ:List Sl) (Q:List PyData→List Sl→Prop):Prop:=bnd (slotD ρ i) fun _=>tl ρ fun lo ρ1=>th ρ1 fun hi ρ2=>bnd (slotD ρ2 i) fun a=>bnd (listD a) fun xs=>Q (cutD xs lo hi) ρ2
theorem pf_slv {i:Nat} {lo hi:Option Expr} {p2:Pos} {tl th:DO} (ha:PE X a (tVar i)) (hl:PO X lo (oOf C tl)) (hh:PO X hi (oOf C th)):PE X (.Subscript a (.Slice lo hi none p2) pos) (fOf C (dSlV i tl th)):=PE.wk (pe_slice sl_list ha hl hh) fun σ H Q zz22=>el3 zz22 fun ρ P Qd zz23 ht k=>zz23.elim fun col0 r0=>by
 obtain⟨_,h0,ht⟩:=bnd_of ht
 obtain⟨v,ev,_⟩:=r0.slot h0
 refine⟨v,ev,ρ,P,_,⟨col0,r0⟩,ht,fun lo ρ1 H1 R1 h1=>⟨ρ1,P,_,R1,h1,fun hi ρ2 H2 R2 h2=>?_⟩⟩
 obtain⟨a,ha,h2⟩:=bnd_of h2
 obtain⟨xs,hx,q⟩:=bnd_of h2
 obtain⟨col,r⟩:=R2
 obtain⟨v',ev',t1⟩:=r.slot ha
 rw[ev] at ev'
 cases ev'
 cases a with
 | list ds=>
  cases hx
  obtain⟨p,vs,rfl,e,t⟩:=t1.lst
  exact⟨p,vs,rfl,SqL.of e,fun b hb=>k _ _ _ _ _ ⟨col,r,cut_th t lo hi⟩ hb q⟩
 | _=>cases hx
def dSl (ta:DE) (tl th:DO)  (ρ:List Sl) (Q:List PyData→List Sl→Prop):Prop:=ta ρ fun a ρ0=>tl ρ0 fun lo ρ1=>th ρ1 fun hi ρ2=>bnd (listD a) fun xs=>Q (cutD xs lo hi) ρ2
theorem pf_sl {lo hi:Option Expr} {p2:Pos} {tl th:DO} (ha:PE X a (eOf C ta)) (hl:PO X lo (oOf C tl)) (hh:PO X hi (oOf C th)):PE X (.Subscript a (.Slice lo hi none p2) pos) (fOf C (dSl ta tl th)):=PE.wk (pe_slice sl_list ha hl hh) fun σ H Q zz24=>el3 zz24 fun ρ P Qd R ht k=>
 ⟨ρ,P,_,R,ht,fun v a ρ0 H0 R0 h0=>⟨ρ0,_,_,R0,h0,fun lo ρ1 H1 R1 h1=>⟨ρ1,_,_,R1,h1,fun hi ρ2 H2 R2 h2=>by
  obtain⟨xs,hx,q⟩:=bnd_of h2
  obtain⟨col,r⟩:=R2
  cases a with
  | list ds=>
   cases hx
   obtain⟨p,vs,rfl,e,t⟩:=Red.lst (.th (r.pd _ List.mem_cons_self))
   exact⟨p,vs,rfl,SqL.of e,fun b hb=>k _ _ _ _ _ ⟨col,r.sub fun _ h=>List.mem_cons_of_mem _ h,cut_th t lo hi⟩ hb q⟩
  | _=>cases hx⟩⟩⟩
def dCat (ta tb:DE)  (ρ:List Sl) (Q:List PyData→List Sl→Prop):Prop:=ta ρ fun a ρ1=>tb ρ1 fun b ρ2=>bnd (listD a) fun xs=>bnd (listD b) fun ys=>xs.length + ys.length≤100000∧Q (xs++ys) ρ2
theorem pf_cat (ha:PE X a (eOf C ta)) (hb:PE X b (eOf C tb)):PE X (.BinOp a .Add b pos) (fOf C (dCat ta tb)):=PE.wk (pe_op op_cat ha hb) fun σ H Q zz25=>el3 zz25 fun ρ P Qd R ht k=>
 ⟨ρ,P,_,R,ht,fun v a ρ1 H1 R1 h1=>⟨ρ1,_,_,R1,h1,fun w b ρ2 H2 R2 h2=>by
  obtain⟨xs,hx,h2⟩:=bnd_of h2
  obtain⟨ys,hy,h3,q⟩:=bnd_of h2
  obtain⟨col,r,t1,t2⟩:=th2 R2
  cases a with
  | list ds=>
   cases b with
   | list es=>
    cases hx;cases hy
    obtain⟨p,vs,rfl,e,t⟩:=Red.lst (.th t1)
    obtain⟨p',vs',rfl,e',t'⟩:=Red.lst (.th t2)
    exact⟨p,p',vs,vs',rfl,rfl,e,e',by rw[t.len,t'.len,sizeLine_eq];lia,fun b hb=>k _ _ _ _ _ ⟨col,r,t.append t'⟩ hb q⟩
   | _=>cases hy
  | _=>cases hx⟩⟩
def repD (xs:List PyData) (n:Nat):List PyData:=(List.replicate n xs).flatten
theorem rep_th {F:Addr→Prop} {H:Hp} {vs:List V} {ds:List PyData} (t:ThVs F H vs ds):∀n:Nat,ThVs F H (List.replicate n vs).flatten (repD ds n)
 | 0=>.nil
 | n + 1=>by
  unfold repD
  rw[List.replicate_succ,List.replicate_succ,List.flatten_cons,List.flatten_cons]
  exact t.append (rep_th t n)
def dRep (ta tb:DE)  (ρ:List Sl) (Q:List PyData→List Sl→Prop):Prop:=ta ρ fun a ρ1=>tb ρ1 fun b ρ2=>match b with
 | .int k=>bnd (listD a) fun xs=>(-1000≤k∧k≤1000∧xs.length≤100)∧Q (repD xs k.toNat) ρ2
 | _=>False
theorem pf_rep (ha:PE X a (eOf C ta)) (hb:PE X b (eOf C tb)):PE X (.BinOp a .Mult b pos) (fOf C (dRep ta tb)):=PE.wk (pe_op op_rep ha hb) fun σ H Q zz26=>el3 zz26 fun ρ P Qd R ht k=>
 ⟨ρ,P,_,R,ht,fun v a ρ1 H1 R1 h1=>⟨ρ1,_,_,R1,h1,fun w b ρ2 H2 R2 h2=>by
  split at h2
  ·obtain⟨xs,hx,⟨h3,h4,h5⟩,q⟩:=bnd_of h2
   obtain⟨col,r,t1,t2⟩:=th2 R2
   cases t2
   cases a with
   | list ds=>
    cases hx
    obtain⟨p,vs,rfl,e,t⟩:=Red.lst (.th t1)
    rename_i kk
    refine⟨p,kk,vs,rfl,rfl,e,by lia,by lia,?_,fun b hb=>k _ _ _ _ _ ⟨col,r,rep_th t _⟩ hb q⟩
    have hl:=t.len
    rw[←hl] at h5
    have:vs.length * kk.toNat≤100 * 1000:=Nat.mul_le_mul h5 (by lia)
    rw[sizeLine_eq]
    lia
   | _=>cases hx
  ·exact h2.elim⟩⟩
def tyD:PyData→Option String
 | .none=>some "NoneType"
 | .bool _=>some "bool"
 | .int _=>some "int"
 | .str _=>some "str"
 | .list _=>some "list"
 | .tuple _=>some "tuple"
 | .dict _=>some "dict"
theorem ty_rd {K:PySem.W.Frag} {col:Addr→Nat} {H:Hp} {v:V} {a:PyData} (t:Red col H v a):∃T,tyD a=some T∧TyOf2 K H v (.type T):=by
 cases t with
 | th t=>cases t with
  | non=>exact⟨_,rfl,.o .non⟩
  | bl b=>exact⟨_,rfl,.o (.bl b)⟩
  | int i=>exact⟨_,rfl,.o (.int i)⟩
  | str x=>exact⟨_,rfl,.o (.str x)⟩
  | lst _ e _=>exact⟨_,rfl,.o (.lst e)⟩
  | tup _ e _=>exact⟨_,rfl,.o (.tup e)⟩
  | dic _ e u=>cases u with
   | t=>exact⟨_,rfl,.o (.dT e)⟩
   | k i j=>exact⟨_,rfl,.o (.dK e)⟩
   | f o ks=>exact⟨_,rfl,.f e⟩
 | ls e _=>exact⟨_,rfl,.o (.lst e)⟩
def isiD (T:String) (d:PyData):Bool:=match tyD d with
 | some t=>t == T||(T == "int" &&t == "bool")
 | none=>false
def TyOk (K:PySem.W.Frag) (T:String):Prop:=∀d t,tyD d=some t→PySem.W.kitOne K (.type t) (.type T)=some (isiD T d)
abbrev rIsi (K:PySem.W.Frag):List V→Hp→VK→Prop:=fun xs H Q=>∃x cv c t b,xs=[x,cv]∧RelV cv c∧TyOf2 K H x t∧PySem.W.kitOne K t c=some b∧Q (.bl b) H
def dIsiV (i:Nat) (T:String)  (ρ:List Sl) (Q:PyData→List Sl→Prop):Prop:=bnd (slotD ρ i) fun a=>Q (.bool (isiD T a)) ρ
theorem pd_isiv {i:Nat} {K:PySem.W.Frag} {T:String} (hT:TyOk K T) (h:PE X e (tCB (rIsi K) (tCons (tVar i) (tCons (tC (.ty T)) tNil)))):PE X e (eOf C (dIsiV i T)):=PE.wk h fun _ _ _ zz27=>el3 zz27 fun ρ P _ zz28 ht k=>zz28.elim fun col r=>by
 obtain⟨a,ha,q⟩:=bnd_of ht
 obtain⟨v,ev,t⟩:=r.slot ha
 obtain⟨t',e1,e2⟩:=ty_rd (K:=K) t
 exact⟨v,ev,v,.ty T,.type T,_,_,rfl,rfl,e2,hT a t' e1,k _ _ _ _ ⟨col,r.push (.bl _)⟩ q⟩
def dIsi (ta:DE) (T:String)  (ρ:List Sl) (Q:PyData→List Sl→Prop):Prop:=ta ρ fun a ρ'=>Q (.bool (isiD T a)) ρ'
theorem ty_int {K:PySem.W.Frag}:TyOk K "int" :=fun d t h=>by cases d <;> cases h <;> with_unfolding_all rfl
theorem ty_bool {K:PySem.W.Frag}:TyOk K "bool" :=fun d t h=>by cases d <;> cases h <;> with_unfolding_all rfl
theorem ty_list {K:PySem.W.Frag}:TyOk K "list" :=fun d t h=>by cases d <;> cases h <;> with_unfolding_all rfl
theorem ty_tuple {K:PySem.W.Frag}:TyOk K "tuple" :=fun d t h=>by cases d <;> cases h <;> with_unfolding_all rfl
end
inductive Md where
 | sh
 | bo
 | hd
 | b2
 | bd
def rowsL:List PyData→Option (List (List PyData))
 | []=>some []
 | .list ds::r=>(rowsL r).map (ds::·)
 | _=>none
def rowsD:PyData→Option (List (List PyData))
 | .list xs=>rowsL xs
 | _=>none
abbrev lls (dss:List (List PyData)):List PyData:=dss.map PyData.list
theorem rowsL_eq {xs:List PyData} {dss:List (List PyData)} (h:rowsL xs=some dss):xs=lls dss:=by
 induction xs generalizing dss with
 | nil=>cases h;rfl
 | cons x r ih=>
  cases x with
  | list ds=>
   have h':(rowsL r).map (ds::·)=some dss:=h
   cases q:rowsL r with
   | none=>rw[q] at h';cases h'
   | some ess=>
    rw[q] at h'
    cases h'
    rw[ih q];rfl
  | _=>cases h
theorem rowsD_eq {d:PyData} {dss:List (List PyData)} (h:rowsD d=some dss):d=.list (lls dss):=by
 cases d with
 | list xs=>rw[rowsL_eq h]
 | _=>cases h
theorem th_rows {F:Addr→Prop} {H:Hp} {dss:List (List PyData)} {vs:List V} (t:ThVs F H vs (lls dss)):∃as:List Addr,vs=as.map V.ref∧Rws F F H as dss:=by
 induction dss generalizing vs with
 | nil=>cases t;exact⟨[],rfl,.nil⟩
 | cons ds dss ih=>
  cases t with
  | cons x y=>
   obtain⟨as,rfl,r⟩:=ih y
   cases x with
   | lst n e z=>exact⟨_::as,rfl,.cons n e z r⟩
def slot2 (ρ:List Sl) (i:Nat):Option (List (List PyData)):=match ρ[i]? with
 | some (.o2 dss)=>some dss
 | some (.b2 dss)=>some dss
 | some (.sh d)=>rowsD d
 | _=>none
def ArgR (F:Addr→Prop) (hand:Option (Addr×Addr)) (H:Hp) (v:V) (d:PyData):Md→Prop
 | .sh=>ThV F H v d
 | .bo=>∃a vs ds,v=.ref a∧d=.list ds∧(∀q,hand=some q→a≠q.1)∧H a=some (.lst vs)∧ThVs F H vs ds
 | .hd=>∃q,hand=some q∧v=.ref q.1
 | .b2=>∃a as dss,v=.ref a∧d=.list (lls dss)∧(∀q,hand=some q→a≠q.1)∧H a=some (.lst (as.map V.ref))∧Rws (fun b=>∀q,hand=some q→b≠q.1) F H as dss
 | .bd=>ThV (fun b=>∀q,hand=some q→b≠q.1) H v d
inductive ArgsR (F:Addr→Prop) (hand:Option (Addr×Addr)) (H:Hp):List Md→List V→List PyData→Prop
 | nil:ArgsR F hand H [] [] []
 | cons {m v d ms vs ds}:ArgR F hand H v d m→ArgsR F hand H ms vs ds→ArgsR F hand H (m::ms) (v::vs) (d::ds)
theorem ArgsR.len {F:Addr→Prop} {hand:Option (Addr×Addr)} {H:Hp} {ms:List Md} {vs:List V} {ds:List PyData} (t:ArgsR F hand H ms vs ds):vs.length=ms.length∧ds.length=ms.length:=by
 induction t with
 | nil=>exact⟨rfl,rfl⟩
 | cons _ t ih=>exact⟨congrArg (· + 1) ih.1,congrArg (· + 1) ih.2⟩
abbrev DSp:=List PyData→(PyData→Prop)→Prop
def spD (ms:List Md) (sp:DSp):Sp:=fun vs H Q _=>∃F hand ds Qd,((∀b,H b=none→F b)∧∀b xs,H b=some (.tup xs)→F b)∧(∀q,hand=some q→¬ F q.1)∧Hq hand H∧ArgsR F hand H ms vs ds∧sp ds Qd∧∀d v H',Qd d→ThV F H' v d→Kq hand H H'→Hq hand H'→Q v H'
inductive Ar where
 | v (d:PyData)
 | s (i:Nat)
 | w (d:PyData)
inductive ArV (σ:St) (P:List Pe):List V→List Ar→Prop
 | nil:ArV σ P [] []
 | v {v d vs as}:Pe.v v d∈P→ArV σ P vs as→ArV σ P (v::vs) (.v d::as)
 | s {i v vs as}:σ[i]?=some (some v)→ArV σ P vs as→ArV σ P (v::vs) (.s i::as)
 | w {v d vs as}:Pe.w v d∈P→ArV σ P vs as→ArV σ P (v::vs) (.w d::as)
abbrev DA:=List Sl→(List Ar→List Sl→Prop)→Prop
def aOf (C:DC) (t:DA):TA:=fun σ H Q=>∃ρ P Qd,Rel C ρ σ P H∧t ρ Qd∧∀vs as ρ' P' H',Rel C ρ' σ P' H'→(∀p∈P,p∈P')→ArV σ P' vs as→Qd as ρ'→Q vs H'
def isSl (ρ:List Sl) (i:Nat):Bool:=match ρ[i]? with
 | some .no=>false
 | none=>false
 | _=>true
section
variable {X:Cx} {C:DC} {e:Expr} {es:List Expr} {t:DE} {u:DA}
def aNil  (ρ:List Sl) (Q:List Ar→List Sl→Prop):Prop:=Q [] ρ
def aV (t:DE) (u:DA)  (ρ:List Sl) (Q:List Ar→List Sl→Prop):Prop:=t ρ fun d ρ1=>u ρ1 fun as ρ2=>Q (.v d::as) ρ2
def aS (i:Nat) (u:DA)  (ρ:List Sl) (Q:List Ar→List Sl→Prop):Prop:=isSl ρ i=true∧u ρ fun as ρ2=>Q (.s i::as) ρ2
theorem da_nil:PA X [] (aOf C aNil):=PA.wk pa_nil fun _ _ _ zz31=>el3 zz31 fun _ _ _ R ht k=>k [] [] _ _ _ R (fun _ h=>h) .nil ht
theorem da_v (ha:PE X e (eOf C t)) (hr:PA X es (aOf C u)) (hs:starEach (e::es) X.env=(false,eval e X.env)::starEach es X.env:=by rfl):PA X (e::es) (aOf C (aV t u)):=PA.wk (pa_cons ha hr hs) fun _ _ _ zz32=>el3 zz32 fun ρ P _ R ht k=>
 ⟨ρ,P,_,R,ht,fun _ _ ρ1 _ R1 h1=>⟨ρ1,_,_,R1,h1,fun _ _ _ _ _ R2 s2 p2 h2=>k _ _ _ _ _ R2 (fun p hp=>s2 p (List.mem_cons_of_mem _ hp)) (.v (s2 _ List.mem_cons_self) p2) h2⟩⟩
theorem slot_at {col:Addr→Nat} {ρ:List Sl} {σ:St} {P:List Pe} {H:Hp} {i:Nat} (r:RelC C col ρ σ P H) (h:isSl ρ i=true):∃v,σ[i]?=some (some v):=by
 unfold isSl at h
 split at h
 ·cases h
 ·cases h
 ·rename_i s n1 n2
  cases q:ρ[i]? with
  | none=>exact absurd q n2
  | some s=>
   have z:=r.sl i s q
   cases s with
   | no=>exact absurd q n1
   | sh d=>obtain⟨v,e,_⟩:=z;exact⟨v,join_some e⟩
   | ow d=>obtain⟨a,_,e,_⟩:=z;exact⟨_,join_some e⟩
   | bo d=>obtain⟨a,_,e,_⟩:=z;exact⟨_,join_some e⟩
   | hd=>obtain⟨q,_,e⟩:=z;exact⟨_,join_some e⟩
   | o2 d=>obtain⟨a,_,e,_⟩:=z;exact⟨_,join_some e⟩
   | b2 d=>obtain⟨a,_,e,_⟩:=z;exact⟨_,join_some e⟩
   | di f ks=>obtain⟨a,e,_⟩:=z;exact⟨_,join_some e⟩
   | dm f ks=>obtain⟨a,e,_⟩:=z;exact⟨_,join_some e⟩
   | bd d=>obtain⟨v,e,_⟩:=z;exact⟨v,join_some e⟩
   | ot d=>obtain⟨v,e,_⟩:=z;exact⟨v,join_some e⟩
   | ob R=>obtain⟨v,e,_⟩:=z;exact⟨v,join_some e⟩
def lentD (ρ:List Sl) (i:Nat):Option PyData:=match ρ[i]? with
 | some (.bd d)=>some d
 | _=>none
theorem RelC.le {col:Addr→Nat} {ρ:List Sl} {σ:St} {P:List Pe} {H:Hp} (r:RelC C col ρ σ P H) {v:V} {d:PyData} (t:ThV (Le C) C.H0 v d):ThV (Le C) H v d:=t.mv fun b o g e=>⟨g,r.kq b o e g.2⟩
theorem RelC.slot2 {col:Addr→Nat} {ρ:List Sl} {σ:St} {P:List Pe} {H:Hp} (r:RelC C col ρ σ P H) {i:Nat} {dss:List (List PyData)} (h:slot2 ρ i=some dss):∃a as,σ[i]?=some (some (.ref a))∧(∀q,C.hand=some q→a≠q.1)∧H a=some (.lst (as.map V.ref))∧Rws (fun b=>∀q,C.hand=some q→b≠q.1) (Z col) H as dss:=by
 unfold My.slot2 at h
 split at h
 ·rename_i dss' e
  cases h
  obtain⟨a,as,e1,c,e2,nd,t⟩:=r.sl i _ e
  exact⟨a,as,join_some e1,r.notH (by have:=c.1;lia),e2,t.mv (fun b o z e=>⟨z,e⟩) fun b o g e=>⟨r.notH (by have:=g.1;lia),e⟩⟩
 ·rename_i dss' e
  cases h
  obtain⟨a,as,e1,c,e2,t⟩:=r.sl i _ e
  exact⟨a,as,join_some e1,c.2,e2,t.mv (fun b o z e=>⟨z,e⟩) fun b o g e=>⟨g.2,e⟩⟩
 ·rename_i d e
  cases rowsD_eq h
  obtain⟨v,e1,t⟩:=r.sl i _ e
  cases t with
  | lst n e2 t=>
   obtain⟨as,rfl,t2⟩:=th_rows t
   exact⟨_,as,join_some e1,r.notH (by rw[show col _=0 from n];decide),e2,t2.mv (fun b o z e=>⟨z,e⟩) fun b o g e=>⟨r.notH (by rw[show col b=0 from g];decide),e⟩⟩
 ·cases h
theorem da_s {i:Nat} (ha:PE X e (tVar i)) (hr:PA X es (aOf C u)) (hs:starEach (e::es) X.env=(false,eval e X.env)::starEach es X.env:=by rfl):PA X (e::es) (aOf C (aS i u)):=PA.wk (pa_cons ha hr hs) fun σ H Q zz33=>el3 zz33 fun ρ P Qd zz34 ht k=>zz34.elim fun col r=>by
 obtain⟨v,ev⟩:=slot_at r ht.1
 exact⟨v,ev,ρ,P,_,⟨col,r⟩,ht.2,fun _ _ _ _ _ R2 s2 p2 h2=>k _ _ _ _ _ R2 s2 (.s ev p2) h2⟩
def arD (ρ:List Sl) (m:Md) (a:Ar):Option PyData:=match m,a with
 | .sh,.v d=>some d
 | .bo,.v (.list ds)=>some (.list ds)
 | .bo,.s i=>(slotD ρ i).bind fun d=>(listD d).map PyData.list
 | .hd,.s i=>match ρ[i]? with
  | some .hd=>some .none
  | _=>none
 | .b2,.s i=>(slot2 ρ i).map fun dss=>.list (lls dss)
 | .bd,.v d=>some d
 | .bd,.w d=>some d
 | .bd,.s i=>match ρ[i]? with
  | some (.bd d)=>some d
  | some (.sh d)=>some d
  | _=>none
 | _,_=>none
def arsD (ρ:List Sl):List Md→List Ar→Option (List PyData)
 | [],[]=>some []
 | m::ms,a::as=>(arD ρ m a).bind fun d=>(arsD ρ ms as).map (d::·)
 | _,_=>none
theorem listD_eq {d:PyData} {xs:List PyData} (h:listD d=some xs):d=.list xs:=by
 cases d <;> cases h
 rfl
theorem ar_ok {col:Addr→Nat} {ρ:List Sl} {σ:St} {P:List Pe} {H:Hp} (r:RelC C col ρ σ P H) {m:Md} {v:V} {d:PyData} {a:Ar} (ha:match a with | .v d=>Pe.v v d∈P | .s i=>σ[i]?=some (some v) | .w d=>Pe.w v d∈P) (h:arD ρ m a=some d):ArgR (Z col) C.hand H v d m:=by
 unfold arD at h
 split at h
 ·cases h;exact r.pd _ ha
 ·cases h
  have z:ThV (Z col) H v (.list _):=r.pd _ ha
  cases z with
  | lst za e t=>exact⟨_,_,_,rfl,rfl,r.notH (by rw[show col _=0 from za];decide),e,t⟩
 ·rename_i i
  have ha':σ[i]?=some (some v):=ha
  cases q:slotD ρ i with
  | none=>rw[q] at h;cases h
  | some d'=>
   rw[q] at h
   cases q2:listD d' with
   | none=>
    have h':(listD d').map PyData.list=some d:=h
    rw[q2] at h';cases h'
   | some xs=>
    have h':(listD d').map PyData.list=some d:=h
    rw[q2] at h'
    cases h'
    have:=listD_eq q2
    subst this
    unfold slotD at q
    split at q
    ·rename_i d'' e
     cases q
     obtain⟨v',e1,t⟩:=r.sl i _ e
     rw[join_some e1] at ha'
     cases ha'
     cases t with
     | lst za e t=>exact⟨_,_,_,rfl,rfl,r.notH (by rw[show col _=0 from za];decide),e,t⟩
    ·rename_i ds e
     cases q
     obtain⟨a,vs,e1,c,_,e2,t⟩:=r.sl i _ e
     rw[join_some e1] at ha'
     cases ha'
     exact⟨_,_,_,rfl,rfl,r.notH (by lia),e2,t⟩
    ·rename_i ds e
     cases q
     obtain⟨a,vs,e1,c,n,e2,t⟩:=r.sl i _ e
     rw[join_some e1] at ha'
     cases ha'
     exact⟨_,_,_,rfl,rfl,n,e2,t⟩
    ·cases q
 ·rename_i i
  have ha':σ[i]?=some (some v):=ha
  split at h
  ·rename_i e
   cases h
   obtain⟨q,e1,e2⟩:=r.sl i _ e
   rw[join_some e2] at ha'
   cases ha'
   exact⟨q,e1,rfl⟩
  ·cases h
 ·rename_i i
  have ha':σ[i]?=some (some v):=ha
  cases q:slot2 ρ i with
  | none=>rw[q] at h;cases h
  | some dss=>
   rw[q] at h
   cases h
   obtain⟨a,as,e1,n,e2,t⟩:=r.slot2 q
   rw[e1] at ha'
   cases ha'
   exact⟨a,as,dss,rfl,rfl,n,e2,t⟩
 ·cases h
  exact ThV.mv (fun b o z e=>⟨r.notH (by rw[show col b=0 from z];decide),e⟩) (r.pd _ ha)
 ·cases h
  exact ThV.mv (fun b o z e=>⟨z.2,e⟩) (r.le (r.pd _ ha))
 ·rename_i i
  have ha':σ[i]?=some (some v):=ha
  split at h
  ·rename_i e
   cases h
   obtain⟨v',e1,t⟩:=r.sl i _ e
   rw[join_some e1] at ha'
   cases ha'
   exact ThV.mv (fun b o z e=>⟨z.2,e⟩) (r.le t)
  ·rename_i e
   cases h
   obtain⟨v',e1,t⟩:=r.sl i _ e
   rw[join_some e1] at ha'
   cases ha'
   exact ThV.mv (fun b o z e=>⟨r.notH (by rw[show col b=0 from z];decide),e⟩) t
  ·cases h
 ·cases h
theorem ars_ok {col:Addr→Nat} {ρ:List Sl} {σ:St} {P:List Pe} {H:Hp} (r:RelC C col ρ σ P H):∀{ms:List Md} {vs:List V} {ds:List PyData} {as:List Ar},ArV σ P vs as→arsD ρ ms as=some ds→ArgsR (Z col) C.hand H ms vs ds
 | [],_,_,_,.nil,h=>by cases h;exact .nil
 | [],_,_,_,.v _ _,h=>by cases h
 | [],_,_,_,.s _ _,h=>by cases h
 | [],_,_,_,.w _ _,h=>by cases h
 | _::_,_,_,_,.nil,h=>by cases h
 | m::ms,_,ds,_,.v (d:=d0) (as:=as) hm t,h=>by
  have h':((arD ρ m (.v d0)).bind fun d=>(arsD ρ ms as).map (d::·))=some ds:=h
  cases q:arD ρ m (.v d0) with
  | none=>rw[q] at h';cases h'
  | some d=>
   rw[q] at h'
   have h2:(arsD ρ ms as).map (d::·)=some ds:=h'
   cases q2:arsD ρ ms as with
   | none=>rw[q2] at h2;cases h2
   | some ds'=>
    rw[q2] at h2
    cases h2
    exact .cons (ar_ok r (a:=.v d0) hm q) (ars_ok r t q2)
 | m::ms,_,ds,_,.s (i:=i) (as:=as) hm t,h=>by
  have h':((arD ρ m (.s i)).bind fun d=>(arsD ρ ms as).map (d::·))=some ds:=h
  cases q:arD ρ m (.s i) with
  | none=>rw[q] at h';cases h'
  | some d=>
   rw[q] at h'
   have h2:(arsD ρ ms as).map (d::·)=some ds:=h'
   cases q2:arsD ρ ms as with
   | none=>rw[q2] at h2;cases h2
   | some ds'=>
    rw[q2] at h2
    cases h2
    exact .cons (ar_ok r (a:=.s i) hm q) (ars_ok r t q2)
 | m::ms,_,ds,_,.w (d:=d0) (as:=as) hm t,h=>by
  have h':((arD ρ m (.w d0)).bind fun d=>(arsD ρ ms as).map (d::·))=some ds:=h
  cases q:arD ρ m (.w d0) with
  | none=>rw[q] at h';cases h'
  | some d=>
   rw[q] at h'
   have h2:(arsD ρ ms as).map (d::·)=some ds:=h'
   cases q2:arsD ρ ms as with
   | none=>rw[q2] at h2;cases h2
   | some ds'=>
    rw[q2] at h2
    cases h2
    exact .cons (ar_ok r (a:=.w d0) hm q) (ars_ok r t q2)
def dCall (ms:List Md) (sp:DSp) (u:DA)  (ρ:List Sl) (Q:PyData→List Sl→Prop):Prop:=u ρ fun as ρ'=>bnd (arsD ρ' ms as) fun ds=>sp ds fun d=>Q d ρ'
theorem pd_call {ms:List Md} {sp:DSp} {E:XK} (h:PE X e (tCall (spD ms sp) [] E (aOf C u))):PE X e (eOf C (dCall ms sp u)):=PE.wk h fun σ H Q zz35=>el3 zz35 fun ρ P Qd R ht k=>⟨ρ,P,_,R,ht,fun vs as ρ' P' H' zz36 s p q=>zz36.elim fun col r=>by
 obtain⟨ds,hds,q⟩:=bnd_of q
 rw[List.append_nil]
 obtain⟨col,r,tp⟩:=r.norm
 refine⟨Z col,C.hand,ds,_,⟨r.fresh,tp⟩,fun q hq z=>?_,r.hq,ars_ok r p hds,q,fun d v H2 q2 t2 k2 h2=>k _ _ _ _ ⟨col,(((r.mv k2 h2).sub s)).push t2⟩ q2⟩
 have:=r.hnd q hq
 rw[show col q.1=0 from z] at this
 cases this⟩
end
structure ItOk (C:DC) (J:It) (xs:List PyData) (P:List Pe):Prop where
 go:∀{i:Nat} {ρ:List Sl} {σ:St} {P':List Pe} {H:Hp},(∀p∈P,p∈P')→Rel C ρ σ P' H→i < xs.length→J.go i H
 yld:∀{i:Nat} {ρ:List Sl} {σ:St} {P':List Pe} {H H':Hp} {x:V} {d:PyData},(∀p∈P,p∈P')→Rel C ρ σ P' H→xs[i]?=some d→J.yld i H x H'→Rel C ρ σ (.v x d::P') H'
 stop:∀{ρ:List Sl} {σ:St} {P':List Pe} {H:Hp},(∀p∈P,p∈P')→Rel C ρ σ P' H→J.stop xs.length H
theorem th_lst {F:Addr→Prop} {H:Hp} {v:V} {xs:List PyData} (t:ThV F H v (.list xs)):∃a vs,v=.ref a∧F a∧H a=some (.lst vs)∧ThVs F H vs xs:=by
 cases t with
 | lst za e t=>exact⟨_,_,rfl,za,e,t⟩
theorem th_tup {F:Addr→Prop} {H:Hp} {v:V} {xs:List PyData} (t:ThV F H v (.tuple xs)):∃a vs,v=.ref a∧F a∧H a=some (.tup vs)∧ThVs F H vs xs:=by
 cases t with
 | tup za e t=>exact⟨_,_,rfl,za,e,t⟩
def iOf (C:DC) (t:DF):TI:=fun σ H R=>∃ρ P Qd,Rel C ρ σ P H∧t ρ Qd∧∀xs ρ' P' H' J,Rel C ρ' σ P' H'→(∀p∈P,p∈P')→ItOk C J xs P'→Qd xs ρ'→R J H'
section
variable {X:Cx} {C:DC} {tg e:Expr} {t:DE} {u:DF} {pos:Pos}
theorem PI.wk {tg e:Expr} {w w':TI} (h:PI X tg e w) (f:∀σ H R,w' σ H R→w σ H R):PI X tg e w':=fun pins s σ H R I q=>h pins s σ H R I (f σ H R q)
theorem it_list {K:PySem.W.Frag} {a:Addr} {vs:List V} {xs:List PyData} {P:List Pe}:ItOk C (Itl K a) xs (.n a (.lst vs)::.s vs xs::P) where
 go:=fun {i ρ σ P' H} s R hi=>by
  obtain⟨col,r⟩:=R
  have h1:=r.pd _ (s _ List.mem_cons_self)
  have h2:ThVs (Z col) H vs xs:=r.pd _ (s _ (List.mem_cons_of_mem _ List.mem_cons_self))
  have hl:=h2.len
  exact⟨vs,vs[i],SqL.of h1.2.2,List.getElem?_eq_getElem (by lia)⟩
 yld:=fun {i ρ σ P' H H' x d} s R hi y=>by
  obtain⟨e,y⟩:=y
  subst e
  obtain⟨col,r⟩:=R
  have h1:=r.pd _ (s _ List.mem_cons_self)
  have h2:ThVs (Z col) H' vs xs:=r.pd _ (s _ (List.mem_cons_of_mem _ List.mem_cons_self))
  have hx:=y vs (SqL.of h1.2.2)
  obtain⟨d',e1,t⟩:=h2.get hx
  rw[hi] at e1
  cases e1
  exact⟨col,r.push t⟩
 stop:=fun {ρ σ P' H} s R=>by
  obtain⟨col,r⟩:=R
  have h1:=r.pd _ (s _ List.mem_cons_self)
  have h2:ThVs (Z col) H vs xs:=r.pd _ (s _ (List.mem_cons_of_mem _ List.mem_cons_self))
  have hl:=h2.len
  exact⟨vs,SqL.of h1.2.2,by lia⟩
def dIl (t:DE)  (ρ:List Sl) (Q:List PyData→List Sl→Prop):Prop:=t ρ fun d ρ'=>bnd (listD d) fun xs=>Q xs ρ'
theorem di_list (h:PE X e (eOf C t)):PI X tg e (iOf C (dIl t)):=PI.wk (pi_list h) fun _ _ _ zz1=>el3 zz1 fun ρ P _ R ht k=>⟨ρ,P,_,R,ht,fun v d ρ' H' zz2 q=>zz2.elim fun col r=>by
 obtain⟨xs,hx,q⟩:=bnd_of q
 have:=listD_eq hx
 subst this
 obtain⟨a,vs,rfl,za,e1,t1⟩:=th_lst (show ThV (Z col) H' v (.list xs) from r.pd _ List.mem_cons_self)
 refine⟨a,rfl,⟨vs,SqL.of e1⟩,k xs ρ' (.n a (.lst vs)::.s vs xs::P) H' _ ⟨col,?_⟩ (fun _ h=>List.mem_cons_of_mem _ (List.mem_cons_of_mem _ h)) it_list q⟩
 exact ((r.sub fun _ h=>List.mem_cons_of_mem _ h).add (x:=.s vs xs) t1).add (x:=.n a (.lst vs)) ⟨by rw[show col a=0 from za];decide,r.notH (by rw[show col a=0 from za];decide),e1⟩⟩
def tupD:PyData→Option (List PyData)
 | .tuple xs=>some xs
 | _=>none
def dIt (t:DE)  (ρ:List Sl) (Q:List PyData→List Sl→Prop):Prop:=t ρ fun d ρ'=>bnd (tupD d) fun xs=>Q xs ρ'
def dIv (i:Nat)  (ρ:List Sl) (Q:List PyData→List Sl→Prop):Prop:=match ρ[i]? with
 | some (.sh (.list xs))=>Q xs ρ
 | some (.ow xs)=>Q xs (ρ.set i (.sh (.list xs)))
 | some (.bo xs)=>Q xs ρ
 | _=>False
theorem di_var {i:Nat} (h:PE X e (tVar i)):PI X tg e (iOf C (dIv i)):=PI.wk (pi_list h) fun σ H R' zz5=>el3 zz5 fun ρ P Qd zz6 ht k=>zz6.elim fun col r=>by
 unfold dIv at ht
 split at ht
 ·rename_i xs e
  obtain⟨v,e1,t⟩:=r.sl i _ e
  obtain⟨a,vs,rfl,za,e2,t1⟩:=th_lst t
  ·refine⟨_,join_some e1,a,rfl,⟨vs,SqL.of e2⟩,k xs ρ (.n a (.lst vs)::.s vs xs::P) H _ ⟨col,?_⟩ (fun _ h=>List.mem_cons_of_mem _ (List.mem_cons_of_mem _ h)) it_list ht⟩
   exact (r.add (x:=.s vs xs) t1).add (x:=.n a (.lst vs)) ⟨by rw[show col a=0 from za];decide,r.notH (by rw[show col a=0 from za];decide),e2⟩
 ·rename_i xs e
  obtain⟨a,e1,col',r'⟩:=r.freeze e
  obtain⟨a',vs,ea,za,e2,t1⟩:=th_lst (show ThV (Z col') H (.ref a) (.list xs) from r'.pd _ List.mem_cons_self)
  cases ea
  ·refine⟨_,join_some e1,a,rfl,⟨vs,SqL.of e2⟩,k xs _ (.n a (.lst vs)::.s vs xs::P) H _ ⟨col',?_⟩ (fun _ h=>List.mem_cons_of_mem _ (List.mem_cons_of_mem _ h)) it_list ht⟩
   exact ((r'.sub fun _ h=>List.mem_cons_of_mem _ h).add (x:=.s vs xs) t1).add (x:=.n a (.lst vs)) ⟨by rw[show col' a=0 from za];decide,r'.notH (by rw[show col' a=0 from za];decide),e2⟩
 ·rename_i xs e
  obtain⟨a,vs,e1,c,n,e2,t⟩:=r.sl i _ e
  exact⟨_,join_some e1,a,rfl,⟨vs,SqL.of e2⟩,k xs ρ (.n a (.lst vs)::.s vs xs::P) H _ ⟨col,(r.add (x:=.s vs xs) t).add (x:=.n a (.lst vs)) ⟨c,n,e2⟩⟩ (fun _ h=>List.mem_cons_of_mem _ (List.mem_cons_of_mem _ h)) it_list ht⟩
 ·exact ht.elim
def rngD (lo:Int) (n:Nat):List PyData:=(List.range n).map fun i=>.int (lo + ((i:Nat):Int))
theorem rngD_get {lo:Int} {n i:Nat} {d:PyData} (h:(rngD lo n)[i]?=some d):i < n∧d=.int (lo + i):=by
 unfold rngD at h
 rw[List.getElem?_map] at h
 by_cases hi:i < n
 ·rw[List.getElem?_range hi] at h
  cases h
  exact⟨hi,rfl⟩
 ·rw[List.getElem?_eq_none (by rw[List.length_range];lia)] at h
  cases h
theorem it_rng {lo:Int} {n:Nat} {P:List Pe}:ItOk C (Itr lo n) (rngD lo n) P where
 go:=fun {i _ _ _ _} _ _ hi=>by
  have:(rngD lo n).length=n:=by unfold rngD;rw[List.length_map,List.length_range]
  show i < n
  lia
 yld:=fun {i ρ σ P' H H' x d} _ R hi y=>by
  obtain⟨e1,e2⟩:=y
  subst e1 e2
  obtain⟨_,e3⟩:=rngD_get hi
  subst e3
  obtain⟨col,r⟩:=R
  exact⟨col,r.push (.int _)⟩
 stop:=fun _ _=>by
  have:(rngD lo n).length=n:=by unfold rngD;rw[List.length_map,List.length_range]
  show n≤(rngD lo n).length
  lia
def dRng1 (u:DF)  (ρ:List Sl) (Q:List PyData→List Sl→Prop):Prop:=u ρ fun ds ρ'=>match ds with
 | [.int j]=>(-(2 ^ 62)≤j∧j < 2 ^ 62)∧Q (rngD 0 j.toNat) ρ'
 | _=>False
theorem di_rng1 (h:PI X tg e (iRng1 (vOf C u))):PI X tg e (iOf C (dRng1 u)):=PI.wk h fun _ _ _ zz7=>el3 zz7 fun ρ P _ R ht k=>⟨ρ,P,_,R,ht,fun vs ds ρ' P' H' zz8 s p q=>zz8.elim fun col r=>by
 split at q
 ·have t:=p.th r
  obtain⟨v,rfl,t1⟩:=ths1 t
  cases t1
  exact⟨_,rfl,q.1.1,q.1.2,k _ _ P' _ _ ⟨col,r⟩ s it_rng q.2⟩
 ·exact q.elim⟩
def dRng2 (u:DF)  (ρ:List Sl) (Q:List PyData→List Sl→Prop):Prop:=u ρ fun ds ρ'=>match ds with
 | [.int i,.int j]=>(-(2 ^ 62)≤i∧i < 2 ^ 62∧-(2 ^ 62)≤j∧j < 2 ^ 62)∧Q (rngD i (j - i).toNat) ρ'
 | _=>False
def enumD (xs:List PyData):List PyData:=xs.zipIdx.map fun p=>.tuple [.int (p.2:Nat),p.1]
theorem enumD_get {xs:List PyData} {i:Nat} {d:PyData} (h:(enumD xs)[i]?=some d):∃x,xs[i]?=some x∧d=.tuple [.int (i:Nat),x]:=by
 unfold enumD at h
 rw[List.getElem?_map,List.getElem?_zipIdx] at h
 cases q:xs[i]? with
 | none=>rw[q] at h;cases h
 | some x=>rw[q] at h;cases h;exact⟨x,rfl,by rw[Nat.zero_add]⟩
theorem it_enum {K:PySem.W.Frag} {a:Addr} {vs:List V} {xs:List PyData} {P:List Pe}:ItOk C (Ite K a) (enumD xs) (.n a (.lst vs)::.s vs xs::P) where
 go:=fun {i ρ σ P' H} s R hi=>by
  obtain⟨col,r⟩:=R
  have h1:=r.pd _ (s _ List.mem_cons_self)
  have h2:ThVs (Z col) H vs xs:=r.pd _ (s _ (List.mem_cons_of_mem _ List.mem_cons_self))
  have hl:=h2.len
  have hi':i < xs.length:=by unfold enumD at hi;rw[List.length_map,List.length_zipIdx] at hi;exact hi
  exact⟨vs,vs[i],SqL.of h1.2.2,List.getElem?_eq_getElem (by lia)⟩
 yld:=fun {i ρ σ P' H H' x d} s R hi y=>by
  obtain⟨p,v,rfl,hp,rfl,y⟩:=y
  obtain⟨col,r⟩:=R
  have h1:=r.pd _ (s _ List.mem_cons_self)
  have h2:ThVs (Z col) H vs xs:=r.pd _ (s _ (List.mem_cons_of_mem _ List.mem_cons_self))
  have hx:=y vs (SqL.of h1.2.2)
  obtain⟨x,e1,rfl⟩:=enumD_get hi
  obtain⟨d',e2,t⟩:=h2.get hx
  rw[e1] at e2
  cases e2
  exact⟨col,r.tup (.cons (.int _) (.cons t .nil)) hp⟩
 stop:=fun {ρ σ P' H} s R=>by
  obtain⟨col,r⟩:=R
  have h1:=r.pd _ (s _ List.mem_cons_self)
  have h2:ThVs (Z col) H vs xs:=r.pd _ (s _ (List.mem_cons_of_mem _ List.mem_cons_self))
  have hl:=h2.len
  exact⟨vs,SqL.of h1.2.2,by unfold enumD;rw[List.length_map,List.length_zipIdx];lia⟩
def dEnum (t:DE)  (ρ:List Sl) (Q:List PyData→List Sl→Prop):Prop:=t ρ fun d ρ'=>bnd (listD d) fun xs=>Q (enumD xs) ρ'
theorem di_enum {K:PySem.W.Frag} (h:PI X tg e (iEnum K (tCons (eOf C t) tNil))):PI X tg e (iOf C (dEnum t)):=PI.wk h fun _ _ _ zz11=>el3 zz11 fun ρ P _ R ht k=>⟨ρ,P,_,R,ht,fun v d ρ' H' zz12 q=>zz12.elim fun col r=>by
 obtain⟨xs,hx,q⟩:=bnd_of q
 have:=listD_eq hx
 subst this
 obtain⟨a,vs,rfl,za,e1,t1⟩:=th_lst (show ThV (Z col) H' v (.list xs) from r.pd _ List.mem_cons_self)
 refine⟨a,rfl,⟨vs,SqL.of e1⟩,k _ ρ' (.n a (.lst vs)::.s vs xs::P) H' _ ⟨col,?_⟩ (fun _ h=>List.mem_cons_of_mem _ (List.mem_cons_of_mem _ h)) it_enum q⟩
 exact ((r.sub fun _ h=>List.mem_cons_of_mem _ h).add (x:=.s vs xs) t1).add (x:=.n a (.lst vs)) ⟨by rw[show col a=0 from za];decide,r.notH (by rw[show col a=0 from za];decide),e1⟩⟩
end
def dCompL (tt:DT) (te:DE) (ρ:List Sl) (Q:List PyData→Prop):List PyData→List PyData→Prop
 | [],acc=>Q acc
 | x::r,acc=>tt (ρ++[.sh x]) fun b ρ'=>ρ'=ρ++[.sh x]∧if b=true then te (ρ++[.sh x]) fun d ρ''=>ρ''=ρ++[.sh x]∧dCompL tt te ρ Q r (acc++[d]) else dCompL tt te ρ Q r acc
def dComp (j:Nat) (it:DF) (tt:DT) (te:DE)  (ρ:List Sl) (Q:List PyData→List Sl→Prop):Prop:=it ρ fun xs ρ1=>(ρ1.length=j∧xs.length≤1000)∧dCompL tt te ρ1 (fun ds=>Q ds ρ1) xs []
def dTrue  (ρ:List Sl) (Q:Bool→List Sl→Prop):Prop:=Q true ρ
section
variable {X:Cx} {C:DC}
theorem PTs.wk {es:List Expr} {t t':TT} (h:PTs X es t) (f:∀σ H Q,t' σ H Q→t σ H Q):PTs X es t':=fun pins s σ H Q I q=>h pins s σ H Q I (f σ H Q q)
theorem dts_nil:PTs X [] (cOf C dTrue):=PTs.wk pts_nil fun _ _ _ zz13=>el3 zz13 fun _ _ _ R ht k=>k _ _ _ R ht
theorem Rel.ext {ρ:List Sl} {σ:St} {P:List Pe} {H:Hp} {x:V} {d:PyData} (R:Rel C ρ σ (.v x d::P) H):Rel C (ρ++[.sh d]) (σ++[some x]) P H:=by
 obtain⟨col,r⟩:=R
 have t:ThV (Z col) H x d:=r.pd _ List.mem_cons_self
 have r:=r.sub fun _ h=>List.mem_cons_of_mem _ h
 refine⟨col,{ r with sl:=fun i s e=>?_,len:=by rw[List.length_append,List.length_append,r.len];rfl }⟩
 by_cases hi:i < ρ.length
 ·rw[List.getElem?_append_left hi] at e
  rw[List.getElem?_append_left (by rw[←r.len];exact hi)]
  exact r.sl i s e
 ·rw[List.getElem?_append_right (by lia)] at e
  rw[List.getElem?_append_right (by rw[←r.len];lia),←r.len]
  match q:i - ρ.length with
  | 0=>
   rw[q] at e
   cases e
   exact⟨x,rfl,t⟩
  | n + 1=>rw[q] at e;simp at e
theorem RelC.unext {col:Addr→Nat} {ρ ρ':List Sl} {σ σ':St} {P:List Pe} {H:Hp} (r:RelC C col (ρ++ρ') (σ++σ') P H) (hl:ρ.length=σ.length):RelC C col ρ σ P H:=by
 refine { r with sl:=fun i s e=>?_,len:=hl }
 have hi:=(List.getElem?_eq_some_iff.mp e).1
 have:=r.sl i s (by rw[List.getElem?_append_left hi];exact e)
 rw[List.getElem?_append_left (by lia)] at this
 exact this
theorem ThVs.snoc {F:Addr→Prop} {H:Hp} {vs:List V} {ds:List PyData} {v:V} {d:PyData} (t:ThVs F H vs ds) (x:ThV F H v d):ThVs F H (vs++[v]) (ds++[d]):=t.append (.cons x .nil)
theorem pad_eq {σ:St} {n j:Nat} {x:V} (h1:n=σ.length + 1) (h2:j=σ.length):(padS n j σ).set j (some x)=σ++[some x]:=by
 subst h1 h2
 unfold padS
 rw[List.take_of_length_le (by simp),List.set_append_right _ _ (Nat.le_refl _),List.set_append_right _ _ (Nat.le_refl _)]
 simp
theorem comp_rd {it:DF} {tt:DT} {te:DE} {n j:Nat} (hn:n=j + 1) {σ:St} {H:Hp} {Q:VK} (h:fOf C (dComp j it tt te) σ H Q):tComp (iOf C it) n j (fun _=>cOf C tt) (fun _=>eOf C te) σ H Q:=by
 obtain⟨ρ,P,Qd,R,ht,k⟩:=h
 refine⟨ρ,P,_,R,ht,fun xs ρ1 P1 H1 J R1 s1 io q=>?_⟩
 obtain⟨⟨hj,hx⟩,q⟩:=q
 have lz:∀m,m≤1000→m≤sizeLine:=fun m hm=>Nat.le_of_lt (small1000 hm)
 refine⟨fun i m ys H'=>m=xs.length - i∧i≤xs.length∧ys.length≤i∧∃acc,Rel C ρ1 σ (.s ys acc::P1) H'∧dCompL tt te ρ1 (fun ds=>Qd ds ρ1) (xs.drop i) acc,⟨xs.length,by simp,Nat.zero_le _,Nat.le_refl _,[],?_,q⟩,?_⟩
 ·obtain⟨col,r⟩:=R1
  exact⟨col,r.add (x:=.s [] []) .nil⟩
 rintro i m ys H2 ⟨rfl,hi,hy,acc,R2,q2⟩
 refine⟨lz _ (by lia),?_⟩
 have sub2:∀p∈P1,p∈Pe.s ys acc::P1:=fun _ h=>List.mem_cons_of_mem _ h
 have hlen:ρ1.length=σ.length:=by obtain⟨col,r⟩:=R2;exact r.len
 by_cases hlt:i < xs.length
 ·rw[List.drop_eq_getElem_cons hlt] at q2
  refine .inr ⟨io.go sub2 R2 hlt,fun ys' H'=>ys'.length≤i + 1∧∃acc,Rel C ρ1 σ (.s ys' acc::P1) H'∧dCompL tt te ρ1 (fun ds=>Qd ds ρ1) (xs.drop (i + 1)) acc,fun ys' H' zz14=>zz14.elim fun h1 h2=>⟨xs.length - (i + 1),by lia,rfl,hlt,h1,h2⟩,fun x H3 y a=>?_⟩
  have R3:=(io.yld sub2 R2 (List.getElem?_eq_getElem hlt) y).ext
  rw[pad_eq (by rw[hn,←hlen,hj]) (by rw[←hlen,hj])]
  refine⟨_,_,_,R3,q2,fun b ρ' H4 R4 q4=>?_⟩
  obtain⟨rfl,q4⟩:=q4
  cases b with
  | true=>
   refine iteT ⟨_,_,_,R4,by simpa using q4,fun v d ρ'' H5 R5 q5=>?_⟩
   obtain⟨rfl,q5⟩:=q5
   refine⟨by rw[List.length_append];simp;lia,acc++[d],?_,q5⟩
   obtain⟨col,r⟩:=R5
   have t1:ThV (Z col) H5 v d:=r.pd _ List.mem_cons_self
   have t2:ThVs (Z col) H5 ys acc:=r.pd _ (List.mem_cons_of_mem _ List.mem_cons_self)
   exact⟨col,((r.unext hlen).sub fun _ h=>List.mem_cons_of_mem _ (List.mem_cons_of_mem _ h)).add (x:=.s (ys++[v]) (acc++[d])) (t2.snoc t1)⟩
  | false=>
   refine iteF ⟨by lia,acc,?_,by simpa using q4⟩
   obtain⟨col,r⟩:=R4
   exact⟨col,r.unext hlen⟩
 ·have e:i=xs.length:=by lia
  subst e
  rw[List.drop_length] at q2
  refine .inl ⟨io.stop sub2 R2,fun p hp=>k _ _ _ _ _ ?_ hp q2⟩
  obtain⟨col,r⟩:=R2
  exact⟨col,r.sub fun p hp=>List.mem_cons_of_mem _ (s1 p hp),r.pd _ List.mem_cons_self⟩
end
structure DEnds where
 nx:List Sl→Prop
 rt:PyData→Prop
 bk:List Sl→Prop:=fun _=>False
 ct:List Sl→Prop:=fun _=>False
 ro:Sl→Prop:=fun _=>False
abbrev DS:=DEnds→List Sl→Prop
def NewV (C:DC) (col:Addr→Nat) (H:Hp) (v:V):Sl→Prop
 | .ow ds=>∃a vs,v=.ref a∧C.H0 a=none∧col a≠0∧H a=some (.lst vs)∧ThVs (Z col) H vs ds
 | .o2 dss=>∃a as,v=.ref a∧(C.H0 a=none∧col a≠0)∧H a=some (.lst (as.map V.ref))∧(a::as).Nodup∧Rws (fun b=>C.H0 b=none∧col b≠0) (Z col) H as dss
 | .di false ks=>∃a,v=.ref a∧C.H0 a=none∧H a=some (.dT (dEn ks))
 | _=>False
structure EndsR (C:DC) (P:List Pe) (Dd:DEnds) (D:Ends):Prop where
 nx:∀ρ σ H,Rel C ρ σ P H→Dd.nx ρ→D.nx σ H
 rt:∀v d ρ σ H,Rel C ρ σ (.v v d::P) H→Dd.rt d→D.rt v H
 bk:∀ρ σ H,Rel C ρ σ P H→Dd.bk ρ→D.bk σ H
 ct:∀ρ σ H,Rel C ρ σ P H→Dd.ct ρ→D.ct σ H
 ro:∀(v:V) (s:Sl) (ρ:List Sl) σ H col,RelC C col ρ σ P H→NewV C col H v s→Dd.ro s→D.rt v H
def sOf (C:DC) (t:DS):TS:=fun D σ H=>∃ρ P Dd,Rel C ρ σ P H∧t Dd ρ∧EndsR C P Dd D
section
variable {X:Cx} {C:DC} {st:Stmt} {sts:List Stmt} {e:Expr} {t u:DS} {te:DE} {tf:DF} {c:DT} {pos:Pos}
theorem PS.wk {t t':TS} (h:PS X st t) (f:∀D σ H,t' D σ H→t D σ H):PS X st t':=fun pins s σ H D I q=>h pins s σ H D I (f D σ H q)
theorem PSs.wk {t t':TS} (h:PSs X sts t) (f:∀D σ H,t' D σ H→t D σ H):PSs X sts t':=fun pins s σ H D I q=>h pins s σ H D I (f D σ H q)
def dSeq (t u:DS)  (D:DEnds) (ρ:List Sl):Prop:=t { D with nx:=u D } ρ
def dNext  (D:DEnds) (ρ:List Sl):Prop:=D.nx ρ
theorem dss_nil:PSs X [] (sOf C dNext):=PSs.wk pss_nil fun _ _ _ zz15=>el3 zz15 fun _ _ _ R ht E=>E.nx _ _ _ R ht
theorem dss_one (h:PS X st (sOf C t)):PSs X [st] (sOf C t):=pss_one h
theorem dss_cons (h1:PS X st (sOf C t)) (h2:PSs X sts (sOf C u)):PSs X (st::sts) (sOf C (dSeq t u)):=PSs.wk (pss_cons h1 h2) fun _ _ _ zz16=>el3 zz16 fun ρ P Dd R ht E=>⟨ρ,P,{ Dd with nx:=u Dd },R,ht,⟨fun ρ' _ _ R' h=>⟨ρ',P,Dd,R',h,E⟩,E.rt,E.bk,E.ct,E.ro⟩⟩
def Go (f:List Sl→Prop) (ρ:List Sl):Prop:=f ρ
theorem go {f:List Sl→Prop} {ρ:List Sl} (h:f ρ):Go f ρ:=h
def dSeqG (t u:DS) (D:DEnds) (ρ:List Sl):Prop:=t { D with nx:=Go (u D) } ρ
theorem dss_consG (h1:PS X st (sOf C t)) (h2:PSs X sts (sOf C u)):PSs X (st::sts) (sOf C (dSeqG t u)):=PSs.wk (pss_cons h1 h2) fun _ _ _ zz17=>el3 zz17 fun ρ P Dd R ht E=>⟨ρ,P,{ Dd with nx:=Go (u Dd) },R,ht,⟨fun ρ' _ _ R' h=>⟨ρ',P,Dd,R',h,E⟩,E.rt,E.bk,E.ct,E.ro⟩⟩
def dMid (t:DS)  (D:DEnds) (ρ:List Sl):Prop:=∃M:List Sl→Prop,t { D with nx:=M } ρ∧∀ρ',M ρ'→D.nx ρ'
theorem ds_mid (h:PS X st (sOf C t)):PS X st (sOf C (dMid t)):=PS.wk h fun _ _ _ ⟨ρ,P,Dd,R,⟨M,h1,h2⟩,E⟩=>⟨ρ,P,{ Dd with nx:=M },R,h1,⟨fun ρ' σ' H' R' h=>E.nx ρ' σ' H' R' (h2 ρ' h),E.rt,E.bk,E.ct,E.ro⟩⟩
theorem ds_no:PS X st (sOf C fun _ _=>False):=PS.wk ps_no fun _ _ _ zz22=>el3 zz22 fun _ _ _ _ h _=>h
def dRet (te:DE)  (D:DEnds) (ρ:List Sl):Prop:=te ρ fun d _=>D.rt d
theorem ds_ret (h:PE X e (eOf C te)):PS X (.Return (some e) pos) (sOf C (dRet te)):=PS.wk (ps_ret h) fun _ _ _ zz23=>el3 zz23 fun ρ P _ R ht E=>⟨ρ,P,_,R,ht,fun v d _ _ R' q=>E.rt v d _ _ _ R' q⟩
def dIfS (c:DT) (t u:DS)  (D:DEnds) (ρ:List Sl):Prop:=c ρ fun b ρ'=>if b=true then t D ρ' else u D ρ'
theorem ds_if {ce:Expr} {a b:List Stmt} (hc:PT X ce (cOf C c)) (ha:PSs X a (sOf C t)) (hb:PSs X b (sOf C u)):PS X (.If ce a b pos) (sOf C (dIfS c t u)):=PS.wk (ps_if hc ha hb) fun _ _ _ zz26=>el3 zz26 fun ρ P Dd R ht E=>⟨ρ,P,_,R,ht,fun b ρ' _ R' q=>by
 cases b with
 | true=>exact iteT ⟨ρ',P,Dd,R',by simpa using q,E⟩
 | false=>exact iteF ⟨ρ',P,Dd,R',by simpa using q,E⟩⟩
def dDrop (te:DE)  (D:DEnds) (ρ:List Sl):Prop:=te ρ fun _ ρ'=>D.nx ρ'
def dSet (i:Nat) (te:DE)  (D:DEnds) (ρ:List Sl):Prop:=te ρ fun d ρ'=>D.nx (ρ'.set i (.sh d))
theorem ds_set {i:Nat} (hp:PS X st (tAsg (eOf C te) (gName i))):PS X st (sOf C (dSet i te)):=PS.wk hp fun _ _ _ zz28=>el3 zz28 fun ρ P _ R ht E=>⟨ρ,P,_,R,ht,fun v d ρ' H' zz29 q=>zz29.elim fun col r=>E.nx _ _ _ ⟨col,((r.store (i:=i) (r.pd _ List.mem_cons_self)).sub fun _ h=>List.mem_cons_of_mem _ h)⟩ q⟩
def dOwn (i:Nat) (tf:DF)  (D:DEnds) (ρ:List Sl):Prop:=tf ρ fun ds ρ'=>D.nx (ρ'.set i (.ow ds))
theorem ds_own {i:Nat} (hp:PS X st (tAsg (fOf C tf) (gName i))):PS X st (sOf C (dOwn i tf)):=PS.wk hp fun _ _ _ zz30=>el3 zz30 fun ρ P _ R ht E=>⟨ρ,P,_,R,ht,fun p vs ds ρ' H1 zz31 hp q=>el2 zz31 fun col r t=>E.nx _ _ _ (r.own t hp) q⟩
theorem ds_ownC {i n j:Nat} {it:DF} {tt:DT} (hn:n=j + 1) (hp:PS X st (fun D σ H=>tComp (iOf C it) n j (fun _=>cOf C tt) (fun _=>eOf C te) σ H fun v H1=>D.nx (σ.set i (some v)) H1)):PS X st (sOf C (dOwn i (dComp j it tt te))):=
 PS.wk hp fun _ _ _ zz32=>el3 zz32 fun ρ P _ R ht E=>comp_rd hn ⟨ρ,P,_,R,ht,fun p vs ds ρ' H1 zz33 hp q=>el2 zz33 fun col r t=>E.nx _ _ _ (r.own t hp) q⟩
theorem ds_setC {i n j:Nat} {it:DF} {tt:DT} (hn:n=j + 1) (hp:PS X st (fun D σ H=>tComp (iOf C it) n j (fun _=>cOf C tt) (fun _=>eOf C te) σ H fun v H1=>D.nx (σ.set i (some v)) H1)):PS X st (sOf C (dSet i (dF (dComp j it tt te)))):=
 PS.wk hp fun _ _ _ zz34=>el3 zz34 fun ρ P _ R ht E=>comp_rd hn ⟨ρ,P,_,R,ht,fun p vs ds ρ' H1 zz35 hp q=>el2 zz35 fun col r t=>E.nx _ _ _ ⟨col,(((r.lst t hp).store (i:=i) ((r.lst t hp).pd _ List.mem_cons_self)).sub fun _ h=>List.mem_cons_of_mem _ h)⟩ q⟩
def dApp (i:Nat) (te:DE)  (D:DEnds) (ρ:List Sl):Prop:=match ρ[i]? with
 | some (.ow _)=>te ρ fun d ρ'=>match ρ'[i]? with
  | some (.ow ds)=>ds.length≤1000∧D.nx (ρ'.set i (.ow (ds++[d])))
  | _=>False
 | _=>False
theorem ds_app {i:Nat} {K:PySem.W.Frag} (hp:PS X st (tDrop (tBM K "list" rAppend (tVar i) (tCons (eOf C te) tNil)))):PS X st (sOf C (dApp i te)):=PS.wk hp fun D σ H zz36=>el3 zz36 fun ρ P Dd zz37 ht E=>zz37.elim fun col r=>by
 unfold dApp at ht
 split at ht
 ·rename_i ds0 e0
  obtain⟨a,vs,e1,c,n,e2,t⟩:=r.sl i _ e0
  refine⟨.ref a,join_some e1,.inl ⟨rfl,vs,SqL.of e2⟩,ρ,P,_,⟨col,r⟩,ht,fun v d ρ' H' zz38 q=>zz38.elim fun col' r'=>?_⟩
  split at q
  ·rename_i ds e0'
   obtain⟨a',vs',e1',c',n',e2',t'⟩:=r'.sl i _ e0'
   rw[e1] at e1'
   cases e1'
   exact⟨a,vs',v,rfl,rfl,e2',by rw[t'.len];exact small1000 q.1,E.nx _ _ _ ⟨col',((r'.write e0' e1 (t'.snoc (r'.pd _ List.mem_cons_self)))).sub fun _ h=>List.mem_cons_of_mem _ h⟩ q.2⟩
  ·exact q.elim
 ·exact ht.elim
def dSetI (i:Nat) (te tk:DE)  (D:DEnds) (ρ:List Sl):Prop:=te ρ fun d ρ1=>match ρ1[i]? with
 | some (.ow _)=>tk ρ1 fun k ρ2=>match ρ2[i]? with
  | some (.ow ds)=>match k with
   | .int k=>bnd (ixN ds.length k) fun j=>D.nx (ρ2.set i (.ow (ds.set j d)))
   | _=>False
  | _=>False
 | _=>False
theorem ThVs.set {F:Addr→Prop} {H:Hp} {v:V} {d:PyData} (x:ThV F H v d):∀{vs:List V} {ds:List PyData} (j:Nat),ThVs F H vs ds→ThVs F H (vs.set j v) (ds.set j d)
 | _,_,_,.nil=>.nil
 | _,_,0,.cons _ t=>.cons x t
 | _,_,j + 1,.cons y t=>.cons y (ThVs.set x j t)
theorem ds_setI {i:Nat} {tk:DE} (hp:PS X st (tAsg (eOf C te) (gSub (tVar i) (eOf C tk) rSetL))):PS X st (sOf C (dSetI i te tk)):=PS.wk hp fun D σ H zz39=>el3 zz39 fun ρ P Dd R ht E=>⟨ρ,P,_,R,ht,fun v d ρ1 H1 zz40 q1=>zz40.elim fun col1 r1=>by
 split at q1
 ·rename_i ds0 e0
  obtain⟨a,vs,e1,c,n,e2,t⟩:=r1.sl i _ e0
  refine⟨.ref a,join_some e1,ρ1,_,_,⟨col1,r1⟩,q1,fun w k ρ2 H2 zz41 q2=>zz41.elim fun col2 r2=>?_⟩
  split at q2
  ·rename_i ds e0'
   cases k with
   | int k'=>
    obtain⟨j,hj,q⟩:=bnd_of q2
    obtain⟨a',vs',e1',c',n',e2',t'⟩:=r2.sl i _ e0'
    rw[e1] at e1'
    cases e1'
    have tw:ThV (Z col2) H2 w (.int k'):=r2.pd _ List.mem_cons_self
    cases tw
    refine⟨a,vs',k',j,rfl,rfl,e2',by rw[t'.len];exact hj,E.nx _ _ _ ⟨col2,((r2.write e0' e1 (ThVs.set (r2.pd (.v v d) (List.mem_cons_of_mem _ List.mem_cons_self)) j t'))).sub fun _ h=>List.mem_cons_of_mem _ (List.mem_cons_of_mem _ h)⟩ q⟩
   | _=>exact q2.elim
  ·exact q2.elim
 ·exact q1.elim⟩
abbrev DG:=PyData→List Sl→(List Sl→Prop)→Prop
def gOf (C:DC) (g:DG):TG:=fun v σ H Q=>∃ρ P d Qd,Rel C ρ σ (.v v d::P) H∧g d ρ Qd∧∀ρ' σ',Rel C ρ' σ' P H→Qd ρ'→Q σ' H
theorem PG.wk {tg:Expr} {g g':TG} (h:PG X tg g) (f:∀v σ H Q,g' v σ H Q→g v σ H Q):PG X tg g':=fun pins s σ H v u Q I r q=>h pins s σ H v u Q I r (f v σ H Q q)
def gN (i:Nat)  (d:PyData) (ρ:List Sl) (Q:List Sl→Prop):Prop:=Q (ρ.set i (.sh d))
theorem dg_name {tg:Expr} {i:Nat} (h:PG X tg (gName i)):PG X tg (gOf C (gN i)):=PG.wk h fun _ _ _ _ ⟨_,_,_,_,⟨col,r⟩,ht,k⟩=>k _ _ ⟨col,((r.store (i:=i) (r.pd _ List.mem_cons_self)).sub fun _ h=>List.mem_cons_of_mem _ h)⟩ ht
def gT2 (i j:Nat)  (d:PyData) (ρ:List Sl) (Q:List Sl→Prop):Prop:=match d with
 | .tuple [a,b]=>Q ((ρ.set i (.sh a)).set j (.sh b))
 | _=>False
def gT3 (i j k:Nat)  (d:PyData) (ρ:List Sl) (Q:List Sl→Prop):Prop:=match d with
 | .tuple [a,b,c]=>Q (((ρ.set i (.sh a)).set j (.sh b)).set k (.sh c))
 | _=>False
theorem dg_t2 {tg:Expr} {i j:Nat} {K:PySem.W.Frag} (h:PG X tg (gTup K 2 (gCons (gName i) (gCons (gName j) gNil)))):PG X tg (gOf C (gT2 i j)):=PG.wk h fun v σ H Q ⟨ρ,P,d,Qd,⟨col,r⟩,ht,k⟩=>by
 unfold gT2 at ht
 split at ht
 ·rename_i a b
  have z:ThV (Z col) H v (.tuple [a,b]):=r.pd _ List.mem_cons_self
  cases z with
  | tup za e t=>
   obtain⟨x,y,rfl,t1,t2⟩:=ths2 t
   exact⟨_,_,rfl,SqT.of e,rfl,x,[y],rfl,y,[],rfl,rfl,k _ _ ⟨col,(((r.store (i:=i) t1).store (i:=j) t2).sub fun _ h=>List.mem_cons_of_mem _ h)⟩ ht⟩
 ·exact ht.elim
theorem dg_t3 {tg:Expr} {i j l:Nat} {K:PySem.W.Frag} (h:PG X tg (gTup K 3 (gCons (gName i) (gCons (gName j) (gCons (gName l) gNil))))):PG X tg (gOf C (gT3 i j l)):=PG.wk h fun v σ H Q ⟨ρ,P,d,Qd,⟨col,r⟩,ht,k⟩=>by
 unfold gT3 at ht
 split at ht
 ·rename_i a b c
  have z:ThV (Z col) H v (.tuple [a,b,c]):=r.pd _ List.mem_cons_self
  cases z with
  | tup za e t=>
   cases t with
   | cons t1 t=>
    obtain⟨y,z,rfl,t2,t3⟩:=ths2 t
    exact⟨_,_,rfl,SqT.of e,rfl,_,[y,z],rfl,y,[z],rfl,z,[],rfl,rfl,k _ _ ⟨col,((((r.store (i:=i) t1).store (i:=j) t2).store (i:=l) t3).sub fun _ h=>List.mem_cons_of_mem _ h)⟩ ht⟩
 ·exact ht.elim
def dAsg (te:DE) (g:DG)  (D:DEnds) (ρ:List Sl):Prop:=te ρ fun d ρ'=>g d ρ' D.nx
def Blk (t:DS) (D:DEnds) (ρ:List Sl):Prop:=t D ρ
def dFor (it:DF) (g:DG) (tb:DS) (D:DEnds) (ρ:List Sl):Prop:=it ρ fun xs ρ1=>∃I:List PyData→List Sl→Prop,I xs ρ1∧(∀x r ρ,I (x::r) ρ→g x ρ (Blk tb { nx:=I r,ct:=I r,bk:=D.nx,rt:=D.rt }))∧∀ρ,I [] ρ→D.nx ρ
theorem ds_for {it:DF} {g:DG} {tb:DS} (hp:PS X st (tFor (iOf C it) (gOf C g) (sOf C tb))):PS X st (sOf C (dFor it g tb)):=PS.wk hp fun D σ H zz46=>el3 zz46 fun ρ P Dd R ht E=>⟨ρ,P,_,R,ht,fun xs ρ1 P1 H1 J R1 s1 io q=>by
 obtain⟨I,q0,qs,qd⟩:=q
 refine⟨fun i m σ' H'=>m=xs.length - i∧i≤xs.length∧∃ρ',Rel C ρ' σ' P1 H'∧I (xs.drop i) ρ',⟨xs.length,by simp,Nat.zero_le _,ρ1,R1,q0⟩,?_⟩
 rintro i m σ2 H2 ⟨rfl,hi,ρ2,R2,q2⟩
 by_cases hlt:i < xs.length
 ·rw[List.drop_eq_getElem_cons hlt] at q2
  refine .inr ⟨io.go (fun _ h=>h) R2 hlt,fun σ' H'=>∃ρ',Rel C ρ' σ' P1 H'∧I (xs.drop (i + 1)) ρ',fun σ' H' h=>⟨xs.length - (i + 1),by lia,rfl,hlt,h⟩,fun x H3 y=>?_⟩
  refine⟨ρ2,P1,_,_,io.yld (fun _ h=>h) R2 (List.getElem?_eq_getElem hlt) y,qs _ _ _ q2,fun ρ3 σ3 R3 q3=>?_⟩
  refine⟨ρ3,P1,⟨I (xs.drop (i + 1)),Dd.rt,Dd.nx,I (xs.drop (i + 1)),fun _=>False⟩,R3,q3,⟨fun ρ4 σ4 H4 R4 q4=>⟨ρ4,R4,q4⟩,fun v d ρ4 σ4 H4 R4 q4=>E.rt v d ρ4 σ4 H4 (R4.sub (sub_cons s1)) q4,fun ρ4 σ4 H4 R4 q4=>E.nx ρ4 σ4 H4 (R4.sub s1) q4,fun ρ4 σ4 H4 R4 q4=>⟨ρ4,R4,q4⟩,fun _ _ _ _ _ _ _ _ h=>h.elim⟩⟩
 ·have e:i=xs.length:=by lia
  subst e
  rw[List.drop_length] at q2
  exact .inl ⟨io.stop (fun _ h=>h) R2,E.nx _ _ _ (R2.sub s1) (qd _ q2)⟩⟩
def dWhile (c:DT) (tb:DS)  (D:DEnds) (ρ:List Sl):Prop:=∃W:Nat→List Sl→Prop,(∃m,W m ρ)∧∀m ρ,W m ρ→c ρ fun b ρ1=>if b=true then Blk tb { nx:=fun ρ'=>∃m',m' < m∧W m' ρ',ct:=fun ρ'=>∃m',m' < m∧W m' ρ',bk:=D.nx,rt:=D.rt } ρ1 else D.nx ρ1
theorem ds_while {tb:DS} (hp:PS X st (tWhile (cOf C c) (sOf C tb))):PS X st (sOf C (dWhile c tb)):=PS.wk hp fun D σ H ⟨ρ,P,Dd,R,⟨W,⟨m0,w0⟩,turn⟩,E⟩=>by
 refine⟨fun m σ' H'=>∃ρ',Rel C ρ' σ' P H'∧W m ρ',⟨m0,ρ,R,w0⟩,?_⟩
 rintro m σ1 H1 ⟨ρ1,R1,w1⟩
 refine⟨ρ1,P,_,R1,turn m ρ1 w1,fun b ρ2 H2 R2 q2=>?_⟩
 cases b with
 | true=>
  refine iteT ⟨fun σ' H'=>∃ρ',Rel C ρ' σ' P H'∧∃m',m' < m∧W m' ρ',fun σ' H' zz48=>zz48.elim fun ρ' zz49=>zz49.elim fun R' zz50=>zz50.elim fun m' zz51=>zz51.elim fun hm w=>⟨m',hm,ρ',R',w⟩,ρ2,P,⟨fun ρ'=>∃m',m' < m∧W m' ρ',Dd.rt,Dd.nx,fun ρ'=>∃m',m' < m∧W m' ρ',fun _=>False⟩,R2,by simpa [Blk] using q2,⟨fun ρ4 σ4 H4 R4 q4=>⟨ρ4,R4,q4⟩,E.rt,fun ρ4 σ4 H4 R4 q4=>E.nx ρ4 σ4 H4 R4 q4,fun ρ4 σ4 H4 R4 q4=>⟨ρ4,R4,q4⟩,fun _ _ _ _ _ _ _ _ h=>h.elim⟩⟩
 | false=>exact iteF (E.nx _ _ _ R2 (by simpa using q2))
end
open PySem.Spec PyProof.Rows
def slOf:Md→PyData→Sl
 | .sh,d=>.sh d
 | .bo,.list ds=>.bo ds
 | .bo,_=>.no
 | .hd,_=>.hd
 | .b2,d=>match rowsD d with
  | some dss=>.b2 dss
  | none=>.no
 | .bd,d=>.bd d
theorem rowsL_lls:∀dss:List (List PyData),rowsL (lls dss)=some dss
 | []=>rfl
 | ds::dss=>by
  show (rowsL (lls dss)).map (ds::·)=some (ds::dss)
  rw[rowsL_lls dss];rfl
theorem slOf_b2 (dss:List (List PyData)):slOf .b2 (.list (lls dss))=.b2 dss:=by
 show (match rowsL (lls dss) with
  | some dss=>Sl.b2 dss
  | none=>.no)=_
 rw[rowsL_lls]
def startD (n:Nat):List Md→List PyData→List Sl
 | m::ms,d::ds=>slOf m d::startD (n - 1) ms ds
 | _,_=>List.replicate n .no
def startN:List Str→List Md→List PyData→List Sl
 | [],_,_=>[]
 | _::N,ms,ds=>(match ms,ds with
  | m::_,d::_=>slOf m d
  | _,_=>.no)::startN N ms.tail ds.tail
theorem startN_nil:∀N:List Str,startN N [] []=List.replicate N.length .no
 | []=>rfl
 | _::N=>by
  show Sl.no::startN N [] []=_
  rw[startN_nil N];rfl
theorem startN_eq:∀{N:List Str} {ms:List Md} {ds:List PyData},ms.length≤N.length→ds.length=ms.length→startN N ms ds=startD N.length ms ds
 | N,[],[],_,_=>startN_nil N
 | _::N,m::ms,d::ds,h1,h2=>by
  show slOf m d::startN N ms ds=slOf m d::startD (N.length + 1 - 1) ms ds
  rw[startN_eq (by simpa using h1) (by simpa using h2)];rfl
 | [],_::_,_,h,_=>by simp at h
 | _,[],_::_,_,h=>by simp at h
 | _,_::_,[],_,h=>by simp at h
section
variable {P:Program} {w:World} {K:PySem.W.Frag} {mg:Str→Option Value} {base:Heap}
theorem start_sl {C:DC} {col:Addr→Nat} {H:Hp} {F:Addr→Prop} {hand:Option (Addr×Addr)} (hC:C.hand=hand) (hH:C.H0=H) (f:∀b,F b→col b=0) (lo:∀b,col b≤1) {ms:List Md} {vs:List V} {ds:List PyData} {n:Nat} (ar:ArgsR F hand H ms vs ds) :
  ∀(i:Nat) (s:Sl),(startD n ms ds)[i]?=some s→∀j:Nat,SlR C col H j ((vs.map some++List.replicate (n - vs.length) none)[i]?).join s:=by
 induction ar generalizing n with
 | nil=>
  intro i s e j
  have e':(List.replicate n Sl.no)[i]?=some s:=e
  rw[List.getElem?_replicate] at e'
  split at e'
  ·cases e';trivial
  ·cases e'
 | @cons m v d ms vs ds a t ih=>
  intro i s e j
  have e':(slOf m d::startD (n - 1) ms ds)[i]?=some s:=e
  cases i with
  | zero=>
   cases e'
   show SlR C col H j (some v) (slOf m d)
   have mv0:∀b o,F b→H b=some o→Z col b∧H b=some o:=fun b o z e=>⟨f b z,e⟩
   cases m with
   | sh=>exact⟨v,rfl,ThV.mv mv0 a⟩
   | bo=>
    obtain⟨ad,us,es,rfl,rfl,nh,e2,t2⟩:=a
    exact⟨ad,us,rfl,lo ad,by rw[hC];exact nh,e2,ThVs.mv mv0 t2⟩
   | hd=>
    obtain⟨q,hq,rfl⟩:=a
    exact⟨q,hC.trans hq,rfl⟩
   | b2=>
    obtain⟨ad,as,dss,rfl,rfl,nh,e2,t2⟩:=a
    rw[slOf_b2]
    exact⟨ad,as,rfl,⟨lo ad,by rw[hC];exact nh⟩,e2,t2.mv mv0 fun b o g e=>⟨⟨lo b,by rw[hC];exact g⟩,e⟩⟩
   | bd=>exact⟨v,rfl,ThV.mv (fun b o g e=>⟨⟨(by rw[hH,e];exact fun q=>nomatch q),by rw[hC];exact g⟩,by rw[hH];exact e⟩) a⟩
  | succ i=>
   have:=ih (n:=n - 1) i s e' j
   rw[List.map_cons,List.cons_append,List.getElem?_cons_succ,List.length_cons,show n - (vs.length + 1)=n - 1 - vs.length by lia]
   exact this
theorem start_len {F:Addr→Prop} {hand:Option (Addr×Addr)} {H:Hp} {ms:List Md} {vs:List V} {ds:List PyData} {n:Nat} (a:ArgsR F hand H ms vs ds) (h:ms.length≤n):(startD n ms ds).length=n:=by
 induction a generalizing n with
 | nil=>show (List.replicate n Sl.no).length=n;rw[List.length_replicate]
 | @cons m v d ms vs ds a t ih=>
  show (slOf m d::startD (n - 1) ms ds).length=n
  rw[List.length_cons] at h
  rw[List.length_cons,ih (by lia)]
  lia
open Classical in
theorem fn_d {x qual:Str} {st:Stmt} {f:Addr} {fd:FuncData} {N ps:List Str} {k:Nat} {sp:DSp} {ms:List Md} (F:Fun K x qual st f fd) (S:FnScope N ps (defScope st)) (hm:ms.length=ps.length)
  (hb:∀(C:DC) (cdv:Value) (A:Around) (outer:List Env) (s:Shared) (H:Hp) (E:XK),Room k (A.deeper (envOfC qual (defScope st) s.heap.objs.size f cdv))→
   ∃t,PSs (cxOf CX0 P w K mg base N qual (defScope st) f cdv A outer s H E).nox (defBody st) (sOf C t)∧∀ds Q,ds.length=ms.length→sp ds Q→t { nx:=fun _=>Q .none,rt:=Q } (startN N ms ds)) :
  FnOk P w K mg base CX0 (k + 1) f fd ps (spD ms sp):=by
 refine F.ok S (fun vs H Q E h=>?_) (fun cdv A outer s H vs Q E hr h=>?_)
 ·obtain⟨_,_,_,_,_,_,_,a,_⟩:=h
  rw[a.len.1,hm]
 ·obtain⟨G,hand,ds,Qd,h1,h2,h3,a,h4,h5⟩:=h
  obtain⟨t,ht,q⟩:=hb ⟨G,hand,H⟩ cdv A outer s H E hr
  have hN:ps.length≤N.length:=by have:=congrArg List.length S.pre;rw[List.length_take] at this;lia
  let col:Addr→Nat:=fun b=>if G b then 0 else 1
  have c0:∀b,G b→col b=0:=fun b hb=>if_pos hb
  have c1:∀b,¬ G b→col b=1:=fun b hb=>if_neg hb
  have lo:∀b,col b≤1:=fun b=>by
   by_cases z:G b
   ·rw[c0 b z];lia
   ·rw[c1 b z];lia
  refine⟨_,ht,startD N.length ms ds,[],⟨fun _=>Qd .none,Qd,fun _=>False,fun _=>False,fun _=>False⟩,⟨col,fun b hb=>c0 b (h1.1 b hb),fun b hb=>?_,fun q hq=>c1 _ (h2 q hq),fun i s e=>start_sl (C:=⟨G,hand,H⟩) rfl rfl c0 lo a i s e i,fun p hp=>(nomatch hp),Kq.refl,h3,h3,h1,?_⟩,by rw[←startN_eq (by lia) a.len.2];exact q ds Qd a.len.2 h4,⟨fun ρ σ H' R h=>?_,fun v d ρ σ H' R h=>?_,fun _ _ _ _ h=>h.elim,fun _ _ _ _ h=>h.elim,fun _ _ _ _ _ _ _ _ h=>h.elim⟩⟩
  ·by_cases z:G b
   ·exact z
   ·rw[c1 b z] at hb;cases hb
  ·rw[start_len a (by lia)]
   unfold L2.start
   rw[List.length_append,List.length_map,List.length_replicate,a.len.1]
   lia
  ·obtain⟨col',r⟩:=R
   exact h5 _ _ _ h .non r.kq r.hq
  ·obtain⟨col',r⟩:=R
   exact h5 _ _ _ h (ThV.mv (fun b o z e=>⟨r.inF b z,e⟩) (r.pd _ List.mem_cons_self)) r.kq r.hq
open Classical in
end
end My
namespace My
open PySem L2
section
variable {X:Cx} {C:DC} {tg e a b:Expr} {t ta tb:DE} {u:DF} {pos:Pos}
def intsD:List PyData→Option (List Int)
 | []=>some []
 | .int b::r=>(intsD r).map (b::·)
 | _::_=>none
theorem ints_of {F:Addr→Prop} {H:Hp} {ds:List PyData} {vs:List V} {bs:List Int} (t:ThVs F H vs ds) (h:intsD ds=some bs):vs=bs.map V.int:=by
 induction ds generalizing vs bs with
 | nil=>cases t;cases h;rfl
 | cons d r ih=>
  cases t with
  | cons x y=>
   cases x with
   | int b=>
    have h':(intsD r).map (b::·)=some bs:=h
    cases q:intsD r with
    | none=>rw[q] at h';cases h'
    | some cs=>
     rw[q] at h'
     cases h'
     rw[ih y q];rfl
   | _=>cases h
theorem intsD_map:∀ns:List Int,intsD (ns.map PyData.int)=some ns
 | []=>rfl
 | n::ns=>by
  show (intsD (ns.map PyData.int)).map (n::·)=some (n::ns)
  rw[intsD_map ns];rfl
def gIn (neg:Bool)  (a b:PyData) (Q:PyData→Prop):Prop:=match a,b with
 | .int i,.list xs=>bnd (intsD xs) fun ns=>Q (.bool (if neg then !(ns.contains i) else ns.contains i))
 | _,_=>False
theorem inV_ints (i:Int):∀ns:List Int,inV (V.int i) (ns.map V.int)=ns.contains i
 | []=>rfl
 | n::ns=>by
  have:=inV_ints i ns
  unfold inV at this ⊢
  rw[List.map_cons,List.any_cons,this,List.contains_cons]
  congr 1
  show (n == i)=(i == n)
  exact Bool.beq_comm
theorem flat_ints:∀ns:List Int,(ns.map V.int).all flatV=true
 | []=>rfl
 | n::ns=>by rw[List.map_cons,List.all_cons,flat_ints ns];rfl
theorem ok_in {K:PySem.W.Frag} {neg:Bool}:OpOk C (rIn K neg) (gIn neg):=by
 intro ρ σ P H v w a b Qd Q R hg k
 unfold gIn at hg
 split at hg
 ·obtain⟨ns,hn,q⟩:=bnd_of hg
  obtain⟨col,r,t1,t2⟩:=th2 R
  cases t1
  cases t2 with
  | lst za e t=>
   have z:=ints_of t hn
   subst z
   refine⟨_,_,rfl,.inl (SqL.of e),rfl,flat_ints ns,k _ _ _ ⟨col,r.push ?_⟩ q⟩
   rw[inV_ints]
   exact .bl _
 ·exact hg.elim
def dIndexV (i:Nat) (tk:DE)  (ρ:List Sl) (Q:PyData→List Sl→Prop):Prop:=bnd (slotD ρ i) fun a0=>bnd (listD a0) fun _=>tk ρ fun k ρ2=>match k with
 | .int k=>bnd (slotD ρ2 i) fun a=>bnd (listD a) fun xs=>bnd (intsD xs) fun ns=>(k∈ns∧ns.length≤100000)∧Q (.int (ns.idxOf k:Nat)) ρ2
 | _=>False
theorem pd_indexv {i:Nat} {K:PySem.W.Frag} (h:PE X e (tBM K "list" (rIndex K) (tVar i) (tCons (eOf C t) tNil))):PE X e (eOf C (dIndexV i t)):=PE.wk h fun σ H Q zz1=>el3 zz1 fun ρ P Qd zz2 ht k=>zz2.elim fun col0 r0=>by
 obtain⟨a0,h0,ht⟩:=bnd_of ht
 obtain⟨xs0,hx0,ht⟩:=bnd_of ht
 have:=listD_eq hx0
 subst this
 obtain⟨v,ev,t0⟩:=r0.slot h0
 obtain⟨a,vs,rfl,e0,_⟩:=t0.lst
 refine⟨_,ev,.inl ⟨rfl,vs,SqL.of e0⟩,ρ,P,_,⟨col0,r0⟩,ht,fun w d ρ2 H2 R2 h2=>?_⟩
 split at h2
 ·rename_i kk
  obtain⟨a1,h1,h2⟩:=bnd_of h2
  obtain⟨xs,hx,h2⟩:=bnd_of h2
  obtain⟨ns,hn,⟨hk,hz⟩,q⟩:=bnd_of h2
  have:=listD_eq hx
  subst this
  obtain⟨col,r⟩:=R2
  obtain⟨v',ev',t1⟩:=r.slot h1
  rw[ev] at ev'
  cases ev'
  obtain⟨a',vs',e',e1,t1⟩:=t1.lst
  cases e'
  have z:=ints_of t1 hn
  subst z
  have tw:ThV (Z col) H2 w (.int kk):=r.pd _ List.mem_cons_self
  cases tw
  exact⟨a,ns,kk,rfl,rfl,SqL.of e1,hk,hz,k _ _ _ _ ⟨col,(r.sub fun _ h=>List.mem_cons_of_mem _ h).push (.int _)⟩ q⟩
 ·exact h2.elim
def dLrev (t:DE)  (ρ:List Sl) (Q:List PyData→List Sl→Prop):Prop:=t ρ fun d ρ'=>bnd (listD d) fun xs=>Q xs.reverse ρ'
theorem ThVs.rev {F:Addr→Prop} {H:Hp} {vs:List V} {ds:List PyData} (t:ThVs F H vs ds):ThVs F H vs.reverse ds.reverse:=by
 induction vs generalizing ds with
 | nil=>cases t;exact .nil
 | cons v vs ih=>
  cases t with
  | cons x t=>
   rw[List.reverse_cons,List.reverse_cons]
   exact (ih t).append (.cons x .nil)
theorem pf_lrev {K:PySem.W.Frag} (h:PE X e (fun σ H Q=>tCons (eOf C t) tNil σ H fun vs H1=>∃a xs,vs=[.ref a]∧SqL K H1 a xs∧∀p,H1 p=none→Q (.ref p) (upd H1 p (.lst xs.reverse)))):PE X e (fOf C (dLrev t)):=PE.wk h fun _ _ _ zz3=>el3 zz3 fun ρ P _ R ht k=>⟨ρ,P,_,R,ht,fun v d ρ' H' zz4 q=>zz4.elim fun col r=>by
 obtain⟨xs,hx,q⟩:=bnd_of q
 have:=listD_eq hx
 subst this
 obtain⟨a,vs,rfl,e,t⟩:=Red.lst (.th (r.pd _ List.mem_cons_self))
 exact⟨a,vs,rfl,SqL.of e,fun p hp=>k _ _ _ _ _ ⟨col,r.sub fun _ h=>List.mem_cons_of_mem _ h,t.rev⟩ hp q⟩⟩
theorem it_rev {K:PySem.W.Frag} {a:Addr} {vs:List V} {xs:List PyData} {P:List Pe}:ItOk C (Itv K a vs.length) xs.reverse (.n a (.lst vs)::.s vs xs::P) where
 go:=fun {i ρ σ P' H} s R hi=>by
  obtain⟨col,r⟩:=R
  have h1:=r.pd _ (s _ List.mem_cons_self)
  have h2:ThVs (Z col) H vs xs:=r.pd _ (s _ (List.mem_cons_of_mem _ List.mem_cons_self))
  have hl:=h2.len
  rw[List.length_reverse] at hi
  exact⟨vs,vs.reverse[i]'(by rw[List.length_reverse];lia),SqL.of h1.2.2,rfl,List.getElem?_eq_getElem _⟩
 yld:=fun {i ρ σ P' H H' x d} s R hi y=>by
  obtain⟨e,y⟩:=y
  subst e
  obtain⟨col,r⟩:=R
  have h1:=r.pd _ (s _ List.mem_cons_self)
  have h2:ThVs (Z col) H' vs xs:=r.pd _ (s _ (List.mem_cons_of_mem _ List.mem_cons_self))
  have hx:=y vs (SqL.of h1.2.2)
  obtain⟨d',e1,t⟩:=h2.rev.get hx
  rw[hi] at e1
  cases e1
  exact⟨col,r.push t⟩
 stop:=fun {ρ σ P' H} s R=>by
  obtain⟨col,r⟩:=R
  have h2:ThVs (Z col) H vs xs:=r.pd _ (s _ (List.mem_cons_of_mem _ List.mem_cons_self))
  have hl:=h2.len
  show vs.length≤xs.reverse.length
  rw[List.length_reverse];lia
def dIrev (t:DE)  (ρ:List Sl) (Q:List PyData→List Sl→Prop):Prop:=t ρ fun d ρ'=>bnd (listD d) fun xs=>Q xs.reverse ρ'
theorem di_rev {K:PySem.W.Frag} (h:PI X tg e (iRev K (tCons (eOf C t) tNil))):PI X tg e (iOf C (dIrev t)):=PI.wk h fun _ _ _ zz5=>el3 zz5 fun ρ P _ R ht k=>⟨ρ,P,_,R,ht,fun v d ρ' H' zz6 q=>zz6.elim fun col r=>by
 obtain⟨xs,hx,q⟩:=bnd_of q
 have:=listD_eq hx
 subst this
 obtain⟨a,vs,rfl,za,e1,t1⟩:=th_lst (show ThV (Z col) H' v (.list xs) from r.pd _ List.mem_cons_self)
 refine⟨a,vs,rfl,SqL.of e1,k _ ρ' (.n a (.lst vs)::.s vs xs::P) H' _ ⟨col,?_⟩ (fun _ h=>List.mem_cons_of_mem _ (List.mem_cons_of_mem _ h)) it_rev q⟩
 exact ((r.sub fun _ h=>List.mem_cons_of_mem _ h).add (x:=.s vs xs) t1).add (x:=.n a (.lst vs)) ⟨by rw[show col a=0 from za];decide,r.notH (by rw[show col a=0 from za];decide),e1⟩⟩
theorem pf_comp {n j:Nat} {it:DF} {tt:DT} {te:DE} (hn:n=j + 1) (h:PE X e (tComp (iOf C it) n j (fun _=>cOf C tt) (fun _=>eOf C te))):PE X e (fOf C (dComp j it tt te)):=PE.wk h fun _ _ _ h=>comp_rd hn h
def gB2 (f:Bool→Bool→Bool)  (a b:PyData) (Q:PyData→Prop):Prop:=match a,b with
 | .bool i,.bool j=>Q (.bool (f i j))
 | _,_=>False
end
theorem atI_0 {α:Type} {x:α} {xs:List α}:atI (x::xs) 0=some x:=atI_nat (j:=0) rfl
theorem a1_0 {α:Type} {x:α}:atI [x] 0=some x:=rfl
theorem a2_0 {α:Type} {x y:α}:atI [x,y] 0=some x:=rfl
theorem a2_1 {α:Type} {x y:α}:atI [x,y] 1=some y:=rfl
theorem a3_0 {α:Type} {x y z:α}:atI [x,y,z] 0=some x:=rfl
theorem a3_1 {α:Type} {x y z:α}:atI [x,y,z] 1=some y:=rfl
theorem a3_2 {α:Type} {x y z:α}:atI [x,y,z] 2=some z:=rfl
theorem iteTT {a b:Prop}:(if true=true then a else b)=a:=rfl
theorem iteFF {a b:Prop}:(if false=true then a else b)=b:=rfl
theorem iteTB {a b:Bool}:(if true=true then a else b)=a:=rfl
theorem iteFB {a b:Bool}:(if false=true then a else b)=b:=rfl
theorem iteTI {a b:Int}:(if true=true then a else b)=a:=rfl
theorem iteFI {a b:Int}:(if false=true then a else b)=b:=rfl
theorem bnd_some {α:Type} {a:α} {Q:α→Prop}:bnd (some a) Q=Q a:=rfl
theorem compM {α:Type} {te:DE} {ρ:List Sl} {Q:List PyData→Prop} {g f:α→PyData}:∀{xs:List α} {acc:List PyData},(∀x∈xs,∀Q':PyData→List Sl→Prop,Q' (f x) (ρ++[.sh (g x)])→te (ρ++[.sh (g x)]) Q')→Q (acc++xs.map f)→dCompL dTrue te ρ Q (xs.map g) acc
 | [],acc,_,q=>by
  have q':Q (acc++[]):=q
  rw[List.append_nil] at q'
  exact q'
 | x::r,acc,h,q=>by
  refine⟨rfl,?_⟩
  rw[if_pos rfl]
  refine h x List.mem_cons_self _ ⟨rfl,compM (fun y hy=>h y (List.mem_cons_of_mem _ hy)) ?_⟩
  rw[List.append_assoc]
  exact q
theorem compF {α:Type} {tt:DT} {te:DE} {ρ:List Sl} {Q:List PyData→Prop} {g f:α→PyData} {p:α→Bool}:∀{xs:List α} {acc:List PyData},(∀x∈xs,∀Q':Bool→List Sl→Prop,Q' (p x) (ρ++[.sh (g x)])→tt (ρ++[.sh (g x)]) Q')→(∀x∈xs,p x=true→∀Q':PyData→List Sl→Prop,Q' (f x) (ρ++[.sh (g x)])→te (ρ++[.sh (g x)]) Q')→
  Q (acc++(xs.filter p).map f)→dCompL tt te ρ Q (xs.map g) acc
 | [],acc,_,_,q=>by
  have q':Q (acc++[]):=q
  rw[List.append_nil] at q'
  exact q'
 | x::r,acc,h1,h2,q=>by
  refine h1 x List.mem_cons_self _ ⟨rfl,?_⟩
  cases e:p x with
  | true=>
   rw[if_pos rfl]
   refine h2 x List.mem_cons_self e _ ⟨rfl,compF (fun y hy=>h1 y (List.mem_cons_of_mem _ hy)) (fun y hy=>h2 y (List.mem_cons_of_mem _ hy)) ?_⟩
   rw[List.filter_cons_of_pos e] at q
   rw[List.append_assoc]
   exact q
  | false=>
   rw[if_neg Bool.false_ne_true]
   refine compF (fun y hy=>h1 y (List.mem_cons_of_mem _ hy)) (fun y hy=>h2 y (List.mem_cons_of_mem _ hy)) ?_
   rw[List.filter_cons_of_neg (by rw[e];exact Bool.false_ne_true)] at q
   exact q
theorem cut_to {xs:List PyData} {k:Nat}:cutD xs none (some ((k:Nat):Int))=xs.take k:=by
 unfold cutD
 rw[HT.sIx_none,HT.sIx_nat,List.drop_zero,Nat.sub_zero]
 by_cases h:k≤xs.length
 ·rw[Nat.min_eq_left h]
 ·rw[Nat.min_eq_right (by lia),List.take_of_length_le (Nat.le_refl _),List.take_of_length_le (by lia)]
theorem cut_fromto {xs:List PyData} {i j:Nat} (h1:i≤xs.length) (h2:j≤xs.length):cutD xs (some ((i:Nat):Int)) (some ((j:Nat):Int))=(xs.drop i).take (j - i):=by
 unfold cutD
 rw[HT.sIx_nat,HT.sIx_nat,Nat.min_eq_left h1,Nat.min_eq_left h2]
def dCompL3 (tt:DT) (te:DE) (ρ:List Sl) (Q:List PyData→Prop):List PyData→List PyData→Prop
 | [],acc=>Q acc
 | .tuple [x,y,z]::r,acc=>tt (ρ++[.sh x,.sh y,.sh z]) fun b ρ'=>ρ'=ρ++[.sh x,.sh y,.sh z]∧if b=true then te (ρ++[.sh x,.sh y,.sh z]) fun d ρ''=>ρ''=ρ++[.sh x,.sh y,.sh z]∧dCompL3 tt te ρ Q r (acc++[d]) else dCompL3 tt te ρ Q r acc
 | _::_,_=>False
def dCompT3 (it:DF) (tt:DT) (te:DE) (ρ:List Sl) (Q:List PyData→List Sl→Prop):Prop:=it ρ fun xs ρ1=>xs.length≤1000∧dCompL3 tt te ρ1 (fun ds=>Q ds ρ1) xs []
section
variable {X:Cx} {C:DC}
end
theorem compN {te:DE} {ρ:List Sl} {Q:List PyData→Prop} {R:PyData→Prop}:∀{xs acc:List PyData},(∀x∈xs,∀Q':PyData→List Sl→Prop,(∀d,R d→Q' d (ρ++[.sh x]))→te (ρ++[.sh x]) Q')→(∀ds:List PyData,ds.length=xs.length→(∀d∈ds,R d)→Q (acc++ds))→dCompL dTrue te ρ Q xs acc
 | [],acc,_,q=>by
  have q':=q [] rfl (fun d hd=>nomatch hd)
  rw[List.append_nil] at q'
  exact q'
 | x::r,acc,h,q=>by
  refine⟨rfl,?_⟩
  rw[if_pos rfl]
  refine h x List.mem_cons_self _ fun d hd=>⟨rfl,compN (fun y hy=>h y (List.mem_cons_of_mem _ hy)) fun ds hl hR=>?_⟩
  rw[List.append_assoc]
  refine q ([d]++ds) (by simp [hl]) fun e he=>?_
  rcases List.mem_append.mp he with z | z
  ·have:e=d:=by simpa using z
   subst this;exact hd
  ·exact hR e z
section
variable {X:Cx} {C:DC}
open Classical in
def gT5 (i j k l n:Nat)  (d:PyData) (ρ:List Sl) (Q:List Sl→Prop):Prop:=match d with
 | .tuple [a,b,c,e,f]=>Q (((((ρ.set i (.sh a)).set j (.sh b)).set k (.sh c)).set l (.sh e)).set n (.sh f))
 | _=>False
def strsD:List PyData→Option (List Str)
 | []=>some []
 | .str b::r=>(strsD r).map (b::·)
 | _::_=>none
def gInS (neg:Bool)  (a b:PyData) (Q:PyData→Prop):Prop:=match a,b with
 | .str i,.tuple xs=>bnd (strsD xs) fun ns=>Q (.bool (if neg then !(inV (.str i) (ns.map V.str)) else inV (.str i) (ns.map V.str)))
 | _,_=>False
def gMaxP  (ds:List PyData) (Q:PyData→Prop):Prop:=match ds with
 | [.list xs]=>xs≠[]∧(∀x∈xs,∃i j:Int,x=.tuple [.int i,.int j])∧∀x∈xs,Q x
 | _=>False
end
section
variable {X:Cx} {C:DC} {e:Expr} {u:DF}
def dPopI (i:Nat) (tk:DE)  (ρ:List Sl) (Q:PyData→List Sl→Prop):Prop:=match ρ[i]? with
 | some (.ow _)=>tk ρ fun k ρ'=>match ρ'[i]? with
  | some (.ow ds)=>match k with
   | .int k=>bnd (ixN ds.length k) fun j=>bnd (ds[j]?) fun d=>ds.length≤1000∧Q d (ρ'.set i (.ow (ds.eraseIdx j)))
   | _=>False
  | _=>False
 | _=>False
def dLrng (t:DE)  (ρ:List Sl) (Q:List PyData→List Sl→Prop):Prop:=t ρ fun d ρ'=>match d with
 | .int n=>(0≤n∧n≤1000)∧Q (rngD 0 n.toNat) ρ'
 | _=>False
end
def zipD (xs ys:List PyData):List PyData:=(xs.zip ys).map fun p=>.tuple [p.1,p.2]
section
variable {X:Cx} {C:DC} {tg e:Expr} {t u:DE}
def dZip (t u:DE)  (ρ:List Sl) (Q:List PyData→List Sl→Prop):Prop:=t ρ fun d ρ1=>u ρ1 fun d2 ρ2=>bnd (listD d) fun xs=>bnd (listD d2) fun ys=>Q (zipD xs ys) ρ2
end
def dCompL2 (tt:DT) (te:DE) (ρ:List Sl) (Q:List PyData→Prop):List PyData→List PyData→Prop
 | [],acc=>Q acc
 | .tuple [x,y]::r,acc=>tt (ρ++[.sh x,.sh y]) fun b ρ'=>ρ'=ρ++[.sh x,.sh y]∧if b=true then te (ρ++[.sh x,.sh y]) fun d ρ''=>ρ''=ρ++[.sh x,.sh y]∧dCompL2 tt te ρ Q r (acc++[d]) else dCompL2 tt te ρ Q r acc
 | _::_,_=>False
def dCompT2 (it:DF) (tt:DT) (te:DE) (ρ:List Sl) (Q:List PyData→List Sl→Prop):Prop:=it ρ fun xs ρ1=>xs.length≤1000∧dCompL2 tt te ρ1 (fun ds=>Q ds ρ1) xs []
section
variable {X:Cx} {C:DC}
end
section
variable {X:Cx} {C:DC} {st:Stmt} {te:DE}
end
section
variable {X:Cx} {C:DC} {st:Stmt}
def dIns (i:Nat) (tk te:DE)  (D:DEnds) (ρ:List Sl):Prop:=match ρ[i]? with
 | some (.ow _)=>tk ρ fun k ρ1=>te ρ1 fun d ρ2=>match ρ2[i]? with
  | some (.ow ds)=>∃n:Nat,k=.int ((n:Nat):Int)∧n≤ds.length∧ds.length≤1000∧D.nx (ρ2.set i (.ow (ds.take n++[d]++ds.drop n)))
  | _=>False
 | _=>False
end
theorem Rws.mvm {G F G' F':Addr→Prop} {H H':Hp} {as:List Addr} {dss:List (List PyData)} (t:Rws G F H as dss) (f:∀b o,F b→H b=some o→F' b∧H' b=some o) (g:∀b o,b∈as→G b→H b=some o→G' b∧H' b=some o):Rws G' F' H' as dss:=by
 induction t with
 | nil=>exact .nil
 | cons x e y _ ih=>
  have:=g _ _ List.mem_cons_self x e
  exact .cons this.1 this.2 (y.mv f) (ih fun b o hb=>g b o (List.mem_cons_of_mem _ hb))
section
variable {C:DC} {col col':Addr→Nat} {ρ:List Sl} {σ σ':St} {P:List Pe} {H H':Hp} {p:Addr}
end
section
variable {X:Cx} {C:DC} {a b e:Expr} {pos:Pos}
end
section
variable {X:Cx} {C:DC} {e:Expr}
end
section
variable {X:Cx} {C:DC} {st:Stmt} {e:Expr} {te:DE} {pos:Pos} {u:DA}
end
section
variable {X:Cx} {C:DC} {e:Expr} {ta:DE}
end
end My
namespace My
abbrev Tb:=List (Option Int)
abbrev Rn:=List (Option Nat)
abbrev Wy:=Nat×Nat×Int
def stepF (st lv c:Int):Option Int:=if lv + c < 0 then none else some (if st < lv + c then st else lv + c)
def gt {α:Type} (t:List (Option α)) (p:Nat):Option α:=(t[p]?).join
def behF (st:Int) (t:Tb) (w:Wy):Option Int:=match gt t w.1 with
 | none=>none
 | some l=>stepF st l w.2.2
def moreF:Option Int→Option Int→Bool
 | none,_=>false
 | some _,none=>true
 | some a,some b=>decide (b < a)
def leO (a b:Option Int):Prop:=moreF a b=false
theorem leO_some {a b:Int}:leO (some a) (some b)↔a≤b:=by unfold leO moreF;simp
theorem leO_none {b:Option Int}:leO none b:=rfl
theorem leO_sn {a:Int}:¬ leO (some a) none:=by unfold leO moreF;simp
theorem leO_refl (a:Option Int):leO a a:=by
 cases a with
 | none=>rfl
 | some x=>exact leO_some.mpr (Int.le_refl x)
theorem leO_trans {a b c:Option Int} (h1:leO a b) (h2:leO b c):leO a c:=by
 cases a with
 | none=>rfl
 | some x=>
  cases b with
  | none=>exact absurd h1 leO_sn
  | some y=>
   cases c with
   | none=>exact absurd h2 leO_sn
   | some z=>exact leO_some.mpr (Int.le_trans (leO_some.mp h1) (leO_some.mp h2))
theorem leO_anti {a b:Option Int} (h1:leO a b) (h2:leO b a):a=b:=by
 cases a with
 | none=>cases b with
  | none=>rfl
  | some y=>exact absurd h2 leO_sn
 | some x=>cases b with
  | none=>exact absurd h1 leO_sn
  | some y=>rw[Int.le_antisymm (leO_some.mp h1) (leO_some.mp h2)]
theorem more_le {a b:Option Int} (h:moreF a b=true):leO b a:=by
 cases a with
 | none=>cases h
 | some x=>cases b with
  | none=>rfl
  | some y=>unfold moreF at h;exact leO_some.mpr (by have:=of_decide_eq_true h;lia)
theorem not_le {a b:Option Int} (h:moreF a b=true):¬ leO a b:=fun z=>by unfold leO at z;rw[z] at h;cases h
theorem le_or {a b:Option Int}:moreF a b=true∨leO a b:=by
 cases e:moreF a b with
 | true=>exact .inl rfl
 | false=>exact .inr e
theorem step_mono {st a b c:Int} (h:a≤b):leO (stepF st a c) (stepF st b c):=by
 unfold stepF
 by_cases h1:a + c < 0
 ·rw[if_pos h1];rfl
 ·have h2:¬ b + c < 0:=by lia
  rw[if_neg h1,if_neg h2]
  apply leO_some.mpr
  split <;> split <;> lia
theorem step_bd {st l c x:Int} (h0:0≤st) (h:stepF st l c=some x):0≤x∧x≤st:=by
 unfold stepF at h
 split at h
 ·cases h
 ·have:=Option.some.inj h
  subst this
  split <;> lia
def leT (t u:Tb):Prop:=∀p,leO (gt t p) (gt u p)
theorem leT_refl (t:Tb):leT t t:=fun _=>leO_refl _
theorem leT_trans {t u v:Tb} (a:leT t u) (b:leT u v):leT t v:=fun p=>leO_trans (a p) (b p)
theorem beh_mono {st:Int} {t u:Tb} {w:Wy} (h:leT t u):leO (behF st t w) (behF st u w):=by
 have:=h w.1
 unfold behF
 cases e:gt t w.1 with
 | none=>rfl
 | some a=>
  rw[e] at this
  cases e2:gt u w.1 with
  | none=>rw[e2] at this;exact absurd this leO_sn
  | some b=>rw[e2] at this;exact step_mono (leO_some.mp this)
theorem beh_bd {st:Int} {t:Tb} {w:Wy} {x:Int} (h0:0≤st) (h:behF st t w=some x):0≤x∧x≤st:=by
 unfold behF at h
 split at h
 ·cases h
 ·exact step_bd h0 h
structure TabOk (m:Nat) (st:Int) (t:Tb):Prop where
 len:t.length=m
 bd:∀p x,gt t p=some x→0≤x∧x≤st
structure LandOk (m:Nat) (ws:List Wy):Prop where
 m1:1≤m
 m2:m≤12
 few:ws.length≤40
 st:∀w∈ws,w.1 < m
 en:∀w∈ws,w.2.1 < m
 lo:∀w∈ws,-1000000000000000000≤w.2.2
 hi:∀w∈ws,w.2.2≤1000000000000000000
theorem gt_out {α:Type} {t:List (Option α)} {p:Nat} (h:t.length≤p):gt t p=none:=by unfold gt;rw[List.getElem?_eq_none h];rfl
theorem gt_at {α:Type} {t:List (Option α)} {p:Nat} (h:p < t.length):t[p]?=some (gt t p):=by unfold gt;rw[List.getElem?_eq_getElem h];rfl
theorem gt_set {α:Type} {t:List (Option α)} {i j:Nat} {x:Option α} (h:i < t.length):gt (t.set i x) j=if i=j then x else gt t j:=by
 unfold gt
 rw[List.getElem?_set]
 by_cases e:i=j
 ·rw[if_pos e,if_pos h,if_pos e];rfl
 ·rw[if_neg e,if_neg e]
theorem gt_rep {α:Type} {m p:Nat}:gt (List.replicate m (none:Option α)) p=none:=by
 unfold gt
 rw[List.getElem?_replicate]
 split <;> rfl
theorem tab_ext {t u:Tb} (hl:t.length=u.length) (h:∀p,gt t p=gt u p):t=u:=by
 apply List.ext_getElem?
 intro i
 by_cases hi:i < t.length
 ·rw[gt_at hi,gt_at (by lia),h i]
 ·rw[List.getElem?_eq_none (by lia),List.getElem?_eq_none (by lia)]
theorem tab_anti {t u:Tb} (hl:t.length=u.length) (h1:leT t u) (h2:leT u t):t=u:=tab_ext hl fun p=>leO_anti (h1 p) (h2 p)
def rstep (st:Int) (t:Tb) (acc:Tb×Rn) (p:Wy×Nat):Tb×Rn:=
 if moreF (behF st t p.1) (gt acc.1 p.1.2.1)=true then (acc.1.set p.1.2.1 (behF st t p.1),acc.2.set p.1.2.1 (some p.2)) else acc
def rowF (m:Nat) (ws:List Wy) (st:Int) (t s:Tb):Tb×Rn:=ws.zipIdx.foldl (rstep st t) (s,List.replicate m none)
structure RowI (m:Nat) (ws:List Wy) (st:Int) (t s:Tb) (L:List (Wy×Nat)) (acc:Tb×Rn):Prop where
 l1:acc.1.length=m
 l2:acc.2.length=m
 up:leT s acc.1
 no:∀p,gt acc.2 p=none→gt acc.1 p=gt s p
 yes:∀p n,gt acc.2 p=some n→∃w,ws[n]?=some w∧w.2.1=p∧gt acc.1 p=behF st t w∧moreF (behF st t w) (gt s p)=true
 top:∀q∈L,leO (behF st t q.1) (gt acc.1 q.1.2.1)
theorem row_step {m:Nat} {ws:List Wy} {st:Int} {t s:Tb} {L:List (Wy×Nat)} {acc:Tb×Rn} (ok:LandOk m ws) (I:RowI m ws st t s L acc) {q:Wy×Nat} (hq:ws[q.2]?=some q.1):RowI m ws st t s (L++[q]) (rstep st t acc q):=by
 have hw:q.1∈ws:=List.mem_of_getElem? hq
 have he:q.1.2.1 < m:=ok.en _ hw
 unfold rstep
 by_cases c:moreF (behF st t q.1) (gt acc.1 q.1.2.1)=true
 ·rw[if_pos c]
  have g1:∀j,gt (acc.1.set q.1.2.1 (behF st t q.1)) j=if q.1.2.1=j then behF st t q.1 else gt acc.1 j:=fun j=>gt_set (by rw[I.l1];exact he)
  have g2:∀j,gt (acc.2.set q.1.2.1 (some q.2)) j=if q.1.2.1=j then some q.2 else gt acc.2 j:=fun j=>gt_set (by rw[I.l2];exact he)
  have hup:∀j,leO (gt acc.1 j) (gt (acc.1.set q.1.2.1 (behF st t q.1)) j):=fun j=>by
   rw[g1]
   by_cases e:q.1.2.1=j
   ·rw[if_pos e,←e];exact more_le c
   ·rw[if_neg e];exact leO_refl _
  refine⟨by rw[List.length_set];exact I.l1,by rw[List.length_set];exact I.l2,fun p=>leO_trans (I.up p) (hup p),fun p hp=>?_,fun p n hp=>?_,fun r hr=>?_⟩
  ·rw[g2] at hp
   by_cases e:q.1.2.1=p
   ·rw[if_pos e] at hp;cases hp
   ·rw[if_neg e] at hp;rw[g1,if_neg e];exact I.no p hp
  ·rw[g2] at hp
   by_cases e:q.1.2.1=p
   ·rw[if_pos e] at hp
    cases hp
    refine⟨q.1,hq,e,by rw[g1,if_pos e],?_⟩
    rcases le_or (a:=behF st t q.1) (b:=gt s p) with z | z
    ·exact z
    ·exact absurd (leO_trans z (I.up p)) (not_le (e▸c))
   ·rw[if_neg e] at hp;rw[g1,if_neg e];exact I.yes p n hp
  ·rcases List.mem_append.mp hr with hr | hr
   ·exact leO_trans (I.top r hr) (hup _)
   ·have:r=q:=by simpa using hr
    subst this
    rw[g1,if_pos rfl];exact leO_refl _
 ·rw[if_neg c]
  refine⟨I.l1,I.l2,I.up,I.no,I.yes,fun r hr=>?_⟩
  rcases List.mem_append.mp hr with hr | hr
  ·exact I.top r hr
  ·have:r=q:=by simpa using hr
   subst this
   rcases le_or (a:=behF st t r.1) (b:=gt acc.1 r.1.2.1) with z | z
   ·exact absurd z c
   ·exact z
theorem row_fold {m:Nat} {ws:List Wy} {st:Int} {t s:Tb} (ok:LandOk m ws):∀(R L:List (Wy×Nat)) (acc:Tb×Rn),RowI m ws st t s L acc→(∀q∈R,ws[q.2]?=some q.1)→RowI m ws st t s (L++R) (R.foldl (rstep st t) acc)
 | [],L,acc,I,_=>by rw[List.append_nil];exact I
 | q::R,L,acc,I,h=>by
  have:=row_fold ok R (L++[q]) _ (row_step ok I (h q List.mem_cons_self)) fun r hr=>h r (List.mem_cons_of_mem _ hr)
  rw[List.append_assoc] at this
  exact this
theorem row_ok {m:Nat} {ws:List Wy} {st:Int} {t s:Tb} (ok:LandOk m ws) (hs:s.length=m):RowI m ws st t s ws.zipIdx (rowF m ws st t s):=by
 have h0:RowI m ws st t s [] (s,List.replicate m none):=⟨hs,by rw[List.length_replicate],leT_refl s,fun _ _=>rfl,fun p n h=>(by rw[gt_rep] at h;cases h),fun q hq=>(nomatch hq)⟩
 have:=row_fold ok ws.zipIdx [] _ h0 fun q hq=>by
  obtain⟨w,n⟩:=q
  rw[List.mem_zipIdx_iff_getElem?] at hq
  exact hq
 rw[List.nil_append] at this
 exact this
theorem row_top {m:Nat} {ws:List Wy} {st:Int} {t s:Tb} (ok:LandOk m ws) (hs:s.length=m) {w:Wy} (hw:w∈ws):leO (behF st t w) (gt (rowF m ws st t s).1 w.2.1):=by
 obtain⟨n,hn,e⟩:=List.mem_iff_getElem.mp hw
 exact (row_ok ok hs).top (w,n) (by rw[List.mem_zipIdx_iff_getElem?];show ws[n]?=some w;rw[List.getElem?_eq_getElem hn,e])
theorem row_tab {m:Nat} {ws:List Wy} {st:Int} {t s:Tb} (ok:LandOk m ws) (h0:0≤st) (hs:TabOk m st s):TabOk m st (rowF m ws st t s).1:=by
 have I:=row_ok (st:=st) (t:=t) ok hs.len
 refine⟨I.l1,fun p x h=>?_⟩
 cases e:gt (rowF m ws st t s).2 p with
 | none=>rw[I.no p e] at h;exact hs.bd p x h
 | some n=>
  obtain⟨w,_,_,e2,_⟩:=I.yes p n e
  rw[e2] at h
  exact beh_bd h0 h
def Closed (ws:List Wy) (st:Int) (t:Tb):Prop:=∀w∈ws,leO (behF st t w) (gt t w.2.1)
theorem row_below {m:Nat} {ws:List Wy} {st:Int} {t s L:Tb} (ok:LandOk m ws) (hs:s.length=m) (h1:leT t L) (h2:leT s L) (c:Closed ws st L):leT (rowF m ws st t s).1 L:=fun p=>by
 have I:=row_ok (st:=st) (t:=t) ok hs
 cases e:gt (rowF m ws st t s).2 p with
 | none=>rw[I.no p e];exact h2 p
 | some n=>
  obtain⟨w,hw,e1,e2,_⟩:=I.yes p n e
  rw[e2,←e1]
  exact leO_trans (beh_mono h1) (c w (List.mem_of_getElem? hw))
structure Least (m:Nat) (ws:List Wy) (st:Int) (b t:Tb):Prop where
 tab:TabOk m st t
 up:leT b t
 cl:Closed ws st t
 le:∀L,TabOk m st L→leT b L→Closed ws st L→leT t L
theorem Least.uniq {m:Nat} {ws:List Wy} {st:Int} {b t u:Tb} (h:Least m ws st b t) (h':Least m ws st b u):t=u:=tab_anti (h.tab.len.trans h'.tab.len.symm) (h.le u h'.tab h'.up h'.cl) (h'.le t h.tab h.up h.cl)
abbrev Rw:=Tb×Rn
def rowsF (m:Nat) (ws:List Wy) (st:Int):Nat→Rw→List Rw
 | 0,r=>[r]
 | k + 1,r=>if (rowF m ws st r.1 r.1).1=r.1 then [r] else r::rowsF m ws st k (rowF m ws st r.1 r.1)
inductive Rows (m:Nat) (ws:List Wy) (st:Int) (b:Tb):List Rw→Prop
 | one:Rows m ws st b [(b,List.replicate m none)]
 | more {r rs}:Rows m ws st b (r::rs)→(rowF m ws st r.1 r.1).1≠r.1→Rows m ws st b (rowF m ws st r.1 r.1::r::rs)
theorem rowsF_ok {m:Nat} {ws:List Wy} {st:Int} {b:Tb}:∀(k:Nat) (r:Rw) (rs:List Rw),Rows m ws st b (r::rs)→∃r' rs',(rs.reverse++rowsF m ws st k r).reverse=r'::rs'∧Rows m ws st b (r'::rs')∧((rowF m ws st r'.1 r'.1).1=r'.1∨(r'::rs').length=rs.length + k + 1)
 | 0,r,rs,h=>⟨r,rs,by simp [rowsF],h,.inr (by simp)⟩
 | k + 1,r,rs,h=>by
  unfold rowsF
  by_cases c:(rowF m ws st r.1 r.1).1=r.1
  ·rw[if_pos c]
   exact⟨r,rs,by simp,h,.inl c⟩
  ·rw[if_neg c]
   obtain⟨r',rs',e,h',z⟩:=rowsF_ok k _ (r::rs) (.more h c)
   refine⟨r',rs',?_,h',?_⟩
   ·rw[←e];simp
   ·rcases z with z | z
    ·exact .inl z
    ·refine .inr ?_
     rw[z,List.length_cons];lia
section
variable {m:Nat} {ws:List Wy} {st:Int} {b:Tb}
theorem Rows.ok (ok:LandOk m ws) (h0:0≤st) (hb:TabOk m st b):∀{r:Rw} {rs:List Rw},Rows m ws st b (r::rs)→TabOk m st r.1∧r.2.length=m∧leT b r.1
 | _,_,.one=>⟨hb,by simp,leT_refl b⟩
 | _,_,.more (r:=r) h c=>by
  obtain⟨a1,_,a3⟩:=Rows.ok ok h0 hb h
  have I:=row_ok (st:=st) (t:=r.1) ok a1.len
  exact⟨row_tab ok h0 a1,I.l2,leT_trans a3 I.up⟩
theorem Rows.under (ok:LandOk m ws) (hb:b.length=m) {L:Tb} (h1:leT b L) (c:Closed ws st L):∀{r:Rw} {rs:List Rw},Rows m ws st b (r::rs)→r.1.length=m∧leT r.1 L
 | _,_,.one=>⟨hb,h1⟩
 | _,_,.more (r:=r) h _=>by
  obtain⟨a1,a2⟩:=Rows.under ok hb h1 c h
  exact⟨(row_ok (st:=st) (t:=r.1) ok a1).l1,row_below ok a1 a2 a2 c⟩
theorem Rows.least (ok:LandOk m ws) (h0:0≤st) (hb:TabOk m st b) {r:Rw} {rs:List Rw} (h:Rows m ws st b (r::rs)) (c:(rowF m ws st r.1 r.1).1=r.1):Least m ws st b r.1:=by
 obtain⟨a1,_,a3⟩:=h.ok ok h0 hb
 refine⟨a1,a3,fun w hw=>?_,fun L _ h1 cl=>(h.under ok hb.len h1 cl).2⟩
 have:=row_top (st:=st) (t:=r.1) (s:=r.1) ok a1.len hw
 rw[c] at this
 exact this
end
abbrev Ef:=Option (Int×Int×Int)
def EOk (st:Int) (e:Int×Int×Int):Prop:=0≤e.1∧e.1≤st∧0≤e.2.2∧e.2.2≤st∧0≤e.1 + e.2.1∧e.2.2≤st + e.2.1
def passF (e:Ef) (x:Int):Option Int:=match e with
 | none=>none
 | some (l,g,t)=>if x < l then none else some (if t < x + g then t else x + g)
def joinF (a b:Ef):Ef:=match a,b with
 | some (l1,g1,t1),some (l2,g2,t2)=>if t1 < l2 then none else some (if l2 - g1 > l1 then l2 - g1 else l1,g1 + g2,if t2 < t1 + g2 then t2 else t1 + g2)
 | _,_=>none
theorem join_eq {a b:Int×Int×Int} (h:¬ a.2.2 < b.1):joinF (some a) (some b)=some (if b.1 - a.2.1 > a.1 then b.1 - a.2.1 else a.1,a.2.1 + b.2.1,if b.2.2 < a.2.2 + b.2.1 then b.2.2 else a.2.2 + b.2.1):=by
 obtain⟨l1,g1,t1⟩:=a
 obtain⟨l2,g2,t2⟩:=b
 unfold joinF
 simp only at h
 simp only[if_neg h]
theorem join_none {a b:Int×Int×Int} (h:a.2.2 < b.1):joinF (some a) (some b)=none:=by
 obtain⟨l1,g1,t1⟩:=a
 obtain⟨l2,g2,t2⟩:=b
 unfold joinF
 simp only at h
 simp only[if_pos h]
theorem join_ok {st:Int} {a b r:Int×Int×Int} (ha:EOk st a) (hb:EOk st b) (h:joinF (some a) (some b)=some r):EOk st r:=by
 by_cases c:a.2.2 < b.1
 ·rw[join_none c] at h;cases h
 ·rw[join_eq c] at h
  cases h
  obtain⟨l1,g1,t1⟩:=a
  obtain⟨l2,g2,t2⟩:=b
  obtain⟨h1,h2,h3,h4,h5,h6⟩:=ha
  obtain⟨i1,i2,i3,i4,i5,i6⟩:=hb
  simp only at h1 h2 h3 h4 h5 h6 i1 i2 i3 i4 i5 i6 c
  refine⟨?_,?_,?_,?_,?_,?_⟩ <;> dsimp only <;> (repeat' split) <;> lia
theorem join_pass {a b r:Int×Int×Int} (h:joinF (some a) (some b)=some r) (x:Int):passF (some r) x=(passF (some a) x).bind (passF (some b)):=by
 by_cases c:a.2.2 < b.1
 ·rw[join_none c] at h;cases h
 ·rw[join_eq c] at h
  cases h
  obtain⟨l1,g1,t1⟩:=a
  obtain⟨l2,g2,t2⟩:=b
  simp only at c
  unfold passF
  dsimp only
  by_cases c1:x < l1
  ·rw[if_pos c1,if_pos (by split <;> lia)]
   rfl
  ·rw[if_neg c1]
   show _=(if (if t1 < x + g1 then t1 else x + g1) < l2 then none else some (if t2 < (if t1 < x + g1 then t1 else x + g1) + g2 then t2 else (if t1 < x + g1 then t1 else x + g1) + g2))
   obtain⟨y,ey,y1,y2,y3⟩:∃y,(if t1 < x + g1 then t1 else x + g1)=y∧y≤t1∧y≤x + g1∧(y=t1∨y=x + g1):=⟨_,rfl,by split <;> lia,by split <;> lia,by split <;> lia⟩
   obtain⟨m,em,m1,m2,m3⟩:∃m,(if l2 - g1 > l1 then l2 - g1 else l1)=m∧l1≤m∧l2 - g1≤m∧(m=l1∨m=l2 - g1):=⟨_,rfl,by split <;> lia,by split <;> lia,by split <;> lia⟩
   obtain⟨n,en,n1,n2,n3⟩:∃n,(if t2 < t1 + g2 then t2 else t1 + g2)=n∧n≤t2∧n≤t1 + g2∧(n=t2∨n=t1 + g2):=⟨_,rfl,by split <;> lia,by split <;> lia,by split <;> lia⟩
   rw[ey,em,en]
   by_cases c2:x < m
   ·rw[if_pos c2,if_pos (show y < l2 by lia)]
   ·rw[if_neg c2,if_neg (show ¬ y < l2 by lia)]
    congr 1
    split <;> split <;> lia
def OkE (st:Int):Ef→Prop
 | none=>True
 | some e=>EOk st e
theorem OkE.join {st:Int} {a b:Ef} (ha:OkE st a) (hb:OkE st b):OkE st (joinF a b):=by
 rcases a with _ | a
 ·exact trivial
 ·rcases b with _ | b
  ·exact trivial
  ·cases q:joinF (some a) (some b) with
   | none=>exact trivial
   | some r=>exact join_ok ha hb q
theorem unit_ok {st:Int} (h:0≤st):EOk st (0,0,st):=⟨Int.le_refl _,h,h,Int.le_refl _,by simp,by simp⟩
def oneF (st c:Int):Ef:=if st + c < 0 then none else some (if -c > 0 then -c else 0,c,if st + c < st then st + c else st)
def foF (st:Int) (w:Ef) (cs:List Int):Ef:=cs.foldl (fun w c=>joinF w (oneF st c)) w
def fxF (st:Int) (cs:List Int):Ef:=foF st (some (0,0,st)) cs
theorem oneF_ok {st:Int} (h:0≤st) (c:Int):OkE st (oneF st c):=by
 unfold oneF
 split
 ·exact trivial
 ·refine⟨?_,?_,?_,?_,?_,?_⟩ <;> dsimp only <;> (repeat' split) <;> lia
theorem foF_ok {st:Int} (h:0≤st):∀(cs:List Int) {w:Ef},OkE st w→OkE st (foF st w cs)
 | [],_,hw=>hw
 | c::cs,w,hw=>foF_ok h cs (hw.join (oneF_ok h c))
theorem fxF_ok {st:Int} (h:0≤st) (cs:List Int):OkE st (fxF st cs):=foF_ok h cs (unit_ok h)
theorem pass_joinE (a b:Ef) (x:Int):passF (joinF a b) x=(passF a x).bind (passF b):=by
 rcases a with _ | a
 ·rfl
 ·rcases b with _ | b
  ·show none=(passF (some a) x).bind (passF none)
   cases passF (some a) x <;> rfl
  ·by_cases c:a.2.2 < b.1
   ·rw[join_none c]
    obtain⟨l1,g1,t1⟩:=a
    obtain⟨l2,g2,t2⟩:=b
    simp only at c
    show none=_
    unfold passF
    dsimp only
    by_cases c1:x < l1
    ·rw[if_pos c1];rfl
    ·rw[if_neg c1]
     show none=if (if t1 < x + g1 then t1 else x + g1) < l2 then none else _
     rw[if_pos (by split <;> lia)]
   ·exact join_pass (join_eq c) x |>.symm▸(by rw[join_eq c])
def wkF (st:Int) (o:Option Int) (cs:List Int):Option Int:=cs.foldl (fun o c=>o.bind (fun x=>stepF st x c)) o
theorem wk_none (st:Int):∀cs:List Int,wkF st none cs=none
 | []=>rfl
 | _::cs=>wk_none st cs
theorem one_step {st x c:Int} (h0:0≤x) (h1:x≤st):passF (oneF st c) x=stepF st x c:=by
 unfold oneF stepF
 by_cases d:st + c < 0
 ·rw[if_pos d,if_pos (by lia)]
  rfl
 ·rw[if_neg d]
  unfold passF
  dsimp only
  by_cases e:x + c < 0
  ·rw[if_pos e,if_pos (by split <;> lia)]
  ·rw[if_neg e,if_neg (by split <;> lia)]
   congr 1
   split <;> split <;> (try split) <;> lia
theorem fo_walk {st:Int} (h:0≤st) (x:Int):∀(cs:List Int) (w:Ef),(∀y,passF w x=some y→0≤y∧y≤st)→passF (foF st w cs) x=wkF st (passF w x) cs
 | [],_,_=>rfl
 | c::cs,w,hw=>by
  have e:passF (joinF w (oneF st c)) x=(passF w x).bind (fun y=>stepF st y c):=by
   rw[pass_joinE]
   cases q:passF w x with
   | none=>rfl
   | some y=>exact one_step (hw y q).1 (hw y q).2
  show passF (foF st (joinF w (oneF st c)) cs) x=wkF st ((passF w x).bind (fun y=>stepF st y c)) cs
  rw[fo_walk h x cs _ ?_,e]
  intro y q
  rw[e] at q
  cases q2:passF w x with
  | none=>rw[q2] at q;cases q
  | some z=>rw[q2] at q;exact step_bd h q
theorem pass_unit {st x:Int} (h0:0≤x) (h1:x≤st):passF (some (0,0,st)) x=some x:=by
 unfold passF
 dsimp only
 rw[if_neg (by lia)]
 congr 1
 split <;> lia
theorem fx_walk {st x:Int} (h0:0≤x) (h1:x≤st) (cs:List Int):passF (fxF st cs) x=wkF st (some x) cs:=by
 unfold fxF
 rw[fo_walk (by lia) x cs _ ?_,pass_unit h0 h1]
 intro y q
 rw[pass_unit h0 h1] at q
 cases q
 exact⟨h0,h1⟩
theorem fo_gain {st:Int}:∀(cs:List Int) {w:Int×Int×Int} {r:Int×Int×Int},foF st (some w) cs=some r→r.2.1=w.2.1 + cs.sum
 | [],w,r,q=>by
  have q':some w=some r:=q
  cases q'
  simp
 | c::cs,w,r,q=>by
  have q':foF st (joinF (some w) (oneF st c)) cs=some r:=q
  cases q2:joinF (some w) (oneF st c) with
  | none=>
   rw[q2] at q'
   have:∀cs:List Int,foF st none cs=none:=by
    intro cs
    induction cs with
    | nil=>rfl
    | cons c cs ih=>exact ih
   rw[this] at q'
   cases q'
  | some a=>
   rw[q2] at q'
   rw[fo_gain cs q']
   have ga:a.2.1=w.2.1 + c:=by
    unfold oneF at q2
    split at q2
    ·cases q2
    ·by_cases d:w.2.2 < (if -c > 0 then -c else 0)
     ·rw[join_none (by exact d)] at q2;cases q2
     ·rw[join_eq (by exact d)] at q2;cases q2;rfl
   rw[ga,List.sum_cons]
   lia
theorem fx_gain {st:Int} {cs:List Int} {r:Int×Int×Int} (q:fxF st cs=some r):r.2.1=cs.sum:=by
 rw[fo_gain cs q]
 show 0 + cs.sum=cs.sum
 lia
def wstN (ws:List Wy) (n:Nat):Nat:=match ws[n]? with
 | some w=>w.1
 | none=>0
def wenN (ws:List Wy) (n:Nat):Nat:=match ws[n]? with
 | some w=>w.2.1
 | none=>0
def wchN (ws:List Wy) (n:Nat):Int:=match ws[n]? with
 | some w=>w.2.2
 | none=>0
def wlk (ws:List Wy):List Rw→Nat→Nat×List Nat
 | [],p=>(p,[])
 | r::rs,p=>match gt r.2 p with
  | none=>wlk ws rs p
  | some n=>((wlk ws rs (wstN ws n)).1,(wlk ws rs (wstN ws n)).2++[n])
structure Wk (ws:List Wy) (st:Int) (b:Tb) (N:List Nat) (P:Nat→Nat) (L:Nat→Int):Prop where
 way:∀k n,N[k]?=some n→∃w,ws[n]?=some w∧w.1=P k∧w.2.1=P (k + 1)∧stepF st (L k) w.2.2=some (L (k + 1))
 beg:gt b (P 0)=some (L 0)
 rise:∀k,1≤k→k≤N.length→moreF (some (L k)) (gt b (P k))=true
 strict:∀i j,i < j→j≤N.length→P i=P j→L i < L j
theorem more_of {a b c:Option Int} (h:moreF a c=true) (z:leO b c):moreF a b=true:=by
 rcases le_or (a:=a) (b:=b) with q | q
 ·exact q
 ·exact absurd (leO_trans q z) (not_le h)
section
variable {m:Nat} {ws:List Wy} {st:Int} {b:Tb}
theorem wlk_ok (ok:LandOk m ws) (h0:0≤st) (hb:TabOk m st b):∀{r:Rw} {rs:List Rw},Rows m ws st b (r::rs)→∀p,((rs=[]∧∃l,gt b p=some l)∨(∃n,gt r.2 p=some n))→
  ∃N P L,wlk ws (r::rs) p=(P 0,N)∧N.length=rs.length∧P N.length=p∧gt r.1 p=some (L N.length)∧Wk ws st b N P L∧∀k,k≤N.length→leO (some (L k)) (gt r.1 (P k))
 | _,_,.one,p,h=>by
  rcases h with ⟨_,l,hl⟩ | ⟨n,hn⟩
  ·refine⟨[],fun _=>p,fun _=>l,?_,rfl,rfl,hl,⟨fun k n e=>by simp at e,hl,fun k h1 h2=>?_,fun i j h1 h2=>?_⟩,fun k _=>by show leO (some l) (gt b p);rw[hl];exact leO_refl _⟩
   ·unfold wlk
    rw[gt_rep]
    rfl
   ·simp at h2;lia
   ·simp at h2;lia
  ·rw[gt_rep] at hn;cases hn
 | _,_,.more (r:=r) (rs:=rs) h c,p,hp=>by
  obtain⟨a1,_,a3⟩:=h.ok ok h0 hb
  have I:=row_ok (st:=st) (t:=r.1) ok a1.len
  have hp':∃n,gt (rowF m ws st r.1 r.1).2 p=some n:=by
   rcases hp with ⟨z,_⟩ | z
   ·cases z
   ·exact z
  obtain⟨n,hn⟩:=hp'
  obtain⟨w,hw,e1,e2,e3⟩:=I.yes p n hn
  obtain⟨l,hl⟩:∃l,behF st r.1 w=some l:=by
   cases q:behF st r.1 w with
   | none=>rw[q] at e3;cases e3
   | some l=>exact⟨l,rfl⟩
  obtain⟨l',hl',hs⟩:∃l',gt r.1 w.1=some l'∧stepF st l' w.2.2=some l:=by
   have hl2:=hl
   unfold behF at hl2
   split at hl2
   ·cases hl2
   ·rename_i l' e;exact⟨l',e,hl2⟩
  rw[hl] at e2 e3
  have hq:(rs=[]∧∃l,gt b w.1=some l)∨(∃n,gt r.2 w.1=some n):=by
   cases h with
   | one=>exact .inl ⟨rfl,l',hl'⟩
   | @more r0 rs0 h' c'=>
    obtain⟨b1,_,_⟩:=h'.ok ok h0 hb
    have I0:=row_ok (st:=st) (t:=r0.1) ok b1.len
    cases e:gt (rowF m ws st r0.1 r0.1).2 w.1 with
    | some n'=>exact .inr ⟨n',rfl⟩
    | none=>
     have e4:=I0.no w.1 e
     have e5:behF st r0.1 w=some l:=by
      unfold behF
      rw[←e4,hl']
      exact hs
     have:=row_top (st:=st) (t:=r0.1) (s:=r0.1) ok b1.len (List.mem_of_getElem? hw)
     rw[e5,e1] at this
     exact absurd this (not_le e3)
  obtain⟨N,P,L,f1,f2,f3,f4,W,f6⟩:=wlk_ok ok h0 hb h w.1 hq
  have eL:L N.length=l':=by rw[hl'] at f4;exact (Option.some.inj f4).symm
  let P':Nat→Nat:=fun k=>if k≤N.length then P k else p
  let L':Nat→Int:=fun k=>if k≤N.length then L k else l
  have p1:∀k,k≤N.length→P' k=P k:=fun k hk=>if_pos hk
  have p2:∀k,¬ k≤N.length→P' k=p:=fun k hk=>if_neg hk
  have l1:∀k,k≤N.length→L' k=L k:=fun k hk=>if_pos hk
  have l2:∀k,¬ k≤N.length→L' k=l:=fun k hk=>if_neg hk
  have hlen:(N++[n]).length=N.length + 1:=by simp
  refine⟨N++[n],P',L',?_,by rw[hlen,f2];rfl,by rw[hlen];exact p2 _ (by lia),by rw[hlen,l2 _ (by lia)];exact e2,⟨fun k n' e=>?_,by rw[p1 0 (Nat.zero_le _),l1 0 (Nat.zero_le _)];exact W.beg,fun k k1 k2=>?_,fun i j hij hj hp=>?_⟩,fun k hk=>?_⟩
  ·show (match gt (rowF m ws st r.1 r.1).2 p with
    | none=>wlk ws (r::rs) p
    | some n=>((wlk ws (r::rs) (wstN ws n)).1,(wlk ws (r::rs) (wstN ws n)).2++[n]))=_
   rw[hn]
   have:wstN ws n=w.1:=by unfold wstN;rw[hw]
   show ((wlk ws (r::rs) (wstN ws n)).1,(wlk ws (r::rs) (wstN ws n)).2++[n])=_
   rw[this,f1,p1 0 (Nat.zero_le _)]
  ·by_cases hk:k < N.length
   ·rw[List.getElem?_append_left hk] at e
    rw[p1 k (by lia),p1 (k + 1) (by lia),l1 k (by lia),l1 (k + 1) (by lia)]
    exact W.way k n' e
   ·rw[List.getElem?_append_right (by lia)] at e
    have hk':k=N.length:=by
     match q:k - N.length with
     | 0=>lia
     | z + 1=>rw[q] at e;simp at e
    subst hk'
    rw[Nat.sub_self] at e
    cases e
    refine⟨w,hw,?_,?_,?_⟩
    ·rw[p1 _ (Nat.le_refl _),f3]
    ·rw[p2 _ (by lia),e1]
    ·rw[l1 _ (Nat.le_refl _),l2 _ (by lia),eL];exact hs
  ·by_cases hk:k≤N.length
   ·rw[p1 k hk,l1 k hk];exact W.rise k k1 hk
   ·rw[p2 k hk,l2 k hk];exact more_of e3 (a3 p)
  ·by_cases hk:j≤N.length
   ·rw[l1 i (by lia),l1 j hk]
    rw[p1 i (by lia),p1 j hk] at hp
    exact W.strict i j hij hk hp
   ·rw[hlen] at hj
    rw[p1 i (by lia),p2 j hk] at hp
    rw[l1 i (by lia),l2 j hk]
    have z:=f6 i (by lia)
    rw[hp] at z
    cases q:gt r.1 p with
    | none=>rw[q] at z;exact absurd z leO_sn
    | some y=>
     rw[q] at z e3
     have z1:=leO_some.mp z
     have z2:y < l:=of_decide_eq_true e3
     lia
  ·by_cases hk':k≤N.length
   ·rw[p1 k hk',l1 k hk'];exact leO_trans (f6 k hk') (I.up _)
   ·rw[p2 k hk',l2 k hk',e2];exact leO_refl _
end
def seg (N:List Nat) (i j:Nat):List Nat:=(N.drop i).take (j - i)
def chs (ws:List Wy) (ns:List Nat):List Int:=ns.map (wchN ws)
theorem seg_nil (N:List Nat) (i:Nat):seg N i i=[]:=by unfold seg;rw[Nat.sub_self];rfl
theorem seg_succ {N:List Nat} {i j:Nat} (h:i≤j) (h2:j < N.length):seg N i (j + 1)=seg N i j++[N[j]]:=by
 unfold seg
 have e:j + 1 - i=j - i + 1:=by lia
 rw[e,List.take_add_one,List.getElem?_drop,show i + (j - i)=j by lia,List.getElem?_eq_getElem h2]
 rfl
theorem seg_len {N:List Nat} {i j:Nat} (h:j≤N.length):(seg N i j).length=j - i:=by
 unfold seg
 rw[List.length_take,List.length_drop]
 lia
theorem wk_append (st:Int) (o:Option Int) (xs ys:List Int):wkF st o (xs++ys)=wkF st (wkF st o xs) ys:=by unfold wkF;rw[List.foldl_append]
section
variable {ws:List Wy} {st:Int} {b:Tb} {N:List Nat} {P:Nat→Nat} {L:Nat→Int}
theorem Wk.ch (W:Wk ws st b N P L) {k:Nat} (h:k < N.length):stepF st (L k) (wchN ws N[k])=some (L (k + 1)):=by
 obtain⟨w,hw,_,_,e⟩:=W.way k N[k] (List.getElem?_eq_getElem h)
 unfold wchN
 rw[hw]
 exact e
theorem Wk.seg (W:Wk ws st b N P L) {i:Nat}:∀{j:Nat},i≤j→j≤N.length→wkF st (some (L i)) (chs ws (My.seg N i j))=some (L j)
 | 0,h1,_=>by
  have:i=0:=by lia
  subst this
  rw[seg_nil];rfl
 | j + 1,h1,h2=>by
  by_cases e:i=j + 1
  ·subst e
   rw[seg_nil];rfl
  ·rw[seg_succ (by lia) (by lia)]
   unfold chs
   rw[List.map_append,wk_append]
   have:=W.seg (i:=i) (j:=j) (by lia) (by lia)
   unfold chs at this
   rw[this]
   exact W.ch (by lia)
theorem Wk.bd (W:Wk ws st b N P L) (h0:0≤st) {m:Nat} (hb:TabOk m st b):∀k,k≤N.length→0≤L k∧L k≤st
 | 0,_=>hb.bd _ _ W.beg
 | k + 1,h=>step_bd h0 (W.ch (k:=k) (by lia))
theorem Wk.pl (W:Wk ws st b N P L) {m:Nat} (ok:LandOk m ws) (hb:TabOk m st b):∀k,k≤N.length→P k < m
 | 0,_=>by
  by_cases h:P 0 < m
  ·exact h
  ·have:=W.beg
   rw[gt_out (by rw[hb.len];lia)] at this
   cases this
 | k + 1,h=>by
  obtain⟨w,hw,_,e,_⟩:=W.way k N[k] (List.getElem?_eq_getElem (by lia))
  rw[←e]
  exact ok.en w (List.mem_of_getElem? hw)
theorem Wk.lid (W:Wk ws st b N P L) {T:Tb} (c:Closed ws st T) {i:Nat} {x:Int} (hx:leO (some x) (gt T (P i))):∀{j:Nat} {y:Int},i≤j→j≤N.length→wkF st (some x) (chs ws (My.seg N i j))=some y→leO (some y) (gt T (P j))
 | 0,y,h1,_,e=>by
  have:i=0:=by lia
  subst this
  rw[seg_nil] at e
  cases e
  exact hx
 | j + 1,y,h1,h2,e=>by
  by_cases q:i=j + 1
  ·subst q
   rw[seg_nil] at e
   cases e
   exact hx
  ·rw[seg_succ (by lia) (by lia)] at e
   unfold chs at e
   rw[List.map_append,wk_append] at e
   obtain⟨w,hw,e1,e2,_⟩:=W.way j N[j] (List.getElem?_eq_getElem (by lia))
   cases z:wkF st (some x) ((My.seg N i j).map (wchN ws)) with
   | none=>rw[z] at e;cases e
   | some v=>
    rw[z] at e
    have e':stepF st v (wchN ws N[j])=some y:=e
    have ih:=W.lid c hx (j:=j) (y:=v) (by lia) (by lia) z
    have hc:wchN ws N[j]=w.2.2:=by unfold wchN;rw[hw]
    cases g:gt T (P j) with
    | none=>rw[g] at ih;exact absurd ih leO_sn
    | some u=>
     rw[g] at ih
     have s1:=step_mono (st:=st) (c:=w.2.2) (leO_some.mp ih)
     rw[←hc,e',hc] at s1
     have s2:=c w (List.mem_of_getElem? hw)
     unfold behF at s2
     rw[e1,g,e2] at s2
     exact leO_trans s1 s2
end
def levF (st lv:Int):List Int→List Int
 | []=>[lv]
 | c::cs=>match stepF st lv c with
  | none=>[lv]
  | some x=>lv::levF st x cs
theorem levF_none {st lv c:Int} {cs:List Int} (h:stepF st lv c=none):levF st lv (c::cs)=[lv]:=by rw[levF,h]
theorem levF_some {st lv c x:Int} {cs:List Int} (h:stepF st lv c=some x):levF st lv (c::cs)=lv::levF st x cs:=by rw[levF,h]
theorem levF_get {st:Int}:∀{cs:List Int} {x y:Int},wkF st (some x) cs=some y→∀k,k≤cs.length→∃z,(levF st x cs)[k]?=some z∧wkF st (some x) (cs.take k)=some z
 | [],x,y,_,k,hk=>by
  have:k=0:=by simpa using hk
  subst this
  exact⟨x,rfl,rfl⟩
 | c::cs,x,y,h,k,hk=>by
  cases e:stepF st x c with
  | none=>
   have h':wkF st (stepF st x c) cs=some y:=h
   rw[e,wk_none] at h'
   cases h'
  | some x1=>
   have h':wkF st (stepF st x c) cs=some y:=h
   rw[e] at h'
   unfold levF
   rw[e]
   cases k with
   | zero=>exact⟨x,rfl,rfl⟩
   | succ k=>
    obtain⟨z,z1,z2⟩:=levF_get h' k (by simpa using hk)
    refine⟨z,z1,?_⟩
    show wkF st (stepF st x c) (cs.take k)=some z
    rw[e];exact z2
theorem levF_len {st:Int}:∀{cs:List Int} {x y:Int},wkF st (some x) cs=some y→(levF st x cs).length=cs.length + 1
 | [],_,_,_=>rfl
 | c::cs,x,y,h=>by
  have h':wkF st (stepF st x c) cs=some y:=h
  cases e:stepF st x c with
  | none=>rw[e,wk_none] at h';cases h'
  | some x1=>
   rw[e] at h'
   unfold levF
   rw[e,List.length_cons,List.length_cons,levF_len h']
theorem levF_full {st:Int}:∀{cs:List Int} {x y:Int},wkF st (some x) cs=some y→y=x + cs.sum∨st∈levF st x cs
 | [],x,y,h=>by
  cases h
  exact .inl (by simp)
 | c::cs,x,y,h=>by
  have h':wkF st (stepF st x c) cs=some y:=h
  cases e:stepF st x c with
  | none=>rw[e,wk_none] at h';cases h'
  | some x1=>
   rw[e] at h'
   have hd:(levF st x1 cs).head?=some x1:=by
    cases cs with
    | nil=>rfl
    | cons d ds=>
     unfold levF
     cases stepF st x1 d <;> rfl
   by_cases q:x1=st
   ·refine .inr ?_
    unfold levF
    rw[e]
    refine List.mem_cons_of_mem _ ?_
    have hm:=List.mem_of_head? hd
    have e3:(st∈levF st x1 cs)=(x1∈levF st x1 cs):=congrArg (·∈levF st x1 cs) q.symm
    rw[e3]
    exact hm
   ·have e1:x1=x + c:=by
     unfold stepF at e
     split at e
     ·cases e
     ·have e2:=Option.some.inj e
      split at e2
      ·exact absurd e2.symm q
      ·exact e2.symm
    rcases levF_full h' with z | z
    ·refine .inl ?_
     rw[z,e1,List.sum_cons];lia
    ·refine .inr ?_
     unfold levF
     rw[e]
     exact List.mem_cons_of_mem _ z
structure Rnd (st:Int) (cs:List Int) (x:Int) (le g tp:Int) (k:Nat):Prop where
 fx:fxF st cs=some (le,g,tp)
 g0:0 < g
 gs:g=cs.sum
 xt:x < tp
 tst:tp≤st
 kl:k≤cs.length
 ki:(levF st tp cs).idxOf st=k
 km:st∈levF st tp cs
 kw:wkF st (some tp) (cs.take k)=some st
 ll:(levF st tp cs).length=cs.length + 1
theorem rnd_ok {st:Int} {cs:List Int} {x y:Int} (h0:0≤x) (h1:x≤st) (w:wkF st (some x) cs=some y) (hy:x < y):∃le g tp k,Rnd st cs x le g tp k∧le≤x:=by
 have hp:=fx_walk h0 h1 cs
 rw[w] at hp
 have hok:=fxF_ok (by lia) cs (st:=st)
 cases e:fxF st cs with
 | none=>rw[e] at hp;cases hp
 | some r=>
  obtain⟨le,g,tp⟩:=r
  rw[e] at hp hok
  have gs:=fx_gain e
  obtain⟨o1,o2,o3,o4,o5,o6⟩:=hok
  simp only at o1 o2 o3 o4 o5 o6 gs
  unfold passF at hp
  dsimp only at hp
  split at hp
  ·cases hp
  ·rename_i hle
   have hy2:=Option.some.inj hp
   have g0:0 < g:=by split at hy2 <;> lia
   have xt:x < tp:=by split at hy2 <;> lia
   have wt:=fx_walk (st:=st) (x:=tp) o3 o4 cs
   rw[e] at wt
   unfold passF at wt
   dsimp only at wt
   rw[if_neg (by lia),if_pos (by lia)] at wt
   have km:st∈levF st tp cs:=by
    rcases levF_full wt.symm with z | z
    ·lia
    ·exact z
   have hlt:=List.idxOf_lt_length_iff.mpr km
   have ll:=levF_len wt.symm
   rw[ll] at hlt
   obtain⟨z,z1,z2⟩:=levF_get wt.symm ((levF st tp cs).idxOf st) (by lia)
   have ez:z=st:=by
    have hl2:=List.idxOf_lt_length_iff.mpr km
    rw[List.getElem?_eq_getElem hl2,List.getElem_idxOf hl2] at z1
    exact (Option.some.inj z1).symm
   subst ez
   exact⟨le,g,tp,_,⟨e,g0,gs,xt,o4,by lia,rfl,km,z2,ll⟩,by lia⟩
section
variable {m:Nat} {ws:List Wy} {st:Int} {b:Tb} {N:List Nat} {P:Nat→Nat} {L:Nat→Int}
theorem seg_take {N:List Nat} {i j k:Nat} (h:k≤j - i):(seg N i j).take k=seg N i (i + k):=by
 unfold seg
 rw[List.take_take,show min k (j - i)=k by lia,show i + k - i=k by lia]
theorem fill_lid (W:Wk ws st b N P L) {i j:Nat} (hij:i < j) (hj:j≤N.length) (hp:P i=P j) {le g tp:Int} {k:Nat} (hle:le≤L i) (R:Rnd st (chs ws (seg N i j)) (L i) le g tp k) {T:Tb} (hT:TabOk m st T) (hb:leT b T) (c:Closed ws st T) :
  leO (some st) (gt T (P (i + k))):=by
 have kl:k≤j - i:=by
  have:=R.kl
  unfold chs at this
  rw[List.length_map,seg_len hj] at this
  exact this
 have h0:leO (some (L 0)) (gt T (P 0)):=by rw[←W.beg];exact hb _
 have hi:=W.lid c h0 (j:=i) (Nat.zero_le _) (by lia) (W.seg (Nat.zero_le _) (by lia))
 cases q:gt T (P i) with
 | none=>rw[q] at hi;exact absurd hi leO_sn
 | some z=>
  rw[q] at hi
  have hz:=leO_some.mp hi
  obtain⟨z0,z1⟩:=hT.bd _ _ q
  have wz:=fx_walk z0 z1 (chs ws (seg N i j))
  rw[R.fx] at wz
  unfold passF at wz
  dsimp only at wz
  rw[if_neg (by lia)] at wz
  have hr:=W.lid c (x:=z) (by rw[q];exact leO_refl _) (j:=j) (by lia) hj wz.symm
  rw[←hp,q] at hr
  have hr':=leO_some.mp hr
  have:=R.g0
  have htz:tp≤z:=by split at hr' <;> lia
  have ht:leO (some tp) (gt T (P i)):=by rw[q];exact leO_some.mpr htz
  refine W.lid c ht (j:=i + k) (by lia) (by lia) ?_
  have kw:=R.kw
  unfold chs at kw ⊢
  rw[←List.map_take,seg_take kl] at kw
  exact kw
theorem fill_new (W:Wk ws st b N P L) (h0:0≤st) (hb:TabOk m st b) {i j k:Nat} (hij:i < j) (hj:j≤N.length) (hp:P i=P j) (hk:i + k≤j):gt b (P (i + k))≠some st:=fun e=>by
 have key:∀q,1≤q→q≤N.length→gt b (P q)≠some st:=fun q h1 h2 e=>by
  have r:=W.rise q h1 h2
  rw[e] at r
  have:=of_decide_eq_true r
  have:=(W.bd h0 hb q h2).2
  lia
 by_cases hk0:i + k=0
 ·rw[hk0] at e
  have:i=0:=by lia
  rw[this] at hp
  rw[hp] at e
  exact key j (by lia) hj e
 ·exact key (i + k) (by lia) (by lia) e
theorem Least.fill (hb:TabOk m st b) {p:Nat} (hp:p < m) {t:Tb} (h:Least m ws st (b.set p (some st)) t) (hl:∀T,TabOk m st T→leT b T→Closed ws st T→leO (some st) (gt T p)):Least m ws st b t:=by
 have g:∀j,gt (b.set p (some st)) j=if p=j then some st else gt b j:=fun j=>gt_set (by rw[hb.len];exact hp)
 refine⟨h.tab,fun q=>leO_trans ?_ (h.up q),h.cl,fun T hT h1 h2=>h.le T hT (fun q=>?_) h2⟩
 ·rw[g]
  by_cases e:p=q
  ·rw[if_pos e]
   cases z:gt b q with
   | none=>rfl
   | some x=>exact leO_some.mpr (hb.bd _ _ z).2
  ·rw[if_neg e];exact leO_refl _
 ·rw[g]
  by_cases e:p=q
  ·rw[if_pos e,←e];exact hl T hT h1 h2
  ·rw[if_neg e];exact h1 q
theorem fill_tab (h0:0≤st) (hb:TabOk m st b) {p:Nat} (hp:p < m):TabOk m st (b.set p (some st)):=by
 refine⟨by rw[List.length_set];exact hb.len,fun q x h=>?_⟩
 rw[gt_set (by rw[hb.len];exact hp)] at h
 by_cases e:p=q
 ·rw[if_pos e] at h;cases h;exact⟨h0,Int.le_refl _⟩
 ·rw[if_neg e] at h;exact hb.bd q x h
end
def lack (st:Int) (b:Tb):Nat:=b.countP fun x=>!(x == some st)
theorem lack_set (st:Int):∀(b:Tb) (p:Nat),p < b.length→gt b p≠some st→lack st (b.set p (some st)) < lack st b
 | [],_,h,_=>by simp at h
 | x::b,0,_,h=>by
  have hx:x≠some st:=h
  show List.countP _ (some st::b) < List.countP _ (x::b)
  rw[List.countP_cons_of_neg (by simp),List.countP_cons_of_pos (by simp [hx])]
  lia
 | x::b,p + 1,h1,h2=>by
  have ih:=lack_set st b p (by simpa using h1) h2
  show List.countP _ (x::b.set p (some st)) < List.countP _ (x::b)
  unfold lack at ih
  rw[List.countP_cons,List.countP_cons]
  lia
theorem nodup_few:∀(m:Nat) (l:List Nat),l.Nodup→(∀x∈l,x < m)→l.length≤m
 | 0,l,_,h=>by
  cases l with
  | nil=>exact Nat.le_refl _
  | cons x r=>exact absurd (h x List.mem_cons_self) (by lia)
 | m + 1,l,nd,h=>by
  by_cases c:m∈l
  ·have h1:=nodup_few m (l.erase m) (nd.erase m) fun x hx=>by
    have h2:=h x (List.mem_of_mem_erase hx)
    have h3:x≠m:=fun e=>by
     subst e
     exact absurd hx (nd.not_mem_erase)
    lia
   rw[List.length_erase_of_mem c] at h1
   lia
  ·have:=nodup_few m l nd fun x hx=>by
    have h2:=h x hx
    have h3:x≠m:=fun e=>c (e▸hx)
    lia
   lia
abbrev Sp2:=Nat×Int
section
variable {m:Nat} {ws:List Wy} {st:Int} {b g:Sp2}
end
section
variable {ws:List Wy} {row:List Nat} {cs:List Int} {st sc gv x y:Int} {p0:Nat}
end
section
variable {m:Nat} {row:List Nat} {cs:List Int} {sc gv:Int} {B S ws:List Wy}
end
section
variable {m:Nat} {ws:List Wy} {row:List Nat} {cs:List Int} {sc gv st x y:Int} {p0 pl:Nat}
end
section
variable {m:Nat} {ws:List Wy} {st:Int}
end
section
variable {m:Nat} {st:Int}
end
end My
namespace L2
open PySem PySem.Spec PyProof.Rows
end L2
namespace My
open PySem L2
section
variable {X:Cx} {C:DC}
variable {st:Stmt} {te:DE}
end
section
variable {X:Cx} {C:DC} {st:Stmt} {te:DE} {tg e:Expr} {u:DF}
end
section
variable {C:DC}
def gMaxI (ds:List PyData) (Q:PyData→Prop):Prop:=match ds with
 | [.list xs]=>bnd (intsD xs) fun ns=>ns≠[]∧∀M,topI ns M→Q (.int M)
 | _=>False
def gMaxD (d:Int) (ds:List PyData) (Q:PyData→Prop):Prop:=match ds with
 | [.list xs]=>bnd (intsD xs) fun ns=>(ns=[]→Q (.int d))∧∀M,topI ns M→Q (.int M)
 | _=>False
section
variable {X:Cx} {st:Stmt} {ta:DF}
def dPar3 (i j k:Nat) (ta:DF) (D:DEnds) (ρ:List Sl):Prop:=ta ρ fun ds ρ'=>match ds with
 | [a,b,c]=>D.nx (((ρ'.set i (.sh a)).set j (.sh b)).set k (.sh c))
 | _=>False
variable {a b:Expr} {te:DE} {pos:Pos}
end
end
section
variable {X:Cx} {C:DC} {st:Stmt} {te:DE}
end
section
variable {C:DC}
end
section
variable {X:Cx} {C:DC}
end
section
variable {C:DC}
end
section
variable {X:Cx} {C:DC} {st:Stmt} {te:DE}
end
section
variable {C:DC}
end
section
variable {C:DC} {col col2:Addr→Nat} {ρ:List Sl} {σ:St} {P:List Pe} {H H2:Hp} {i:Nat} {ds:List PyData} {a:Addr} {vs:List V}
variable {X:Cx} {e:Expr}
end
end My
namespace L2
open PySem PySem.Spec PyProof.Rows
section
variable {κ:Type} [DecidableEq κ]
def valV (kvs:List (κ×V)) (k:κ):Option V:=(kvs.find? fun kv=>decide (kv.1=k)).map (·.2)
def putK (kvs:List (κ×V)) (k:κ) (v:V):List (κ×V):=
 if (kvs.any fun kv=>decide (kv.1=k))=true then kvs.map (fun kv=>if kv.1=k then (kv.1,v) else kv) else kvs++[(k,v)]
def dropK (kvs:List (κ×V)) (k:κ):List (κ×V):=kvs.filter fun kv=>decide (kv.1≠k)
theorem valV_pos {p:κ×V} {r:List (κ×V)} {k:κ} (e:p.1=k):valV (p::r) k=some p.2:=by simp [valV,List.find?_cons,e]
theorem valV_neg {p:κ×V} {r:List (κ×V)} {k:κ} (e:¬ p.1=k):valV (p::r) k=valV r k:=by simp [valV,List.find?_cons,e]
theorem valV_any (k:κ):∀kvs:List (κ×V),(kvs.any fun kv=>decide (kv.1=k))=(valV kvs k).isSome
 | []=>rfl
 | p::r=>by
  rw[List.any_cons]
  by_cases e:p.1=k
  ·simp only[valV_pos e,decide_eq_true e,Bool.true_or,Option.isSome_some]
  ·rw[valV_neg e,decide_eq_false e,Bool.false_or];exact valV_any k r
theorem length_putK (kvs:List (κ×V)) (k:κ) (v:V):(putK kvs k v).length≤kvs.length + 1:=by
 unfold putK
 split
 ·rw[List.length_map];omega
 ·rw[List.length_append,List.length_cons,List.length_nil];omega
theorem RelO.isSome_eq {o:Option V} {u:Option Value} (r:RelO o u):o.isSome=u.isSome:=by
 cases o with
 | none=>cases u with
  | none=>rfl
  | some _=>exact (show False from r).elim
 | some _=>cases u with
  | none=>exact (show False from r).elim
  | some _=>rfl
theorem KV.val {kvs:List (κ×V)} {vs:List (κ×Value)} (r:KV kvs vs) (k:κ):RelO (valV kvs k) (valueAt vs k):=by
 unfold KV at r
 induction r with
 | nil=>exact True.intro
 | @cons p q ps qs h t ih=>
  obtain⟨h1,h2⟩:=h
  by_cases e:p.1=k
  ·have e':q.1=k:=h1.symm.trans e
   have b:valueAt (q::qs) k=some q.2:=by simp [valueAt,List.find?_cons,e']
   rw[valV_pos e,b];exact h2
  ·have e':¬ q.1=k:=fun z=>e (h1.trans z)
   have b:valueAt (q::qs) k=valueAt qs k:=by simp [valueAt,List.find?_cons,e']
   rw[valV_neg e,b];exact ih
theorem KV.any {kvs:List (κ×V)} {vs:List (κ×Value)} (r:KV kvs vs) (k:κ):(kvs.any fun kv=>decide (kv.1=k))=vs.any fun kv=>decide (kv.1=k):=by
 unfold KV at r
 induction r with
 | nil=>rfl
 | cons h t ih=>rw[List.any_cons,List.any_cons,ih,h.1]
theorem KV.repl {kvs:List (κ×V)} {vs:List (κ×Value)} (r:KV kvs vs) (k:κ) {y:V} {u:Value} (ry:RelV y u) :
  KV (kvs.map fun kv=>if kv.1=k then (kv.1,y) else kv) (vs.map fun kv=>if kv.1=k then (kv.1,u) else kv):=by
 unfold KV at r ⊢
 induction r with
 | nil=>exact .nil
 | @cons p q ps qs h t ih=>
  rw[List.map_cons,List.map_cons]
  refine .cons ?_ ih
  obtain⟨h1,h2⟩:=h
  by_cases e:p.1=k
  ·rw[if_pos e,if_pos (h1.symm.trans e)];exact⟨h1,ry⟩
  ·rw[if_neg e,if_neg (fun z=>e (h1.trans z))];exact⟨h1,h2⟩
theorem KV.put {kvs:List (κ×V)} {vs:List (κ×Value)} (r:KV kvs vs) (k:κ) {y:V} {u:Value} (ry:RelV y u):KV (putK kvs k y) (stored vs k u):=by
 unfold putK stored
 rw[r.any k]
 by_cases e:(vs.any fun kv=>decide (kv.1=k))=true
 ·rw[if_pos e,if_pos e];exact r.repl k ry
 ·rw[if_neg e,if_neg e];exact Paired.snoc r ⟨rfl,ry⟩
theorem KV.drop {kvs:List (κ×V)} {vs:List (κ×Value)} (r:KV kvs vs) (k:κ):KV (dropK kvs k) (without vs k):=by
 unfold KV at r ⊢
 unfold dropK without
 induction r with
 | nil=>exact .nil
 | @cons p q ps qs h t ih=>
  obtain⟨h1,h2⟩:=h
  rw[List.filter_cons,List.filter_cons]
  by_cases e:p.1=k
  ·have a:¬ decide (p.1≠k)=true:=by simp [e]
   have b:¬ decide (q.1≠k)=true:=by simp [h1.symm.trans e]
   rw[if_neg a,if_neg b];exact ih
  ·have e':¬ q.1=k:=fun z=>e (h1.trans z)
   have a:decide (p.1≠k)=true:=by simp [e]
   have b:decide (q.1≠k)=true:=by simp [e']
   rw[if_pos a,if_pos b];exact .cons ⟨h1,h2⟩ ih
theorem KV.length {kvs:List (κ×V)} {vs:List (κ×Value)} (r:KV kvs vs):kvs.length=vs.length:=Paired.length r
theorem dropK_le (kvs:List (κ×V)) (k:κ):(dropK kvs k).length≤kvs.length:=List.length_filter_le _ _
end
theorem kV_is {P:Program} {w:World} {k:Key} {u:Value} (r:RelV (kV k) u):(mixKind P w).is k u=true:=by
 cases k with
 | inl i=>obtain⟨t,e⟩:=(show ∃t,u=Value.int i t from r);subst e;exact mixKind_int P w i t
 | inr x=>obtain⟨t,e⟩:=(show ∃t,u=Value.str x t from r);subst e;exact mixKind_str P w x t
theorem items_are {P:Program} {w:World}:∀{ks:List Key} {us:List Value},Vals (ks.map kV) us→ItemsAre (mixKind P w) ks us
 | [],_,r=>by rw[List.map_nil] at r;cases r;exact .nil
 | k::ks,_,r=>by
  rw[List.map_cons] at r
  cases r with
  | cons h t=>exact .cons (kV_is h) (items_are t)
abbrev KT (H:Hp):List (List Key×V)→List (List Key×Addr×Value)→Prop:=Paired fun p q=>p.1=q.1∧H q.2.1=some (.tup (p.1.map kV))∧RelV p.2 q.2.2
theorem KT.val {H:Hp} {kvs:List (List Key×V)} {xs:List (List Key×Addr×Value)} (r:KT H kvs xs) (k:List Key):RelO (valV kvs k) ((atKey xs k).map (·.2)):=by
 induction r with
 | nil=>exact True.intro
 | @cons p q ps qs h t ih=>
  obtain⟨h1,_,h2⟩:=h
  by_cases e:p.1=k
  ·have e':q.1=k:=h1.symm.trans e
   have b:atKey (q::qs) k=some q.2:=by simp [atKey,List.find?_cons,e']
   rw[valV_pos e,b];exact h2
  ·have e':¬ q.1=k:=fun z=>e (h1.trans z)
   have b:atKey (q::qs) k=atKey qs k:=by simp [atKey,List.find?_cons,e']
   rw[valV_neg e,b];exact ih
theorem KT.repl {H:Hp} {kvs:List (List Key×V)} {xs:List (List Key×Addr×Value)} (r:KT H kvs xs) (k:List Key) {y:V} {u:Value} (ry:RelV y u) :
  KT H (kvs.map fun kv=>if kv.1=k then (kv.1,y) else kv) (xs.map (putAt k u)):=by
 induction r with
 | nil=>exact .nil
 | @cons p q ps qs h t ih=>
  rw[List.map_cons,List.map_cons]
  refine .cons ?_ ih
  obtain⟨h1,h2,h3⟩:=h
  unfold putAt
  by_cases e:p.1=k
  ·rw[if_pos e,if_pos (h1.symm.trans e)];exact⟨h1,h2,ry⟩
  ·rw[if_neg e,if_neg (fun z=>e (h1.trans z))];exact⟨h1,h2,h3⟩
theorem KT.put {H:Hp} {kvs:List (List Key×V)} {xs:List (List Key×Addr×Value)} (r:KT H kvs xs) (k:List Key) {b:Addr} {y:V} {u:Value} (hb:H b=some (.tup (k.map kV))) (ry:RelV y u) :
  KT H (putK kvs k y) (storedH xs k b u):=by
 have e:(kvs.any fun kv=>decide (kv.1=k))=(atKey xs k).isSome:=by
  rw[valV_any,(r.val k).isSome_eq,Option.isSome_map]
 unfold putK storedH
 rw[e]
 by_cases q:(atKey xs k).isSome=true
 ·rw[if_pos q,if_pos q];exact r.repl k ry
 ·rw[if_neg q,if_neg q];exact Paired.snoc r ⟨rfl,hb,ry⟩
theorem KT.keeps {H H':Hp} {kvs:List (List Key×V)} {xs:List (List Key×Addr×Value)} (r:KT H kvs xs) (ht:∀b ys,H b=some (.tup ys)→H' b=some (.tup ys)):KT H' kvs xs:=
 Paired.mapP r fun _ _ z=>⟨z.1,ht _ _ z.2.1,z.2.2⟩
section
variable {P:Program} {w:World} {H:Hp} {h:Heap} {a:Addr}
theorem rd_of {u:HO} (ok:HOk P w H h) (e:Rd H a u):ObjOk P w H h a u:=e.ok ok
theorem dk_rd {kvs:List (Key×V)} (ok:HOk P w H h) (e:Rd H a (.dK kvs)):kvs.length≤sizeLine∧(a == sysModules)=false∧∃vs,KV kvs vs∧h.DictOf (mixKind P w) a vs:=
 show ObjOk P w H h a (.dK kvs) from rd_of ok e
theorem dk_of {kvs:List (Key×V)} (ok:HOk P w H h) (e:H a=some (.dK kvs)):kvs.length≤sizeLine∧(a == sysModules)=false∧∃vs,KV kvs vs∧h.DictOf (mixKind P w) a vs:=dk_rd ok (.inl e)
theorem key_of {ks:List Key} (ok:HOk P w H h) (e:H a=some (.tup (ks.map kV))):(tupleKind (mixKind P w)).is h ks a:=by
 obtain⟨_,its,r,o,h1,h2,n,h3⟩:=(show ObjOk P w H h a (.tup (ks.map kV)) from ok a _ e)
 exact⟨o,its.toArray,n,h1,h2,h3,by simpa using items_are r⟩
theorem dt_rd {kvs:List (List Key×V)} (ok:HOk P w H h) (e:Rd H a (.dT kvs)):kvs.length≤sizeLine∧(a == sysModules)=false∧
  ∃xs,KT H kvs xs∧h.DictOfH (tupleKind (mixKind P w)) a xs:=by
 obtain⟨z,y,xs,r,o,es,ep,h1,h2,h3,h4,h5⟩:=(show ObjOk P w H h a (.dT kvs) from rd_of ok e)
 refine⟨z,y,xs,r,o,es,ep,h1,h2,h3,h4,fun x hx=>?_,h5⟩
 have all:∀{l:List (List Key×V)} {m:List (List Key×Addr×Value)},KT H l m→∀x∈m,(tupleKind (mixKind P w)).is h x.1 x.2.1:=by
  intro l m q
  induction q with
  | nil=>intro x hx;exact nomatch hx
  | @cons p q ps qs hq t ih=>
   intro x hx
   rcases List.mem_cons.mp hx with e | hx
   ·subst e
    exact key_of ok (by rw[←hq.1];exact hq.2.1)
   ·exact ih x hx
 exact all r x hx
theorem dt_of {kvs:List (List Key×V)} (ok:HOk P w H h) (e:H a=some (.dT kvs)):kvs.length≤sizeLine∧(a == sysModules)=false∧
  ∃xs,KT H kvs xs∧h.DictOfH (tupleKind (mixKind P w)) a xs:=dt_rd ok (.inl e)
end
def DGet (H:Hp) (a:Addr) (y:V) (r:Option V):Prop:=
 (∃kvs k,Rd H a (.dK kvs)∧y=kV k∧r=valV kvs k)∨∃kvs k b,Rd H a (.dT kvs)∧y=.ref b∧H b=some (.tup (k.map kV))∧r=valV kvs k
def DPut (H:Hp) (a:Addr) (y v:V) (H':Hp):Prop:=
 (∃kvs k,H a=some (.dK kvs)∧y=kV k∧kvs.length < sizeLine∧H'=upd H a (.dK (putK kvs k v)))∨
 ∃kvs k b,H a=some (.dT kvs)∧y=.ref b∧H b=some (.tup (k.map kV))∧kvs.length < sizeLine∧H'=upd H a (.dT (putK kvs k v))
theorem DGet.k {H:Hp} {a:Addr} {kvs:List (Key×V)} {k:Key} (e:H a=some (.dK kvs)):DGet H a (kV k) (valV kvs k):=.inl ⟨kvs,k,.inl e,rfl,rfl⟩
theorem DPut.k {H:Hp} {a:Addr} {kvs:List (Key×V)} {k:Key} {v:V} (e:H a=some (.dK kvs)) (hl:kvs.length < sizeLine):DPut H a (kV k) v (upd H a (.dK (putK kvs k v))):=.inl ⟨kvs,k,e,rfl,hl,rfl⟩
section
variable {X:Cx} {pins:List (Addr×Obj)} {σ:St} {H:Hp} {s:Shared} {a:Addr} {y v:V} {u r:Value} {o:Option V} {A:Around} {E:Value→Shared→Prop}
theorem Inv.big (I:Inv X pins σ H s):sysModules < s.heap.objs.size:=by
 have h:mainGlobals < s.heap.objs.size:=(I.mod.glob.keeps I.bk).lt
 exact Nat.lt_trans (by decide) h
theorem d_getItem {Q:Value→Shared→Prop} (hu:A.units + 1 < cLine) (I:Inv X pins σ H s) (g:DGet H a y (some v)) (ry:RelV y u) (h:∀w' s',Inv X pins σ H s'→RelV v w'→Q w' s') :
  wpAny (model X.prog X.w) A (getItem (.ref a) u) Q E s:=by
 rcases g with ⟨kvs,k,e,ey,l⟩ | ⟨kvs,k,b,e,ey,eb,l⟩
 ·subst ey
  obtain⟨z,hd,vs,rel,dd⟩:=dk_rd I.hok e
  obtain⟨w',hw,rw'⟩:=RelO.some_of (v:=v) (o:=valueAt vs k) (by rw[l];exact rel.val k)
  exact wpAny_getItem_of (kV_is ry) dd.mapOf hw (h w' _ (I.tok _) rw')
 ·subst ey
  cases (show u=Value.ref b from ry)
  obtain⟨z,hd,xs,rel,dd⟩:=dt_rd I.hok e
  obtain⟨w',hw,rw'⟩:=RelO.some_of (v:=v) (o:=(atKey xs k).map (·.2)) (by rw[l];exact rel.val k)
  obtain⟨p,hp,hp2⟩:=Option.map_eq_some_iff.mp hw
  refine wpAny_getItem_heap (tupleKind_room_in1 hu) (key_of I.hok eb) dd hp ?_
  rw[hp2]
  exact h w' _ (I.tok _) rw'
theorem d_in {Q:Value→Shared→Prop} (hu:A.units + 1 < cLine) (I:Inv X pins σ H s) (g:DGet H a y o) (ry:RelV y u) (h:∀s',Inv X pins σ H s'→Q (.bool o.isSome) s') :
  wpAny (model X.prog X.w) A (compareOp .In u (.ref a)) Q E s:=by
 rcases g with ⟨kvs,k,e,ey,l⟩ | ⟨kvs,k,b,e,ey,eb,l⟩
 ·subst ey
  obtain⟨z,hd,vs,rel,dd⟩:=dk_rd I.hok e
  refine wpAny_in_of (kV_is ry) hd dd.mapOf ?_
  rw[←(rel.val k).isSome_eq,←l]
  exact h _ (I.tok _)
 ·subst ey
  cases (show u=Value.ref b from ry)
  obtain⟨z,hd,xs,rel,dd⟩:=dt_rd I.hok e
  refine wpAny_in_heap (tupleKind_room_in1 hu) (key_of I.hok eb) hd dd ?_
  have q:=(rel.val k).isSome_eq
  rw[Option.isSome_map] at q
  rw[←q,←l]
  exact h _ (I.tok _)
theorem d_notIn {Q:Value→Shared→Prop} (hu:A.units + 1 < cLine) (I:Inv X pins σ H s) (g:DGet H a y o) (ry:RelV y u) (h:∀s',Inv X pins σ H s'→Q (.bool (!o.isSome)) s') :
  wpAny (model X.prog X.w) A (compareOp .NotIn u (.ref a)) Q E s:=by
 rcases g with ⟨kvs,k,e,ey,l⟩ | ⟨kvs,k,b,e,ey,eb,l⟩
 ·subst ey
  obtain⟨z,hd,vs,rel,dd⟩:=dk_rd I.hok e
  refine wpAny_notIn_of (kV_is ry) hd dd.mapOf ?_
  rw[←(rel.val k).isSome_eq,←l]
  exact h _ (I.tok _)
 ·subst ey
  cases (show u=Value.ref b from ry)
  obtain⟨z,hd,xs,rel,dd⟩:=dt_rd I.hok e
  refine wpAny_notIn_heap (tupleKind_room_in1 hu) (key_of I.hok eb) hd dd ?_
  have q:=(rel.val k).isSome_eq
  rw[Option.isSome_map] at q
  rw[←q,←l]
  exact h _ (I.tok _)
theorem d_write {h':Heap} {t':Nat} {ob:HO} (I:Inv X pins σ H s) (mu:Mut (H a)) (hs:Heap.SameBut a s.heap h') (he:∃q,h'.get? a=some q) (new:ObjOk X.prog X.w (upd H a ob) h' a ob) :
  Inv X pins σ (upd H a ob) { s with heap:=h',toks:=t' }:=
 I.write (x:=a) (e:=a) mu (.inl rfl) (fun b q hb z=>(hs.2 b hb).trans z) he new
theorem dk_new {P:Program} {w:World} {H':Hp} {h':Heap} {kvs:List (Key×V)} {vs:List (Key×Value)} (z:kvs.length≤sizeLine) (hd:(a == sysModules)=false) (rel:KV kvs vs) (dd:h'.DictOf (mixKind P w) a vs) :
  ObjOk P w H' h' a (.dK kvs):=⟨z,hd,vs,rel,dd⟩
theorem d_setItem {H':Hp} {Q:Unit→Shared→Prop} (hu:A.units + 1 < cLine) (I:Inv X pins σ H s) (g:DPut H a y v H') (ry:RelV y u) (rv:RelV v r) (h:∀s',Inv X pins σ H' s'→Q () s') :
  wpAny (model X.prog X.w) A (setItem (.ref a) u r) Q E s:=by
 rcases g with ⟨kvs,k,e,ey,l,eH⟩ | ⟨kvs,k,b,e,ey,eb,l,eH⟩
 ·subst ey eH
  obtain⟨z,hd,vs,rel,dd⟩:=dk_of I.hok e
  have hz:vs.length≤sizeLine:=by rw[←rel.length];exact z
  have hl:(putK kvs k v).length≤sizeLine:=by have:=length_putK kvs k v;omega
  refine wpAny_setItem_pairs (hsz:=hz) (kV_is ry) dd fun h' dd' hs=>h _ ?_
  have he:∃q,h'.get? a=some q:=let ⟨q,_,_,hq,_⟩:=dd';⟨q,hq⟩
  exact d_write I (by rw[e];exact True.intro) hs he (dk_new hl hd (rel.put k rv) dd')
 ·subst ey eH
  cases (show u=Value.ref b from ry)
  obtain⟨z,hd,xs,rel,dd⟩:=dt_of I.hok e
  have hz:xs.length≤sizeLine:=by rw[←Paired.length rel];exact z
  have hl:(putK kvs k v).length≤sizeLine:=by have:=length_putK kvs k v;omega
  refine wpAny_setItem_heap (hsz:=hz) (tupleKind_room_in1 hu) (key_of I.hok eb) dd fun h' dd' hs=>h _ ?_
  obtain⟨q,es,ep,hq,h2,h3,h4,_,h5⟩:=dd'
  refine d_write I (by rw[e];exact True.intro) hs ⟨q,hq⟩ ⟨hl,hd,_,(rel.put k eb rv).keeps fun c ys ec=>?_,q,es,ep,hq,h2,h3,h4,h5⟩
  rw[upd_ne (ne_of ec e (fun z=>nomatch z))]
  exact ec
end
section
variable {X:Cx} {pins:List (Addr×Obj)} {σ:St} {H:Hp} {s:Shared} {a:Addr} {kvs:List (Key×V)} {k:Key} {u:Value} {A:Around} {E:Value→Shared→Prop}
theorem d_pop {v:V} {more:List Value} {Q:Value→Shared→Prop} (I:Inv X pins σ H s) (e:H a=some (.dK kvs)) (ry:RelV (kV k) u) (l:valV kvs k=some v) (hm:more=[]∨∃x,more=[x])
  (h:∀w' s',Inv X pins σ (upd H a (.dK (dropK kvs k))) s'→RelV v w'→Q w' s'):wpAny (model X.prog X.w) A (call (.builtin "dict.pop") (.ref a::u::more)) Q E s:=by
 obtain⟨z,hd,vs,rel,dd⟩:=dk_of I.hok e
 obtain⟨w',hw,rw'⟩:=RelO.some_of (v:=v) (o:=valueAt vs k) (by rw[←l];exact rel.val k)
 have hp:(keyPart u).isSome=true:=by
  cases k with
  | inl i=>obtain⟨t,q⟩:=(show ∃t,u=Value.int i t from ry);subst q;rfl
  | inr x=>obtain⟨t,q⟩:=(show ∃t,u=Value.str x t from ry);subst q;rfl
 have ha:argsOk "dict.pop" ⟨.ref a::u::more,[]⟩:=by
  rcases hm with q | ⟨x,q⟩
  ·subst q;exact PySem.F.args_dict_pop_2 _ _
  ·subst q;exact PySem.F.args_dict_pop_3 _ _ _
 refine call_meetsIn PySem.F.slot_dict_pop dd.typeIs PySem.F.entry_dict_pop ha (meets_dict_pop_there (mixKind X.prog X.w) a (kV_is ry) more hm hp)
  ⟨vs,w',dd,by rw[←rel.length];exact z,hw,fun h' dd' hs=>h w' _ ?_ rw'⟩
 have he:∃q,h'.get? a=some q:=let ⟨q,_,_,hq,_⟩:=dd';⟨q,hq⟩
 exact d_write I (by rw[e];exact True.intro) hs he (dk_new (Nat.le_trans (dropK_le kvs k) z) hd (rel.drop k) dd')
theorem d_len {Q:Value→Shared→Prop} (I:Inv X pins σ H s) (e:Rd H a (.dK kvs)) (h:∀t s',Inv X pins σ H s'→Q (.int kvs.length t) s'):wpAny (model X.prog X.w) A (call (.builtin "len") [.ref a]) Q E s:=by
 obtain⟨z,hd,vs,rel,dd⟩:=dk_rd I.hok e
 refine call_len_dict hd dd (by rw[←rel.length];rw[sizeLine_eq] at z;omega) ?_
 rw[←rel.length]
 exact h _ _ (I.tok _)
end
def NoSl (i:Expr):Prop:=∀ov iv,subscripted i false ov iv=operate [ov,iv] (getItem ov iv)
theorem subD_of {prog:Program} {w:World} {A:Around} {E:Value→Shared→Prop} {s:Shared} {env:Env} {value slice:Expr} {pos:Pos} {T id:String} {Q:Value→Shared→Prop}
  (hl:typeLookup (.type T) "__getitem__" = pure (some (.builtin id))) (hs:NoSl slice)
  (h:wpAny (model prog w) A (eval value env) (fun o s₁=>wpAny (model prog w) A (eval slice env) (fun i s₂=>s₂.TypeIs o T∧wpAny (model prog w) A (getItem o i) Q E s₂) E s₁) E s) :
  wpAny (model prog w) A (eval (.Subscript value slice pos) env) Q E s:=by
 refine Subscript_ (wpAny_mono h (fun o s₁ h₁=>wpAny_mono h₁ (fun i s₂ h₂=>?_) fun _ _ x=>x) fun _ _ x=>x)
 obtain⟨hT,h₂⟩:=h₂
 unfold subscriptTail
 refine wpAny_bind ?_
 rw[getitemInPython_of_ne hT.not_modules]
 refine wpAny_bind (wpAny_specialOf hT hl ?_)
 have fin:wpAny (model prog w) A (subscripted slice false o i) (fun r s₃=>wpAny (model prog w) A (letTemporaryGo value o r >>= fun _=>pure r) Q E s₃) E s₂:=by
  rw[hs o i]
  exact wpAny_operating (wpAny_mono h₂ (fun r s₃ h₃=>wpAny_bind (wpAny_letTemporaryGo (wpAny_pure h₃))) fun _ _ x=>x)
 first
  | exact wpAny_pure (wpAny_bind fin)
  | exact wpAny_bind (wpAny_pure (wpAny_bind fin))
  | exact wpAny_bind fin
theorem dict_typeIs {X:Cx} {pins:List (Addr×Obj)} {σ:St} {H:Hp} {s:Shared} {a:Addr} {y:V} {o:Option V} (I:Inv X pins σ H s) (g:DGet H a y o):s.TypeIs (.ref a) "dict" :=by
 rcases g with ⟨kvs,k,e,_,_⟩ | ⟨kvs,k,b,e,_,_,_⟩
 ·obtain⟨_,_,vs,_,dd⟩:=dk_rd I.hok e
  exact dd.typeIs
 ·obtain⟨_,_,xs,_,dd⟩:=dt_rd I.hok e
  exact dd.typeIs
def tDGet (td ty:TE):TE:=fun σ H Q=>td σ H fun x H1=>ty σ H1 fun y H2=>∃a v,x=.ref a∧DGet H2 a y (some v)∧Q v H2
def tDIn (ty td:TE):TE:=fun σ H Q=>ty σ H fun y H1=>td σ H1 fun x H2=>∃a o,x=.ref a∧DGet H2 a y o∧Q (.bl o.isSome) H2
def tDNotIn (ty td:TE):TE:=fun σ H Q=>ty σ H fun y H1=>td σ H1 fun x H2=>∃a o,x=.ref a∧DGet H2 a y o∧Q (.bl (!o.isSome)) H2
def sDPut (td ty tv:TE):TS:=fun D σ H=>tv σ H fun v H1=>td σ H1 fun x H2=>ty σ H2 fun y H3=>∃a H4,x=.ref a∧DPut H3 a y v H4∧D.nx σ H4
section
variable {X:Cx} {o i e value:Expr} {pos pos' tpos:Pos} {td ty tv:TE}
theorem pe_dget (hu:X.A.units + 1 < cLine) (ho:PE X o td) (hi:PE X i ty) (hs:NoSl i):PE X (.Subscript o i pos) (tDGet td ty):=by
 intro pins s σ H Q I h
 refine subD_of PySem.F.slot_dict_getitem.lookup hs (thn (ho pins s σ H _ I h) fun u s1 ⟨x,H1,I1,rx,q1⟩=>thn (hi pins s1 σ H1 _ I1 q1) fun iv s2 ⟨y,H2,I2,ry,a,v,ex,g,q2⟩=>?_)
 subst ex
 obtain rfl:u=Value.ref a:=rx
 exact⟨dict_typeIs I2 g,d_getItem hu I2 g ry fun w' s3 I3 rw'=>⟨v,H2,I3,rw',q2⟩⟩
theorem pc_din (hu:X.A.units + 1 < cLine) (hi:PE X i ty) (ho:PE X o td):PC X .In i o (tDIn ty td):=by
 intro pins s σ H Q I h
 refine thn (hi pins s σ H _ I h) fun iv s1 ⟨y,H1,I1,ry,q1⟩=>thn (ho pins s1 σ H1 _ I1 q1) fun u s2 ⟨x,H2,I2,rx,a,ov,ex,g,q2⟩=>?_
 subst ex
 obtain rfl:u=Value.ref a:=rx
 exact d_in hu I2 g ry fun s3 I3=>⟨.bl ov.isSome,H2,I3,rfl,q2⟩
theorem pc_dnotin (hu:X.A.units + 1 < cLine) (hi:PE X i ty) (ho:PE X o td):PC X .NotIn i o (tDNotIn ty td):=by
 intro pins s σ H Q I h
 refine thn (hi pins s σ H _ I h) fun iv s1 ⟨y,H1,I1,ry,q1⟩=>thn (ho pins s1 σ H1 _ I1 q1) fun u s2 ⟨x,H2,I2,rx,a,ov,ex,g,q2⟩=>?_
 subst ex
 obtain rfl:u=Value.ref a:=rx
 exact d_notIn hu I2 g ry fun s3 I3=>⟨.bl (!ov.isSome),H2,I3,rfl,q2⟩
theorem ps_dput (hu:X.A.units + 1 < cLine) (ho:PE X o td) (hi:PE X i ty) (hv:PE X value tv) (hs:swapsWith value (some (.Subscript o i pos')) pos.line X.env=pure false) :
  PS X (.Assign [.Subscript o i pos'] value pos) (sDPut td ty tv):=by
 intro pins s σ H D I h
 refine wpAny_Assign_Subscript (thn (hv pins s σ H _ I h) fun r s1 ⟨v,H1,I1,rv,q1⟩=>thn (ho pins s1 σ H1 _ I1 q1) fun u s2 ⟨x,H2,I2,rx,q2⟩=>thn (hi pins s2 σ H2 _ I2 q2) fun iv s3 ⟨y,H3,I3,ry,a,H4,ex,g,q3⟩=>?_) hs
 subst ex
 obtain rfl:u=Value.ref a:=rx
 exact d_setItem hu I3 g ry rv fun s4 I4=>⟨σ,H4,I4,q3⟩
end
theorem dk_empty {P:Program} {w:World} {H:Hp} (h:Heap) (hb:sysModules < h.objs.size):ObjOk P w H (h.push { cls:=.type "dict",data:=.dict #[] }) h.objs.size (.dK []):=
 ⟨Nat.zero_le _,beq_eq_false_iff_ne.mpr (Ne.symm (Nat.ne_of_lt hb)),[],.nil,Heap.DictOf.new h⟩
def tDNewK:TE:=fun _ H Q=>∀p,H p=none→Q (.ref p) (upd H p (.dK []))
section
variable {X:Cx} {pos:Pos}
theorem pe_dnewK:PE X (.Dict [] [] pos) tDNewK:=fun pins s σ H Q I h=>
 wpAny_Dict_empty ⟨.ref s.heap.objs.size,_,I.laid (a:=s.heap.objs.size) (o:=.dK []) (t':=s.toks) (fun _ _ q=>Heap.get?_push_of_some _ q) (Nat.le_refl _) (dk_empty s.heap I.big),rfl,h _ (I.hok.fresh (Nat.le_refl _))⟩
end
structure M1 (X:Cx) (o:Expr) (m:Str) (apos:Pos) (e:Expr) (cpos:Pos):Prop where
 base:attributeBase o m X.env (eval o X.env)=eval o X.env
 few:((backTo cpos (starEach [e] X.env)).all (fun x=>!x.1)&&(backToKw cpos (keywordEach [] X.env)).all (fun x=>x.1.isSome)
  &&decide (([e]:List Expr).length + ([]:List Keyword).length + (if ([]:List Keyword).isEmpty then 0 else 1) < 30))=true
 line:(apos.endLine == cpos.line)=true
 trees:backTo cpos (starEach [e] X.env)=[(false,eval e X.env)]
def IsD (H:Hp) (a:Addr):Prop:=(∃kvs,Rd H a (.dK kvs))∨∃kvs,Rd H a (.dT kvs)
theorem isD_at {X:Cx} {pins:List (Addr×Obj)} {σ:St} {H:Hp} {s:Shared} {a:Addr} (I:Inv X pins σ H s) (d:IsD H a) :
  s.TypeIs (.ref a) "dict" ∧(∀b,Value.ref a=.ref b→∃ob,s.heap.get? b=some ob∧ob.dict=none)∧(a == sysModules)=false:=by
 rcases d with ⟨kvs,e⟩ | ⟨kvs,e⟩
 ·obtain⟨_,hd,vs,_,dd⟩:=dk_rd I.hok e
  refine⟨dd.typeIs,fun b q=>?_,hd⟩
  cases q
  obtain⟨ob,_,_,h1,h2,_⟩:=dd
  exact⟨ob,h1,h2.2.1⟩
 ·obtain⟨_,hd,xs,_,dd⟩:=dt_rd I.hok e
  refine⟨dd.typeIs,fun b q=>?_,hd⟩
  cases q
  obtain⟨ob,_,_,h1,h2,_⟩:=dd
  exact⟨ob,h1,h2.2.1⟩
section
variable {X:Cx} {pins:List (Addr×Obj)} {σ:St} {H:Hp} {s:Shared} {a:Addr} {y d:V} {u r:Value} {o:Option V} {A:Around} {E:Value→Shared→Prop}
end
def tDPop1 (td ty:TE):TE:=fun σ H Q=>td σ H fun x H1=>∃a,x=.ref a∧IsD H1 a∧ty σ H1 fun y H2=>∃kvs k v,H2 a=some (.dK kvs)∧y=kV k∧valV kvs k=some v∧Q v (upd H2 a (.dK (dropK kvs k)))
section
variable {X:Cx} {o e f:Expr} {apos cpos:Pos} {td ty tx:TE}
theorem pe_dpop1 (ho:PE X o td) (he:PE X e ty) (m:M1 X o "pop" apos e cpos):PE X (.Call (.Attribute o "pop" apos) [e] [] cpos) (tDPop1 td ty):=by
 intro pins s σ H Q I h
 refine wpAny_Call_method m.base m.few m.line PySem.F.plainAttrs_dict PySem.F.slot_dict_pop PySem.F.type_dict_pop (thn (ho pins s σ H _ I h) fun u s1 ⟨x,H1,I1,rx,a,ex,d,q1⟩=>?_)
 subst ex
 obtain rfl:u=Value.ref a:=rx
 obtain⟨t1,t2,_⟩:=isD_at I1 d
 refine⟨t1,t2,?_⟩
 rw[m.trees]
 refine Calls.callWith_builtin rfl (Calls.evalArgs_plain (Calls.spliced_cons (thn (he pins s1 σ H1 _ I1 q1) fun iv s2 ⟨y,H2,I2,ry,kvs,k,v,ea,ey,l,q2⟩=>Calls.spliced_nil ?_)))
 subst ey
 exact d_pop I2 ea ry l (.inl rfl) fun w' s3 I3 rw'=>⟨v,_,I3,rw',q2⟩
end
section
variable {X:Cx} {pins:List (Addr×Obj)} {σ:St} {H:Hp} {s:Shared} {a:Addr} {kvs:List (Key×V)} {A:Around} {E:Value→Shared→Prop}
end
section
variable {X:Cx} {pins:List (Addr×Obj)} {σ:St} {H:Hp} {s:Shared} {a:Addr} {y:V} {u:Value} {A:Around} {E:Value→Shared→Prop}
end
section
variable {prog:Program} {w:World} {A:Around} {E:Value→Shared→Prop} {s:Shared}
end
end L2
namespace My
open PySem L2
theorem u1 {n:Nat} (h:n + 64 < cLine):n + 1 < cLine:=by omega
section
variable {C:DC} {col:Addr→Nat} {ρ:List Sl} {σ:St} {P:List Pe} {H H':Hp} {p:Addr}
end
open PySem.Spec PyProof.Rows
section
variable {P:Program} {w:World} {K:PySem.W.Frag} {mg:Str→Option Value} {base:Heap}
open Classical in
end
section
variable {X:Cx} {C:DC} {st:Stmt} {e a b:Expr} {te tk:DE} {u:DA} {pos:Pos}
end
end My
namespace My
open PySem L2
mutual
def lstsD:PyData→List (List PyData)
 | .list ds=>ds::lstsL ds
 | .tuple ds=>lstsL ds
 | _=>[]
def lstsL:List PyData→List (List PyData)
 | []=>[]
 | d::ds=>lstsD d++lstsL ds
end
mutual
def szD:PyData→Nat
 | .list ds=>szL ds + 1
 | .tuple ds=>szL ds + 1
 | _=>1
def szL:List PyData→Nat
 | []=>0
 | d::ds=>szD d + szL ds
end
section
variable {X:Cx} {C:DC} {st:Stmt} {u:DA}
variable {a b:Expr} {tb:DE} {pos:Pos}
def dEqV (neg:Bool) (i:Nat) (tb:DE)  (ρ:List Sl) (Q:PyData→List Sl→Prop):Prop:=bnd (slotD ρ i) fun _=>tb ρ fun b ρ1=>bnd (slotD ρ1 i) fun a=>gEq neg a b fun d=>Q d ρ1
variable {a b:Expr} {tb:DE} {pos:Pos}
end
end My
namespace L2
open PySem PySem.Spec PyProof.Rows
end L2
namespace My
open PySem L2
open PySem.Spec PyProof.Rows
section
variable {C:DC} {col:Addr→Nat} {ρ:List Sl} {σ:L2.St} {P:List Pe} {H H':Hp} {p:Addr}
end
section
variable {X:Cx} {C:DC} {st:Stmt} {e:Expr} {te:DE} {u:DA} {pos:Pos}
def dDict0 (ρ:List Sl) (Q:PyData→List Sl→Prop):Prop:=Q (.dict []) ρ
end
end My
namespace My
open PySem L2
section
variable {X:Cx} {C:DC} {st:Stmt} {e:Expr} {ta:DE}
end
end My
namespace My
abbrev Ct:=List (List (Option Int))
abbrev Spt:=Nat×Nat
def ca (t:Ct) (s:Spt):Option Int:=gt (t.getD s.1 []) s.2
open PySem L2
def gapO (st:Int):Option Int→Nat
 | none=>(st + 1).toNat
 | some x=>(st - x).toNat
def gapT (st:Int) (t:Tb):Nat:=(t.map (gapO st)).sum
theorem gap_sum:∀(f:Option Int→Nat) (t:Tb) (p:Nat) (o:Option Int),p < t.length→f o < f (gt t p)→((t.set p o).map f).sum < (t.map f).sum
 | f,[],p,o,h,_=>by simp at h
 | f,x::t,0,o,_,h=>by
  have:f o < f x:=h
  show f o + (t.map f).sum < f x + (t.map f).sum
  omega
 | f,x::t,p + 1,o,h,g=>by
  have:=gap_sum f t p o (by simp at h;omega) g
  show f x + ((t.set p o).map f).sum < f x + (t.map f).sum
  omega
theorem gap_fall {m:Nat} {st:Int} {t:Tb} {p:Nat} {y:Int} (ht:TabOk m st t) (hp:p < m) (y0:0≤y) (y1:y≤st) (h:moreF (some y) (gt t p)=true):gapT st (t.set p (some y)) < gapT st t:=by
 refine gap_sum _ t p _ (by rw[ht.len];exact hp) ?_
 cases e:gt t p with
 | none=>show (st - y).toNat < (st + 1).toNat;omega
 | some x=>
  rw[e] at h
  have h':x < y:=by unfold moreF at h;simpa using h
  have:=ht.bd p x e
  show (st - y).toNat < (st - x).toNat;omega
structure Mid (m:Nat) (ws:List Wy) (st:Int) (b t:Tb):Prop where
 tab:TabOk m st t
 up:leT b t
 le:∀L,TabOk m st L→leT b L→Closed ws st L→leT t L
theorem Mid.put {m:Nat} {ws:List Wy} {st:Int} {b t:Tb} (I:Mid m ws st b t) (ok:LandOk m ws) (h0:0≤st) {w:Wy} (hw:w∈ws) {y:Int} (e:behF st t w=some y) (h:moreF (some y) (gt t w.2.1)=true):Mid m ws st b (t.set w.2.1 (some y)):=by
 have hp:w.2.1 < t.length:=by rw[I.tab.len];exact ok.en w hw
 have hy:=beh_bd h0 e
 refine⟨⟨by rw[List.length_set];exact I.tab.len,fun p x e1=>?_⟩,fun p=>?_,fun L hL h1 h2 p=>?_⟩
 ·rw[gt_set hp] at e1
  split at e1
  ·cases e1;exact hy
  ·exact I.tab.bd p x e1
 ·rw[gt_set hp]
  split
  next c=>subst c;exact leO_trans (I.up _) (more_le h)
  ·exact I.up p
 ·have hl:=I.le L hL h1 h2
  rw[gt_set hp]
  split
  next c=>subst c;rw[←e];exact leO_trans (beh_mono hl) (h2 w hw)
  ·exact hl p
theorem Mid.least {m:Nat} {ws:List Wy} {st:Int} {b t:Tb} (I:Mid m ws st b t) (c:Closed ws st t):Least m ws st b t:=⟨I.tab,I.up,c,I.le⟩
end My
namespace L2
open PySem PySem.Spec PyProof.Rows
section
variable {X:Cx}
end
end L2
namespace My
open PySem L2
section
variable {C:DC}
end
end My
namespace L2
open PySem PySem.Spec PyProof.Rows
section
variable {X:Cx} {pins:List (Addr×Obj)} {σ:St} {H:Hp} {s:Shared}
end
section
variable {X:Cx}
end
section
variable {prog:Program} {w:World} {K:Type} [DecidableEq K] {knd:HeapKind prog w K} {A:Around} {E:Value→Shared→Prop} {s:Shared}
end
section
variable {X:Cx} {pins:List (Addr×Obj)} {σ:St} {H:Hp} {s:Shared} {a b:Addr} {kvs:List (List Key×V)} {k:List Key} {A:Around} {E:Value→Shared→Prop}
end
section
variable {prog:Program} {w:World} {A:Around} {E:Value→Shared→Prop} {s:Shared}
end
section
variable {prog:Program} {w:World} {A:Around} {R:Result→Shared→Prop} {I:Addr} {fp wr:List Addr} {n:Nat} {P:Nat→Value→Prop} {St:Nat→Heap→Prop}
end
section
variable {X:Cx}
end
theorem ints_keys:∀{kvs:List (Key×V)} {vs:List (Key×Value)} {ns:List Int} {its:List Value},KV kvs vs→kvs.map (·.1)=ns.map Sum.inl→its.length=vs.length→(∀(j:Nat) (v:Value),its[j]?=some v→∃k x,vs[j]?=some (k,x)∧∀i,k=Sum.inl i→∃t,v=Value.int i t)→Vals (ns.map V.int) its
 | [],[],[],[],_,_,_,_=>.nil
 | [],[],[],_::_,_,_,hl,_=>nomatch hl
 | [],[],_::_,_,_,h,_,_=>nomatch h
 | [],_::_,_,_,h,_,_,_=>nomatch h
 | _::_,[],_,_,h,_,_,_=>nomatch h
 | _::_,_::_,[],_,_,h,_,_=>nomatch h
 | _::_,_::_,_::_,[],_,_,hl,_=>nomatch hl
 | p::kvs,q::vs,n::ns,u::its,h,hk,hl,hp=>by
  obtain⟨k,x,e,e1⟩:=hp 0 u rfl
  cases e
  have h1:p.1=k∧KV kvs vs:=by
   cases h with
   | cons a b=>exact⟨a.1,b⟩
  rw[List.map_cons,List.map_cons] at hk
  injection hk with hk1 hk2
  rw[h1.1] at hk1
  exact .cons (e1 n hk1) (ints_keys h1.2 hk2 (by simpa using hl) fun j v hj=>hp (j + 1) v hj)
section
variable {prog:Program} {w:World} {A:Around} {E:Value→Shared→Prop} {s:Shared} {T:String} {r d:Addr} {n:Nat} {P:Nat→Value→Prop} {OK:Heap→Prop}
theorem gather {R:List Value→Shared→Prop} (src:PySem.W.KdlSrc prog w T r d n P OK) (calm:A.handled=none) (ok:OK s.heap) (few:n≤sizeLine)
  (k:∀(g:Heap) (t:Nat) (xs:Array Value),(∀b o,s.heap.get? b=some o→g.get? b=some o)→s.heap.objs.size≤g.objs.size→ItemsOf P xs n→R xs.toList { s with heap:=g,toks:=t }) :
  wpAny (model prog w) A (collect (.ref r)) R E s:=by
 obtain⟨lt1,lt2⟩:=src.there _ ok
 unfold collect
 refine wpAny_bind (wpAny_runValue (codeAny_builtin entry_proto_collect' ?_));rw[Around.under_plainId PySem.F.plain_proto_collect _]
 show wpAny _ A.in1 (newList [] >>= fun q=>again (.builtin "list.__iadd__" ⟨[q,.ref r],[]⟩)) _ _ s
 refine wpAny_bind (wpAny_newObj_type (wpAny_pure ⟨plainId_quiet PySem.F.plain_list_iadd _,codeAny_builtin entry_list_iadd' ?_⟩))
 rw[Around.under_plainId PySem.F.plain_list_iadd _];show wpAny _ A.in1 (Builtin.List.listExtendWith (.ref s.heap.objs.size) (.ref r) (.ref s.heap.objs.size)) _ _ _
 have base:(s.heap.push { cls:=.type "list",data:=.seq ([]:List Value).toArray }).get? s.heap.objs.size=some { cls:=.type "list",data:=.seq #[] }:=Heap.get?_push_size _ rfl
 have walk:=PySem.W.kdl_extend (A:=A) (s:={ s with heap:=s.heap.push { cls:=.type "list",data:=.seq ([]:List Value).toArray } })
  (R:=fun (q:Result) (s':Shared)=>∃(g:Heap) (t:Nat) (xs:Array Value) (c:Nat),q=.ok (.ret (.ref s.heap.objs.size))∧s'={ s with heap:=g,toks:=t }∧(∀b o,s.heap.get? b=some o→g.get? b=some o)∧
   g.get? s.heap.objs.size=some { cls:=.type "list",dict:=none,data:=.seq xs c,slots:=#[] }∧ItemsOf P xs n)
  src calm (src.keep _ _ ok fun b _ o z=>Heap.get?_push_of_some _ z) s.heap.objs.size (Nat.ne_of_gt lt1) (Nat.ne_of_gt lt2) (.ref s.heap.objs.size) 0 base
  (fun g t xs c hk hS hx=>⟨g,t,xs,c,rfl,rfl,fun b o z=>hk b o (Nat.ne_of_lt (Heap.lt_size z)) (Heap.get?_push_of_some _ z),hS,hx⟩) few
 have fin:∀{g:Heap} {t:Nat} {xs:Array Value} {c:Nat},(∀b o,s.heap.get? b=some o→g.get? b=some o)→g.get? s.heap.objs.size=some { cls:=.type "list",dict:=none,data:=.seq xs c,slots:=#[] }→ItemsOf P xs n→R xs.toList { s with heap:=g,toks:=t }:=
  fun hk hS hx=>k _ _ _ hk (Nat.le_of_lt (Heap.lt_size hS)) hx
 refine wpAny_mono walk (fun f s' x=>?_) fun e s' x=>by obtain⟨_,_,_,_,z,_⟩:=x;cases z
 cases f with
 | done f=>
  obtain⟨g,t,xs,c,z,rfl,hk,hS,hx⟩:=x
  cases z
  show wpAny _ A (load s.heap.objs.size >>= _) _ _ _;exact wpAny_bind (wpAny_load hS (wpAny_pure (fin hk hS hx)))
 | again c₁=>
  refine⟨x.1,codeAny_mono x.2 fun q s₂ y=>?_⟩
  obtain⟨g,t,xs,c,rfl,rfl,hk,hS,hx⟩:=y
  show wpAny _ A (load s.heap.objs.size >>= _) _ _ _;exact wpAny_bind (wpAny_load hS (wpAny_pure (fin hk hS hx)))
end
section
variable {X:Cx}
theorem call_sortedK (hc:X.calm=true):CallR X (.builtin "sorted") (fun xs H Q=>∃(p:Addr) (kvs:List (Key×V)) (ns:List Int),xs=[.ref p]∧H p=some (.dK kvs)∧kvs.map (·.1)=ns.map Sum.inl∧ns.length < 64∧∀(l:Addr) (ms:List Int),H l=none→ms.Perm ns→ms.Pairwise (·≤·)→Q (.ref l) (upd H l (.lst (ms.map V.int)))):=by
 intro pins s σ H xs us Q I r h
 obtain⟨p,kvs,ns,rfl,e,hkeys,hn,q⟩:=h
 obtain⟨u,rfl,rx⟩:=vals1 r
 cases rx
 obtain⟨z,lo,vs,rel,dd⟩:=dk_of I.hok e
 obtain⟨ep,hat⟩:=dd.dictAt
 have hh:=I.ok.hd hc
 have ln:kvs.length=ns.length:=by have:=congrArg List.length hkeys;simpa using this
 have lv:vs.length=ns.length:=by rw[←rel.length,ln]
 refine Calls.call_function_entry kind_sorted plain_sorted entry_sorted (args_sorted1 _) ?_
 unfold Builtin.«sorted»
 refine wpAny_bind (m:=checkCount "sorted" 1 1 _) (wpAny_pure ?_)
 refine wpAny_bind (gather (A:=X.A.in1) (PySem.W.kdl_dict (knd:=mixKind X.prog X.w) (kvs:=vs) (ep:=ep) lo) hh hat (by rw[←rel.length];exact z) fun h' tk acc hk ge hacc=>?_)
 have hl:acc.toList.length=vs.length:=by rw[Array.length_toList];exact hacc.1
 have hv:Vals (ns.map V.int) acc.toList:=ints_keys rel hkeys hl fun j v hj=>by
  obtain⟨k,x,e1,e2⟩:=hacc.2 j v (by rw[←Array.getElem?_toList];exact hj)
  refine⟨k,x,e1,fun i hi=>?_⟩
  subst hi
  have e2:keyIs (Sum.inl i) v=true:=(mixKind_is X.prog X.w (Sum.inl i) v).symm.trans e2
  rcases keyIs_shape e2 with ⟨j,t,e3,e4⟩ | ⟨y,t,e3,_⟩
  ·cases e3;exact⟨t,e4⟩
  ·cases e3
 have hi:=intsAre_of hv
 have h64:acc.toList.length < 64:=by rw[hl,lv];exact hn
 refine wpAny_bind (wpAny_newList ?_ (by rw[hl,←rel.length];exact z))
 have hoL:(h'.push (seqObj "list" acc.toList.toArray 0)).get? h'.objs.size=some (seqObj "list" acc.toList.toArray 0):=Heap.get?_push_size _ rfl
 refine wpAny_bind (wpAny_holding (wpAny_call_entry slot_list_sort ⟨_,hoL,rfl⟩ entry_list_sort (list_sort_tree hoL hi h64 fun out ms a1 a2 a3=>⟨_,rfl,?_⟩) (args_list_sort _)))
 refine wpAny_pure ⟨_,rfl,?_⟩
 have hk2:∀b o,s.heap.get? b=some o→(sortedHeap (h'.push (seqObj "list" acc.toList.toArray 0)) h'.objs.size acc.toList out).get? b=some o:=fun b o z=>by
  have z':=hk b o z
  have lt:=Heap.lt_size z'
  rw[sortedHeap_old (Nat.ne_of_lt lt) (by rw[size_push'];exact Nat.lt_succ_of_lt lt)]
  exact Heap.get?_push_of_some _ z'
 obtain⟨en,he⟩:=sortedHeap_at (out:=out) hoL
 have hv2:Vals (ms.map V.int) out.toList:=vals_ints a1
 refine⟨.ref h'.objs.size,_,I.laid (t':=tk) hk2 ge (show ObjOk X.prog X.w _ _ _ (.lst (ms.map V.int)) from ⟨?_,out.toList,en,hv2,by simpa [seqObj] using he⟩),rfl,q _ ms (I.hok.fresh ge) a2 a3⟩
 rw[List.length_map,a2.length_eq,sizeLine_eq]
 omega
theorem call_dictK:CallR X (.type "dict") (fun xs H Q=>∃(p:Addr) (kvs:List (Key×V)),xs=[.ref p]∧H p=some (.dK kvs)∧∀l,H l=none→Q (.ref l) (upd H l (.dK kvs))):=by
 intro pins s σ H xs us Q I r h
 obtain⟨p,kvs,rfl,e,q⟩:=h
 obtain⟨u,rfl,rx⟩:=vals1 r
 cases rx
 obtain⟨z,lo,vs,rel,dd⟩:=dk_of I.hok e
 refine kt_call_dict lo dd (by rw[←rel.length];exact z) fun h' hm hs=>?_
 have hk:∀b o,s.heap.get? b=some o→h'.get? b=some o:=fun b o y=>by
  have lt:=Heap.lt_size y
  rw[hs.2 b (Nat.ne_of_lt lt)]
  exact Heap.get?_push_of_some _ y
 refine⟨.ref s.heap.objs.size,_,I.laid (t':=s.toks) hk (Nat.le_refl _) (show ObjOk X.prog X.w _ _ _ (.dK kvs) from ⟨z,?_,vs,rel,hm⟩),rfl,q _ (I.hok.fresh (Nat.le_refl _))⟩
 exact beq_eq_false_iff_ne.mpr (Nat.ne_of_gt I.big)
theorem call_lenD:CallR X (.builtin "len") (fun xs H Q=>∃a kvs,xs=[V.ref a]∧H a=some (.dK kvs)∧Q (.int kvs.length) H):=by
 intro pins s σ H xs us Q I r h
 obtain⟨a,kvs,rfl,ha,q⟩:=h
 obtain⟨u,rfl,ru⟩:=vals1 r
 cases ru
 exact d_len I (.inl ha) fun t s' I'=>⟨.int kvs.length,H,I',⟨t,rfl⟩,q⟩
end
end L2
namespace My
open PySem L2
open PySem.Spec PyProof.Rows
mutual
def flatD:PyData→Bool
 | .none=>true
 | .bool _=>true
 | .int _=>true
 | .str _=>true
 | .tuple xs=>flatL xs
 | .list _=>false
 | .dict _=>false
def flatL:List PyData→Bool
 | []=>true
 | d::ds=>flatD d&&flatL ds
end
open Classical in
section
variable {X:Cx} {C:DC} {e a b:Expr} {es:List Expr} {t ta tb te:DE} {u:DA} {pos:Pos} {st:Stmt} {tg:Expr}
def dLVar (i:Nat) (ρ:List Sl) (Q:PyData→List Sl→Prop):Prop:=bnd (lentD ρ i) fun d=>Q d ρ
def dIxL (ta tb:DE)  (ρ:List Sl) (Q:PyData→List Sl→Prop):Prop:=ta ρ fun a ρ1=>tb ρ1 fun b ρ2=>bnd (ixD a b) fun d=>Q d ρ2
def dFlat (t:DE)  (ρ:List Sl) (Q:PyData→List Sl→Prop):Prop:=t ρ fun d ρ'=>flatD d=true∧Q d ρ'
def dLenL (t:DE)  (ρ:List Sl) (Q:PyData→List Sl→Prop):Prop:=t ρ fun d ρ'=>bnd (lenD d) fun n=>Q (.int n) ρ'
def dIsiL (t:DE) (T:String)  (ρ:List Sl) (Q:PyData→List Sl→Prop):Prop:=t ρ fun a ρ'=>Q (.bool (isiD T a)) ρ'
def dIsNL (neg:Bool) (t:DE)  (ρ:List Sl) (Q:PyData→List Sl→Prop):Prop:=t ρ fun a ρ'=>Q (.bool (if neg then !isN a else isN a)) ρ'
def dListL (t:DE)  (ρ:List Sl) (Q:List PyData→List Sl→Prop):Prop:=t ρ fun d ρ'=>bnd (itemsD d) fun ds=>flatL ds=true∧Q ds ρ'
def dIL (t:DE)  (ρ:List Sl) (Q:List PyData→List Sl→Prop):Prop:=t ρ fun d ρ'=>bnd (listD d) fun xs=>flatL xs=true∧Q xs ρ'
def dEnumL (t:DE)  (ρ:List Sl) (Q:List PyData→List Sl→Prop):Prop:=t ρ fun d ρ'=>bnd (listD d) fun xs=>flatL xs=true∧Q (enumD xs) ρ'
def aW (t:DE) (u:DA)  (ρ:List Sl) (Q:List Ar→List Sl→Prop):Prop:=t ρ fun d ρ1=>u ρ1 fun as ρ2=>Q (.w d::as) ρ2
end
end My
namespace My
open PySem L2
def ownS (C:DC) (col:Addr→Nat) (i:Nat) (b:Addr):Prop:=col b=2 * i + 3∧C.H0 b=none
open Classical in
noncomputable def ldC (C:DC) (col:Addr→Nat) (H:Hp) (i:Nat):DC:=⟨fun b=>C.F b∧¬ ownS C col i b,C.hand,fun b=>if ownS C col i b∨(∃xs,H b=some (.tup xs)) then H b else C.H0 b⟩
def noBB:List Sl→Bool
 | []=>true
 | .b2 _::_=>false
 | .no::r=>noBB r
 | .sh _::r=>noBB r
 | .ow _::r=>noBB r
 | .bo _::r=>noBB r
 | .hd::r=>noBB r
 | .o2 _::r=>noBB r
 | .di _ _::r=>noBB r
 | .dm _ _::r=>noBB r
 | .bd _::r=>noBB r
 | .ot _::r=>noBB r
 | .ob _::r=>noBB r
section
variable {C:DC} {col col2:Addr→Nat} {ρ:List Sl} {σ:L2.St} {P:List Pe} {H H2:Hp} {i:Nat} {d:PyData}
open Classical in
open Classical in
end
section
variable {X:Cx} {C:DC} {e:Expr} {st:Stmt} {t te:DE} {u:DA} {i:Nat}
def dLendE (i:Nat) (t:DE)  (ρ:List Sl) (Q:PyData→List Sl→Prop):Prop:=match ρ[i]? with
 | some (.ot d)=>noBB ρ=true∧t (ρ.set i (.bd d)) fun d' ρ'=>ρ'=ρ.set i (.bd d)∧Q d' ρ
 | _=>t ρ Q
def flatM:List Md→List PyData→Bool
 | [],[]=>true
 | .sh::ms,d::ds=>flatD d&&flatM ms ds
 | .bo::ms,.list es::ds=>flatL es&&flatM ms ds
 | .bd::ms,_::ds=>flatM ms ds
 | .hd::ms,_::ds=>flatM ms ds
 | _,_=>false
def dNewT (i:Nat) (ms:List Md) (sp:DSp) (u:DA)  (D:DEnds) (ρ:List Sl):Prop:=u ρ fun as ρ'=>bnd (arsD ρ' ms as) fun ds=>flatM ms ds=true∧sp ds fun d=>D.nx (ρ'.set i (.ot d))
open Classical in
mutual
def skelD:PyData→PyData
 | .tuple xs=>.tuple (skelL xs)
 | .list _=>.list []
 | .none=>.none
 | .bool b=>.bool b
 | .int i=>.int i
 | .str s=>.str s
 | .dict d=>.dict d
def skelL:List PyData→List PyData
 | []=>[]
 | d::ds=>skelD d::skelL ds
end
def dMutA (i:Nat) (c:Int) (te:DE) (D:DEnds) (ρ:List Sl):Prop:=match ρ[i]? with
 | some (.ot (.tuple xs))=>noBB ρ=true∧match atI xs c with
  | some (.list ds)=>(flatL ds=true∧ds.length≤100000)∧te (ρ.set i (.bd (.tuple xs))) fun d' ρ'=>ρ'=ρ.set i (.bd (.tuple xs))∧flatD d'=true∧∀xs',skelL xs'=skelL xs→D.nx (ρ.set i (.ot (.tuple xs')))
  | _=>False
 | _=>False
open Classical in
def dMutN (i:Nat) (c:Int) (te:DE) (D:DEnds) (ρ:List Sl):Prop:=match ρ[i]? with
 | some (.ot (.tuple xs))=>noBB ρ=true∧match atI xs c with
  | some (.list ds)=>ds.length≤100000∧te (ρ.set i (.bd (.tuple xs))) fun d' ρ'=>ρ'=ρ.set i (.bd (.tuple xs))∧D.nx (ρ.set i .no)
  | _=>False
 | _=>False
open Classical in
def dMutC (i:Nat) (c:Int) (D:DEnds) (ρ:List Sl):Prop:=match ρ[i]? with
 | some (.ot (.tuple xs))=>match atI xs c with
  | some (.list _)=>∀xs',skelL xs'=skelL xs→D.nx (ρ.set i (.ot (.tuple xs')))
  | _=>False
 | _=>False
end
end My
namespace L2
open PySem PySem.Spec PyProof.Rows
section
variable {X:Cx}
end
end L2
namespace My
open PySem L2
section
variable {X:Cx} {C:DC} {a b:Expr} {te:DE} {pos:Pos} {i:Nat}
def dNinD (te:DE) (i:Nat) (ρ:List Sl) (Q:PyData→List Sl→Prop):Prop:=te ρ fun d ρ1=>bnd (slotD ρ1 i) fun a=>bnd (listD a) fun xs=>(PyData.canLayAll0 xs=true∧d.canLay0=true∧d.depth≤60)∧Q (.bool (!(xs.any fun z=>PyData.eqv z d))) ρ1
end
section
variable {X:Cx} {C:DC} {e a b:Expr} {t:DE} {tt:DT} {i:Nat} {pos:Pos}
def dLendB (i:Nat) (tt:DT)  (ρ:List Sl) (Q:Bool→List Sl→Prop):Prop:=match ρ[i]? with
 | some (.ot d)=>noBB ρ=true∧tt (ρ.set i (.bd d)) fun b ρ'=>ρ'=ρ.set i (.bd d)∧Q b ρ
 | _=>tt ρ Q
end
section
variable {X:Cx} {C:DC} {e:Expr} {u:DA} {i:Nat}
def arS (ρ:List Sl) (i:Nat) (m:Md) (a:Ar):Option PyData:=match m,a with
 | .sh,.s j=>if j=i then (match ρ[i]? with
  | some (.ot d)=>some d
  | _=>none) else none
 | m,a=>arD ρ m a
def arsS (ρ:List Sl) (i:Nat):List Md→List Ar→Option (List PyData)
 | [],[]=>some []
 | m::ms,a::as=>(arS ρ i m a).bind fun d=>(arsS ρ i ms as).map (d::·)
 | _,_=>none
def dCallS (i:Nat) (ms:List Md) (sp:DSp) (u:DA)  (ρ:List Sl) (Q:PyData→List Sl→Prop):Prop:=u ρ fun as ρ'=>bnd (arsS ρ' i ms as) fun ds=>sp ds fun d=>flatD d=true∧Q d ρ'
end
section
variable {C:DC} {col:Addr→Nat} {ρ:List Sl} {σ:St} {P:List Pe} {H H':Hp} {p:Addr}
end
section
variable {X:Cx} {C:DC} {st:Stmt} {e a b:Expr} {te tk:DE} {pos:Pos}
theorem ThVs.lenD {F:Addr→Prop} {H:Hp}:∀{vs:List V} {ds:List PyData},ThVs F H vs ds→vs.length=ds.length
 | _,_,.nil=>rfl
 | _,_,.cons _ t=>by rw[List.length_cons,List.length_cons,ThVs.lenD t]
end
section
variable {X:Cx} {C:DC} {st:Stmt}
end
section
variable {X:Cx} {C:DC} {st:Stmt} {i j:Nat}
end
section
variable {X:Cx} {C:DC} {e:Expr} {te tp tl:DE} {i:Nat}
open Classical in
end
open PySem.Spec
section
variable {X:Cx} {C:DC} {a st:Expr} {pos:Pos}
end
section
variable {X:Cx} {C:DC}
end
mutual
def okS:PyData→Bool
 | .none=>true
 | .bool _=>true
 | .int _=>true
 | .str _=>true
 | .tuple xs=>okSs xs
 | .list xs=>okSs xs
 | .dict ks=>ks.isEmpty
def okSs:List PyData→Bool
 | []=>true
 | d::ds=>okS d&&okSs ds
end
section
variable {X:Cx} {pins:List (Addr×Obj)} {σ:St} {H:Hp} {s:Shared} {F:Addr→Prop}
end
section
variable {C:DC}
end
open PyProof.Rows
section
variable {X:Cx} {C:DC} {st:Stmt} {i:Nat}
open Classical in
end
section
variable {X:Cx} {C:DC} {a b:Expr} {tl tb:DE} {pos:Pos}
end
mutual
inductive FpV (F:Addr→Prop) (H:Hp):V→PyData→List Addr→Prop
 | non:FpV F H .non .none []
 | bl (b):FpV F H (.bl b) (.bool b) []
 | int (i):FpV F H (.int i) (.int i) []
 | str (x):FpV F H (.str x) (.str x) []
 | lst {a xs ds fp}:F a→H a=some (.lst xs)→FpVs F H xs ds fp→FpV F H (.ref a) (.list ds) (a::fp)
 | tup {a xs ds fp}:F a→H a=some (.tup xs)→FpVs F H xs ds fp→FpV F H (.ref a) (.tuple ds) fp
inductive FpVs (F:Addr→Prop) (H:Hp):List V→List PyData→List Addr→Prop
 | nil:FpVs F H [] [] []
 | cons {x xs d ds fp fps}:FpV F H x d fp→FpVs F H xs ds fps→FpVs F H (x::xs) (d::ds) (fp++fps)
end
mutual
theorem FpV.th {F:Addr→Prop} {H:Hp}:∀{v:V} {d:PyData} {fp:List Addr},FpV F H v d fp→ThV F H v d
 | _,_,_,.non=>.non
 | _,_,_,.bl b=>.bl b
 | _,_,_,.int i=>.int i
 | _,_,_,.str x=>.str x
 | _,_,_,.lst n e t=>.lst n e (FpVs.th t)
 | _,_,_,.tup n e t=>.tup n e (FpVs.th t)
theorem FpVs.th {F:Addr→Prop} {H:Hp}:∀{vs:List V} {ds:List PyData} {fp:List Addr},FpVs F H vs ds fp→ThVs F H vs ds
 | _,_,_,.nil=>.nil
 | _,_,_,.cons x t=>.cons (FpV.th x) (FpVs.th t)
end
mutual
theorem FpV.mvm {F G:Addr→Prop} {H H':Hp}:∀{v:V} {d:PyData} {fp:List Addr},FpV F H v d fp→(∀b o,F b→H b=some o→(b∈fp∨∃xs,o=.tup xs)→G b∧H' b=some o)→FpV G H' v d fp
 | _,_,_,.non,_=>.non
 | _,_,_,.bl b,_=>.bl b
 | _,_,_,.int i,_=>.int i
 | _,_,_,.str x,_=>.str x
 | _,_,_,.lst n e t,f=>
  have q:=f _ _ n e (.inl List.mem_cons_self)
  .lst q.1 q.2 (FpVs.mvm t fun b o z e h=>f b o z e (h.imp (List.mem_cons_of_mem _) id))
 | _,_,_,.tup n e t,f=>
  have q:=f _ _ n e (.inr ⟨_,rfl⟩)
  .tup q.1 q.2 (FpVs.mvm t f)
theorem FpVs.mvm {F G:Addr→Prop} {H H':Hp}:∀{vs:List V} {ds:List PyData} {fp:List Addr},FpVs F H vs ds fp→(∀b o,F b→H b=some o→(b∈fp∨∃xs,o=.tup xs)→G b∧H' b=some o)→FpVs G H' vs ds fp
 | _,_,_,.nil,_=>.nil
 | _,_,_,.cons x t,f=>.cons (FpV.mvm x fun b o z e h=>f b o z e (h.imp (fun h=>List.mem_append.mpr (.inl h)) id)) (FpVs.mvm t fun b o z e h=>f b o z e (h.imp (fun h=>List.mem_append.mpr (.inr h)) id))
end
def trR (d:PyData):ORel where
 p:=fun W H v=>∃fp,FpV W H v d fp∧fp.Nodup
 mv:=fun f ⟨fp,t,n⟩=>⟨fp,t.mvm fun b o z e _=>f b o z e,n⟩
section
variable {C:DC} {col col2:Addr→Nat} {ρ:List Sl} {σ:L2.St} {P:List Pe} {H H2:Hp} {i:Nat} {d:PyData} {R:ORel}
open Classical in
open Classical in
end
section
variable {X:Cx} {C:DC} {e:Expr} {es:List Expr} {st:Stmt} {t te:DE} {tt:DT} {u:DA} {i:Nat}
def dLendO (i:Nat) (t:DE)  (ρ:List Sl) (Q:PyData→List Sl→Prop):Prop:=match ρ[i]? with
 | some (.ob R)=>∃d,R=trR d∧noBB ρ=true∧t (ρ.set i (.bd d)) fun d' ρ'=>ρ'=ρ.set i (.bd d)∧Q d' ρ
 | _=>t ρ Q
def dLendOB (i:Nat) (tt:DT)  (ρ:List Sl) (Q:Bool→List Sl→Prop):Prop:=match ρ[i]? with
 | some (.ob R)=>∃d,R=trR d∧noBB ρ=true∧tt (ρ.set i (.bd d)) fun b ρ'=>ρ'=ρ.set i (.bd d)∧Q b ρ
 | _=>tt ρ Q
def arF (ρ:List Sl) (m:Md) (a:Ar):Option PyData:=match m,a with
 | .sh,.w d=>some d
 | .sh,.s i=>match ρ[i]? with
  | some (.bd d)=>some d
  | some (.sh d)=>some d
  | _=>none
 | m,a=>arD ρ m a
def arsF (ρ:List Sl):List Md→List Ar→Option (List PyData)
 | [],[]=>some []
 | m::ms,a::as=>(arF ρ m a).bind fun d=>(arsF ρ ms as).map (d::·)
 | _,_=>none
def dCallF (ms:List Md) (sp:DSp) (u:DA)  (ρ:List Sl) (Q:PyData→List Sl→Prop):Prop:=u ρ fun as ρ'=>bnd (arsF ρ' ms as) fun ds=>sp ds fun d=>flatD d=true∧Q d ρ'
open Classical in
def dNewA (i:Nat) (ms:List Md) (sp:DSp) (u:DA)  (D:DEnds) (ρ:List Sl):Prop:=u ρ fun as ρ'=>bnd (arsD ρ' ms as) fun ds=>sp ds fun d=>D.nx (ρ'.set i (.ob (trR d)))
end
section
variable {X:Cx} {C:DC} {tg e:Expr} {t:DE} {st:Stmt} {i:Nat}
def dRevL (t:DE)  (ρ:List Sl) (Q:List PyData→List Sl→Prop):Prop:=t ρ fun d ρ'=>bnd (listD d) fun xs=>Q xs.reverse ρ'
def dILn (t:DE)  (ρ:List Sl) (Q:List PyData→List Sl→Prop):Prop:=t ρ fun d ρ'=>bnd (listD d) fun xs=>Q xs ρ'
def dSetL (i:Nat) (t:DE) (D:DEnds) (ρ:List Sl):Prop:=t ρ fun d ρ'=>D.nx (ρ'.set i (.bd d))
def dForL (it:DF) (i:Nat) (tb:DS) (D:DEnds) (ρ:List Sl):Prop:=it ρ fun xs ρ1=>∃I:List PyData→List Sl→Prop,I xs ρ1∧(∀x r ρ,I (x::r) ρ→Blk tb { nx:=I r,ct:=I r,bk:=D.nx,rt:=D.rt } (ρ.set i (.bd x)))∧∀ρ,I [] ρ→D.nx ρ
end
section
variable {X:Cx} {C:DC} {st:Stmt} {i j ia ib:Nat}
def dClrA (i j:Nat) (D:DEnds) (ρ:List Sl):Prop:=match ρ[i]?,ρ[j]? with
 | some (.ob R),some (.sh (.int z))=>∃(ds ps:List PyData) (s:PyData) (k:Nat),R=trR (.list ds)∧z=(k:Nat)∧ds[k]?=some (.tuple [s,.list ps])∧D.nx (ρ.set i (.ob (trR (.list (ds.set k (.tuple [s,.list []]))))))
 | _,_=>False
def PtA (n:Nat) (p:PyData):Prop:=∃es t,p=.tuple [.list es,t]∧flatL es=true∧flatD t=true∧es.length≤n
def dForA (i j ia ib:Nat) (D:DEnds) (ρ:List Sl):Prop:=match ρ[i]?,ρ[j]? with
 | some (.ob R),some (.sh (.int z))=>∃(ds ps:List PyData) (s:PyData) (k:Nat),R=trR (.list ds)∧z=(k:Nat)∧ds[k]?=some (.tuple [s,.list ps])∧(∀p∈ps,PtA 1000 p)∧ps.length≤1000∧((i≠ia∧i≠ib∧ia≠ib)∧i < ρ.length∧ia < ρ.length∧ib < ρ.length)∧
  ∀ps':List PyData,ps'.length=ps.length→D.nx (((ρ.set ia .no).set ib .no).set i (.ob (trR (.list (ds.set k (.tuple [s,.list ps']))))))
 | _,_=>False
end
end My
namespace My
open PySem L2
theorem us_c {us:List Value} {n:Nat} (h:us.length=n + 1):∃a r,us=a::r∧r.length=n:=by
 cases us with
 | nil=>cases h
 | cons a r=>exact⟨a,r,rfl,Nat.succ.inj h⟩
theorem usl0 {us:List Value} (h:us.length=0):us=[]:=by
 cases List.eq_nil_of_length_eq_zero h
 exact rfl
theorem usl1 {us:List Value} (h:us.length=1):∃a0,us=[a0]:=by
 obtain⟨a0,u0,rfl,h0⟩:=us_c h
 cases List.eq_nil_of_length_eq_zero h0
 exact⟨a0,rfl⟩
theorem usl2 {us:List Value} (h:us.length=2):∃a0 a1,us=[a0,a1]:=by
 obtain⟨a0,u0,rfl,h0⟩:=us_c h
 obtain⟨a1,u1,rfl,h1⟩:=us_c h0
 cases List.eq_nil_of_length_eq_zero h1
 exact⟨a0,a1,rfl⟩
theorem usl3 {us:List Value} (h:us.length=3):∃a0 a1 a2,us=[a0,a1,a2]:=by
 obtain⟨a0,u0,rfl,h0⟩:=us_c h
 obtain⟨a1,u1,rfl,h1⟩:=us_c h0
 obtain⟨a2,u2,rfl,h2⟩:=us_c h1
 cases List.eq_nil_of_length_eq_zero h2
 exact⟨a0,a1,a2,rfl⟩
theorem usl4 {us:List Value} (h:us.length=4):∃a0 a1 a2 a3,us=[a0,a1,a2,a3]:=by
 obtain⟨a0,u0,rfl,h0⟩:=us_c h
 obtain⟨a1,u1,rfl,h1⟩:=us_c h0
 obtain⟨a2,u2,rfl,h2⟩:=us_c h1
 obtain⟨a3,u3,rfl,h3⟩:=us_c h2
 cases List.eq_nil_of_length_eq_zero h3
 exact⟨a0,a1,a2,a3,rfl⟩
theorem usl5 {us:List Value} (h:us.length=5):∃a0 a1 a2 a3 a4,us=[a0,a1,a2,a3,a4]:=by
 obtain⟨a0,u0,rfl,h0⟩:=us_c h
 obtain⟨a1,u1,rfl,h1⟩:=us_c h0
 obtain⟨a2,u2,rfl,h2⟩:=us_c h1
 obtain⟨a3,u3,rfl,h3⟩:=us_c h2
 obtain⟨a4,u4,rfl,h4⟩:=us_c h3
 cases List.eq_nil_of_length_eq_zero h4
 exact⟨a0,a1,a2,a3,a4,rfl⟩
theorem usl6 {us:List Value} (h:us.length=6):∃a0 a1 a2 a3 a4 a5,us=[a0,a1,a2,a3,a4,a5]:=by
 obtain⟨a0,u0,rfl,h0⟩:=us_c h
 obtain⟨a1,u1,rfl,h1⟩:=us_c h0
 obtain⟨a2,u2,rfl,h2⟩:=us_c h1
 obtain⟨a3,u3,rfl,h3⟩:=us_c h2
 obtain⟨a4,u4,rfl,h4⟩:=us_c h3
 obtain⟨a5,u5,rfl,h5⟩:=us_c h4
 cases List.eq_nil_of_length_eq_zero h5
 exact⟨a0,a1,a2,a3,a4,a5,rfl⟩
theorem usl7 {us:List Value} (h:us.length=7):∃a0 a1 a2 a3 a4 a5 a6,us=[a0,a1,a2,a3,a4,a5,a6]:=by
 obtain⟨a0,u0,rfl,h0⟩:=us_c h
 obtain⟨a1,u1,rfl,h1⟩:=us_c h0
 obtain⟨a2,u2,rfl,h2⟩:=us_c h1
 obtain⟨a3,u3,rfl,h3⟩:=us_c h2
 obtain⟨a4,u4,rfl,h4⟩:=us_c h3
 obtain⟨a5,u5,rfl,h5⟩:=us_c h4
 obtain⟨a6,u6,rfl,h6⟩:=us_c h5
 cases List.eq_nil_of_length_eq_zero h6
 exact⟨a0,a1,a2,a3,a4,a5,a6,rfl⟩
theorem usl8 {us:List Value} (h:us.length=8):∃a0 a1 a2 a3 a4 a5 a6 a7,us=[a0,a1,a2,a3,a4,a5,a6,a7]:=by
 obtain⟨a0,u0,rfl,h0⟩:=us_c h
 obtain⟨a1,u1,rfl,h1⟩:=us_c h0
 obtain⟨a2,u2,rfl,h2⟩:=us_c h1
 obtain⟨a3,u3,rfl,h3⟩:=us_c h2
 obtain⟨a4,u4,rfl,h4⟩:=us_c h3
 obtain⟨a5,u5,rfl,h5⟩:=us_c h4
 obtain⟨a6,u6,rfl,h6⟩:=us_c h5
 obtain⟨a7,u7,rfl,h7⟩:=us_c h6
 cases List.eq_nil_of_length_eq_zero h7
 exact⟨a0,a1,a2,a3,a4,a5,a6,a7,rfl⟩
def top (i:Nat):Stmt:=PySem.Challenge.pw_trudge_k91_deeds_told.main.body.getD i (.Pass ⟨0,0,0,0⟩)
abbrev s_is_whole:Stmt:=top 12
abbrev s_is_store:Stmt:=top 13
abbrev s_is_level:Stmt:=top 14
abbrev s_stepped:Stmt:=top 15
abbrev s_levels_along:Stmt:=top 16
abbrev s_is_place:Stmt:=top 24
abbrev s_is_change:Stmt:=top 25
abbrev s_is_way:Stmt:=top 26
abbrev s_turned_land:Stmt:=top 27
abbrev s_changes_of:Stmt:=top 28
abbrev s_is_table:Stmt:=top 30
abbrev s_is_more:Stmt:=top 31
abbrev s_behind_way:Stmt:=top 32
abbrev s_is_within:Stmt:=top 34
abbrev s_effect_of_none:Stmt:=top 39
abbrev s_effect_of_one:Stmt:=top 40
abbrev s_effect_of:Stmt:=top 41
abbrev s_passed:Stmt:=top 42
abbrev s_joined:Stmt:=top 43
abbrev s_first_row:Stmt:=top 49
abbrev s_row_behind:Stmt:=top 50
abbrev s_walk_to:Stmt:=top 51
abbrev s_behind_ways:Stmt:=top 55
abbrev s_behind_part:Stmt:=top 56
abbrev s_end_of:Stmt:=top 57
abbrev s_rows_from:Stmt:=top 59
abbrev s_still_rises:Stmt:=top 60
abbrev s_rising_walk:Stmt:=top 61
abbrev s_parted_at_round:Stmt:=top 62
abbrev s_parts_by:Stmt:=top 63
abbrev s_filling_parts:Stmt:=top 64
abbrev s_settled:Stmt:=top 65
abbrev s_highest:Stmt:=top 66
abbrev s_lacking:Stmt:=top 68
abbrev s_least:Stmt:=top 69
abbrev s_is_label:Stmt:=top 72
abbrev s_places_below:Stmt:=top 73
abbrev s_m_init:Stmt:=inClass (top 74) 0
abbrev s_m_lay:Stmt:=inClass (top 74) 1
abbrev s_m_lift:Stmt:=inClass (top 74) 2
abbrev s_m_turn:Stmt:=inClass (top 74) 3
abbrev s_m_refill:Stmt:=inClass (top 74) 4
abbrev s_m_aim:Stmt:=inClass (top 74) 5
abbrev s_m_found:Stmt:=inClass (top 74) 6
abbrev s_m_moved:Stmt:=inClass (top 74) 7
abbrev s_m_ways:Stmt:=inClass (top 74) 8
abbrev s_m_store:Stmt:=inClass (top 74) 9
abbrev s_m_goal:Stmt:=inClass (top 74) 10
abbrev s_m_land:Stmt:=inClass (top 74) 11
abbrev s_m_least:Stmt:=inClass (top 74) 12
abbrev s_hand:Stmt:=top 76
abbrev s_next:Stmt:=top 77
abbrev s_take:Stmt:=top 78
abbrev s_draw:Stmt:=top 79
abbrev s_change:Stmt:=top 80
abbrev s_table:Stmt:=top 81
abbrev s_law_is_whole:Stmt:=top 82
abbrev s_less:Stmt:=top 83
abbrev s_own_least:Stmt:=top 84
abbrev s_moved:Stmt:=top 85
abbrev s_state:Stmt:=top 86
abbrev s_own_land:Stmt:=top 87
abbrev s_deed:Stmt:=top 88
abbrev s_after:Stmt:=top 89
abbrev s_do:Stmt:=top 90
abbrev s_asked:Stmt:=top 91
abbrev s_own:Stmt:=top 92
abbrev s_law:Stmt:=top 93
structure FT (K:PySem.W.Frag) (mg:Str→Option Value) (nm:Str) (st:Stmt) (ps:List Str) where
 a:Addr
 d:FuncData
 F:Fun K nm nm st a d
 m:mg nm=some (.ref a)
 b:Binds K d ps []
def FH (K:PySem.W.Frag) (nm:Str) (st:Stmt):Prop:=∃f,PySem.W.nsIn K mainGlobals nm=some (some (.ref f))∧∃fd,Fun K nm nm st f fd
theorem FT.of {K:PySem.W.Frag} {mg:Str→Option Value} {nm:Str} {st:Stmt} {ps:List Str} {h:Heap} (X:K.In h) (G:h.Ns mainGlobals mg) (H:FH K nm st) (hb:∀(kV doc pm:Value) (an:Option Addr) (cdv ct:Value) (us:List Value),us.length=ps.length→bindArgs (PySem.W.fnOf nm nm (defArgs st) (defBody st) (defScope st) .none kV doc pm an cdv ct) ⟨us,[]⟩=pure (ps.zip us)):Nonempty (FT K mg nm st ps):=by
 obtain⟨f,a,fd,F⟩:=H
 exact⟨⟨f,fd,F,PySem.W.mg_of X G a,F.binds hb⟩⟩
set_option genInjectivity false in
set_option genSizeOf false in
structure Txt (K:PySem.W.Frag) (mg:Str→Option Value) where
 n_abs:mg "abs" = none
 n_all:mg "all" = none
 n_bool:mg "bool" = none
 n_dict:mg "dict" = none
 n_enumerate:mg "enumerate" = none
 n_int:mg "int" = none
 n_isinstance:mg "isinstance" = none
 n_len:mg "len" = none
 n_list:mg "list" = none
 n_max:mg "max" = none
 n_min:mg "min" = none
 n_range:mg "range" = none
 n_reversed:mg "reversed" = none
 n_sorted:mg "sorted" = none
 n_tuple:mg "tuple" = none
 c_Keeper:Addr
 mg_Keeper:mg "Keeper" = some (.ref c_Keeper)
 cl_Keeper:Cls K c_Keeper
 na_many:NoAttr K c_Keeper "many"
 na_full:NoAttr K c_Keeper "full"
 na_wanted:NoAttr K c_Keeper "wanted"
 na_laid:NoAttr K c_Keeper "laid"
 na_lowest:NoAttr K c_Keeper "lowest"
 a_m_init:Addr
 d_m_init:FuncData
 F_m_init:Fun K "__init__" "Keeper.__init__" s_m_init a_m_init d_m_init
 me_m_init:Meth K c_Keeper "__init__" a_m_init
 a_m_lay:Addr
 d_m_lay:FuncData
 F_m_lay:Fun K "lay" "Keeper.lay" s_m_lay a_m_lay d_m_lay
 me_m_lay:Meth K c_Keeper "lay" a_m_lay
 a_m_lift:Addr
 d_m_lift:FuncData
 F_m_lift:Fun K "lift" "Keeper.lift" s_m_lift a_m_lift d_m_lift
 me_m_lift:Meth K c_Keeper "lift" a_m_lift
 a_m_turn:Addr
 d_m_turn:FuncData
 F_m_turn:Fun K "turn" "Keeper.turn" s_m_turn a_m_turn d_m_turn
 me_m_turn:Meth K c_Keeper "turn" a_m_turn
 a_m_refill:Addr
 d_m_refill:FuncData
 F_m_refill:Fun K "refill" "Keeper.refill" s_m_refill a_m_refill d_m_refill
 me_m_refill:Meth K c_Keeper "refill" a_m_refill
 a_m_aim:Addr
 d_m_aim:FuncData
 F_m_aim:Fun K "aim" "Keeper.aim" s_m_aim a_m_aim d_m_aim
 me_m_aim:Meth K c_Keeper "aim" a_m_aim
 a_m_found:Addr
 d_m_found:FuncData
 F_m_found:Fun K "found" "Keeper.found" s_m_found a_m_found d_m_found
 me_m_found:Meth K c_Keeper "found" a_m_found
 a_m_moved:Addr
 d_m_moved:FuncData
 F_m_moved:Fun K "moved" "Keeper.moved" s_m_moved a_m_moved d_m_moved
 me_m_moved:Meth K c_Keeper "moved" a_m_moved
 a_m_ways:Addr
 d_m_ways:FuncData
 F_m_ways:Fun K "ways" "Keeper.ways" s_m_ways a_m_ways d_m_ways
 me_m_ways:Meth K c_Keeper "ways" a_m_ways
 a_m_store:Addr
 d_m_store:FuncData
 F_m_store:Fun K "store" "Keeper.store" s_m_store a_m_store d_m_store
 me_m_store:Meth K c_Keeper "store" a_m_store
 a_m_goal:Addr
 d_m_goal:FuncData
 F_m_goal:Fun K "goal" "Keeper.goal" s_m_goal a_m_goal d_m_goal
 me_m_goal:Meth K c_Keeper "goal" a_m_goal
 a_m_land:Addr
 d_m_land:FuncData
 F_m_land:Fun K "land" "Keeper.land" s_m_land a_m_land d_m_land
 me_m_land:Meth K c_Keeper "land" a_m_land
 a_m_least:Addr
 d_m_least:FuncData
 F_m_least:Fun K "least" "Keeper.least" s_m_least a_m_least d_m_least
 me_m_least:Meth K c_Keeper "least" a_m_least
 mk_Keeper:Mk K c_Keeper a_m_init
 t_MANY:Tok
 mg_MANY:mg "MANY" = some (.int 0 t_MANY)
 t_WAYS:Tok
 mg_WAYS:mg "WAYS" = some (.int 1 t_WAYS)
 t_START:Tok
 mg_START:mg "START" = some (.int 0 t_START)
 t_END:Tok
 mg_END:mg "END" = some (.int 1 t_END)
 t_CHANGE:Tok
 mg_CHANGE:mg "CHANGE" = some (.int 2 t_CHANGE)
 t_MOST_WAYS:Tok
 mg_MOST_WAYS:mg "MOST_WAYS" = some (.int 40 t_MOST_WAYS)
 t_LEAST:Tok
 mg_LEAST:mg "LEAST" = some (.int 0 t_LEAST)
 t_GAIN:Tok
 mg_GAIN:mg "GAIN" = some (.int 1 t_GAIN)
 t_TOP:Tok
 mg_TOP:mg "TOP" = some (.int 2 t_TOP)
 t_TABLE:Tok
 mg_TABLE:mg "TABLE" = some (.int 0 t_TABLE)
 t_RISEN:Tok
 mg_RISEN:mg "RISEN" = some (.int 1 t_RISEN)
 t_FROM:Tok
 mg_FROM:mg "FROM" = some (.int 0 t_FROM)
 t_BY:Tok
 mg_BY:mg "BY" = some (.int 1 t_BY)
 t_NUMBERS:Tok
 mg_NUMBERS:mg "NUMBERS" = some (.int 0 t_NUMBERS)
 t_TIMES:Tok
 mg_TIMES:mg "TIMES" = some (.int 1 t_TIMES)
 f_is_whole:FT K mg "is_whole" s_is_whole ["thing"]
 f_is_store:FT K mg "is_store" s_is_store ["thing"]
 f_is_level:FT K mg "is_level" s_is_level ["store", "thing"]
 f_stepped:FT K mg "stepped" s_stepped ["store", "level", "change"]
 f_levels_along:FT K mg "levels_along" s_levels_along ["store", "level", "changes"]
 f_is_place:FT K mg "is_place" s_is_place ["many", "thing"]
 f_is_change:FT K mg "is_change" s_is_change ["thing"]
 f_is_way:FT K mg "is_way" s_is_way ["many", "thing"]
 f_turned_land:FT K mg "turned_land" s_turned_land ["land"]
 f_changes_of:FT K mg "changes_of" s_changes_of ["land", "numbers"]
 f_is_table:FT K mg "is_table" s_is_table ["many", "store", "thing"]
 f_is_more:FT K mg "is_more" s_is_more ["one", "other"]
 f_behind_way:FT K mg "behind_way" s_behind_way ["store", "table", "way"]
 f_is_within:FT K mg "is_within" s_is_within ["level", "bound"]
 f_effect_of_none:FT K mg "effect_of_none" s_effect_of_none ["store"]
 f_effect_of_one:FT K mg "effect_of_one" s_effect_of_one ["store", "change"]
 f_effect_of:FT K mg "effect_of" s_effect_of ["store", "changes"]
 f_passed:FT K mg "passed" s_passed ["effect", "level"]
 f_joined:FT K mg "joined" s_joined ["one", "other"]
 f_first_row:FT K mg "first_row" s_first_row ["table"]
 f_row_behind:FT K mg "row_behind" s_row_behind ["land", "store", "table", "stayed"]
 f_walk_to:FT K mg "walk_to" s_walk_to ["land", "rows", "place"]
 f_behind_ways:FT K mg "behind_ways" s_behind_ways ["land", "place", "numbers"]
 f_behind_part:FT K mg "behind_part" s_behind_part ["land", "place", "part"]
 f_end_of:FT K mg "end_of" s_end_of ["land", "place", "trip"]
 f_rows_from:FT K mg "rows_from" s_rows_from ["land", "store", "table"]
 f_still_rises:FT K mg "still_rises" s_still_rises ["land", "rows"]
 f_rising_walk:FT K mg "rising_walk" s_rising_walk ["land", "rows"]
 f_parted_at_round:FT K mg "parted_at_round" s_parted_at_round ["land", "walk"]
 f_parts_by:FT K mg "parts_by" s_parts_by ["numbers"]
 f_filling_parts:FT K mg "filling_parts" s_filling_parts ["land", "store", "level", "walk"]
 f_settled:FT K mg "settled" s_settled ["land", "store", "base"]
 f_highest:FT K mg "highest" s_highest ["land", "store", "base"]
 f_lacking:FT K mg "lacking" s_lacking ["store", "table"]
 f_least:FT K mg "least" s_least ["land", "store", "goal"]
 f_is_label:FT K mg "is_label" s_is_label ["thing"]
 f_places_below:FT K mg "places_below" s_places_below ["table", "other"]
 f_hand:FT K mg "_law_hand" s_hand ["_law_script"]
 f_next:FT K mg "_law_next" s_next ["_law_hand_here"]
 f_take:FT K mg "_law_take" s_take ["_law_hand_here"]
 f_draw:FT K mg "_law_draw" s_draw ["_law_hand_here", "_law_many"]
 f_change:FT K mg "_law_change" s_change ["_law_hand_here", "_law_scale"]
 f_table:FT K mg "_law_table" s_table ["_law_hand_here", "_law_many", "_law_store"]
 f_law_is_whole:FT K mg "_law_is_whole" s_law_is_whole ["_law_thing"]
 f_less:FT K mg "_law_less" s_less ["_law_one", "_law_other"]
 f_own_least:FT K mg "_law_own_least" s_own_least ["_law_land", "_law_store", "_law_goal"]
 f_moved:FT K mg "_law_moved" s_moved ["_law_old", "_law_new"]
 f_state:FT K mg "_law_state" s_state ["_law_many", "_law_store", "_law_goal"]
 f_own_land:FT K mg "_law_own_land" s_own_land ["_law_state_here"]
 f_deed:FT K mg "_law_deed" s_deed ["_law_hand_here", "_law_state_here", "_law_scale", "_law_most"]
 f_after:FT K mg "_law_after" s_after ["_law_state_here", "_law_deed_here"]
 f_do:FT K mg "_law_do" s_do ["_law_keeper", "_law_deed_here"]
 f_asked:FT K mg "_law_asked" s_asked ["_law_keeper", "_law_state_here"]
 f_own:FT K mg "_law_own" s_own ["_law_state_here"]
 f_law:FT K mg "law" s_law ["_law_script"]
 al_least_least:mg "least_least" = some (.ref f_least.a)
theorem sc_is_whole:FnScope ["thing"] ["thing"] (defScope s_is_whole):=⟨rfl,rfl,rfl,by decide +kernel,rfl,by decide +kernel,by decide +kernel⟩
theorem sc_is_store:FnScope ["thing"] ["thing"] (defScope s_is_store):=⟨rfl,rfl,rfl,by decide +kernel,rfl,by decide +kernel,by decide +kernel⟩
theorem sc_is_level:FnScope ["store", "thing"] ["store", "thing"] (defScope s_is_level):=⟨rfl,rfl,rfl,by decide +kernel,rfl,by decide +kernel,by decide +kernel⟩
theorem sc_stepped:FnScope ["store", "level", "change", "behind"] ["store", "level", "change"] (defScope s_stepped):=⟨rfl,rfl,rfl,by decide +kernel,rfl,by decide +kernel,by decide +kernel⟩
theorem sc_levels_along:FnScope ["store", "level", "changes", "levels", "change", "behind"] ["store", "level", "changes"] (defScope s_levels_along):=⟨rfl,rfl,rfl,by decide +kernel,rfl,by decide +kernel,by decide +kernel⟩
theorem sc_is_place:FnScope ["many", "thing"] ["many", "thing"] (defScope s_is_place):=⟨rfl,rfl,rfl,by decide +kernel,rfl,by decide +kernel,by decide +kernel⟩
theorem sc_is_change:FnScope ["thing"] ["thing"] (defScope s_is_change):=⟨rfl,rfl,rfl,by decide +kernel,rfl,by decide +kernel,by decide +kernel⟩
theorem sc_is_way:FnScope ["many", "thing"] ["many", "thing"] (defScope s_is_way):=⟨rfl,rfl,rfl,by decide +kernel,rfl,by decide +kernel,by decide +kernel⟩
theorem sc_turned_land:FnScope ["land"] ["land"] (defScope s_turned_land):=⟨rfl,rfl,rfl,by decide +kernel,rfl,by decide +kernel,by decide +kernel⟩
theorem sc_changes_of:FnScope ["land", "numbers"] ["land", "numbers"] (defScope s_changes_of):=⟨rfl,rfl,rfl,by decide +kernel,rfl,by decide +kernel,by decide +kernel⟩
theorem sc_is_table:FnScope ["many", "store", "thing"] ["many", "store", "thing"] (defScope s_is_table):=⟨rfl,rfl,rfl,by decide +kernel,rfl,by decide +kernel,by decide +kernel⟩
theorem sc_is_more:FnScope ["one", "other"] ["one", "other"] (defScope s_is_more):=⟨rfl,rfl,rfl,by decide +kernel,rfl,by decide +kernel,by decide +kernel⟩
theorem sc_behind_way:FnScope ["store", "table", "way", "level"] ["store", "table", "way"] (defScope s_behind_way):=⟨rfl,rfl,rfl,by decide +kernel,rfl,by decide +kernel,by decide +kernel⟩
theorem sc_is_within:FnScope ["level", "bound"] ["level", "bound"] (defScope s_is_within):=⟨rfl,rfl,rfl,by decide +kernel,rfl,by decide +kernel,by decide +kernel⟩
theorem sc_effect_of_none:FnScope ["store"] ["store"] (defScope s_effect_of_none):=⟨rfl,rfl,rfl,by decide +kernel,rfl,by decide +kernel,by decide +kernel⟩
theorem sc_effect_of_one:FnScope ["store", "change"] ["store", "change"] (defScope s_effect_of_one):=⟨rfl,rfl,rfl,by decide +kernel,rfl,by decide +kernel,by decide +kernel⟩
theorem sc_effect_of:FnScope ["store", "changes", "whole", "change"] ["store", "changes"] (defScope s_effect_of):=⟨rfl,rfl,rfl,by decide +kernel,rfl,by decide +kernel,by decide +kernel⟩
theorem sc_passed:FnScope ["effect", "level"] ["effect", "level"] (defScope s_passed):=⟨rfl,rfl,rfl,by decide +kernel,rfl,by decide +kernel,by decide +kernel⟩
theorem sc_joined:FnScope ["one", "other", "least"] ["one", "other"] (defScope s_joined):=⟨rfl,rfl,rfl,by decide +kernel,rfl,by decide +kernel,by decide +kernel⟩
theorem sc_first_row:FnScope ["table"] ["table"] (defScope s_first_row):=⟨rfl,rfl,rfl,by decide +kernel,rfl,by decide +kernel,by decide +kernel⟩
theorem sc_row_behind:FnScope ["land", "store", "table", "stayed", "higher", "risen", "number", "way", "level"] ["land", "store", "table", "stayed"] (defScope s_row_behind):=⟨rfl,rfl,rfl,by decide +kernel,rfl,by decide +kernel,by decide +kernel⟩
theorem sc_walk_to:FnScope ["land", "rows", "place", "here", "numbers", "row", "number"] ["land", "rows", "place"] (defScope s_walk_to):=⟨rfl,rfl,rfl,by decide +kernel,rfl,by decide +kernel,by decide +kernel⟩
theorem sc_behind_ways:FnScope ["land", "place", "numbers", "here", "number"] ["land", "place", "numbers"] (defScope s_behind_ways):=⟨rfl,rfl,rfl,by decide +kernel,rfl,by decide +kernel,by decide +kernel⟩
theorem sc_behind_part:FnScope ["land", "place", "part", "behind"] ["land", "place", "part"] (defScope s_behind_part):=⟨rfl,rfl,rfl,by decide +kernel,rfl,by decide +kernel,by decide +kernel⟩
theorem sc_end_of:FnScope ["land", "place", "trip", "here", "at", "part"] ["land", "place", "trip"] (defScope s_end_of):=⟨rfl,rfl,rfl,by decide +kernel,rfl,by decide +kernel,by decide +kernel⟩
theorem sc_rows_from:FnScope ["land", "store", "table", "rows", "row"] ["land", "store", "table"] (defScope s_rows_from):=⟨rfl,rfl,rfl,by decide +kernel,rfl,by decide +kernel,by decide +kernel⟩
theorem sc_still_rises:FnScope ["land", "rows"] ["land", "rows"] (defScope s_still_rises):=⟨rfl,rfl,rfl,by decide +kernel,rfl,by decide +kernel,by decide +kernel⟩
theorem sc_rising_walk:FnScope ["land", "rows", "last"] ["land", "rows"] (defScope s_rising_walk):=⟨rfl,rfl,rfl,by decide +kernel,rfl,by decide +kernel,by decide +kernel⟩
theorem sc_parted_at_round:FnScope ["land", "walk", "places", "end", "begin"] ["land", "walk"] (defScope s_parted_at_round):=⟨rfl,rfl,rfl,by decide +kernel,rfl,by decide +kernel,by decide +kernel⟩
theorem sc_parts_by:FnScope ["numbers"] ["numbers"] (defScope s_parts_by):=⟨rfl,rfl,rfl,by decide +kernel,rfl,by decide +kernel,by decide +kernel⟩
theorem sc_filling_parts:FnScope ["land", "store", "level", "walk", "parted", "ahead", "turn", "effect", "missing", "times", "levels"] ["land", "store", "level", "walk"] (defScope s_filling_parts):=⟨rfl,rfl,rfl,by decide +kernel,rfl,by decide +kernel,by decide +kernel⟩
theorem sc_settled:FnScope ["land", "store", "base", "table", "roads", "rows", "walk", "parts", "full", "road"] ["land", "store", "base"] (defScope s_settled):=⟨rfl,rfl,rfl,by decide +kernel,rfl,by decide +kernel,by decide +kernel⟩
theorem sc_highest:FnScope ["land", "store", "base"] ["land", "store", "base"] (defScope s_highest):=⟨rfl,rfl,rfl,by decide +kernel,rfl,by decide +kernel,by decide +kernel⟩
theorem sc_lacking:FnScope ["store", "table"] ["store", "table"] (defScope s_lacking):=⟨rfl,rfl,rfl,by decide +kernel,rfl,by decide +kernel,by decide +kernel⟩
theorem sc_least:FnScope ["land", "store", "goal"] ["land", "store", "goal"] (defScope s_least):=⟨rfl,rfl,rfl,by decide +kernel,rfl,by decide +kernel,by decide +kernel⟩
theorem sc_is_label:FnScope ["thing"] ["thing"] (defScope s_is_label):=⟨rfl,rfl,rfl,by decide +kernel,rfl,by decide +kernel,by decide +kernel⟩
theorem sc_places_below:FnScope ["table", "other"] ["table", "other"] (defScope s_places_below):=⟨rfl,rfl,rfl,by decide +kernel,rfl,by decide +kernel,by decide +kernel⟩
theorem sc_m_init:FnScope ["self", "many", "store", "goal"] ["self", "many", "store", "goal"] (defScope s_m_init):=⟨rfl,rfl,rfl,by decide +kernel,rfl,by decide +kernel,by decide +kernel⟩
theorem sc_m_lay:FnScope ["self", "label", "start", "end", "change"] ["self", "label", "start", "end", "change"] (defScope s_m_lay):=⟨rfl,rfl,rfl,by decide +kernel,rfl,by decide +kernel,by decide +kernel⟩
theorem sc_m_lift:FnScope ["self", "label"] ["self", "label"] (defScope s_m_lift):=⟨rfl,rfl,rfl,by decide +kernel,rfl,by decide +kernel,by decide +kernel⟩
theorem sc_m_turn:FnScope ["self", "label", "change", "way"] ["self", "label", "change"] (defScope s_m_turn):=⟨rfl,rfl,rfl,by decide +kernel,rfl,by decide +kernel,by decide +kernel⟩
theorem sc_m_refill:FnScope ["self", "store"] ["self", "store"] (defScope s_m_refill):=⟨rfl,rfl,rfl,by decide +kernel,rfl,by decide +kernel,by decide +kernel⟩
theorem sc_m_aim:FnScope ["self", "goal"] ["self", "goal"] (defScope s_m_aim):=⟨rfl,rfl,rfl,by decide +kernel,rfl,by decide +kernel,by decide +kernel⟩
theorem sc_m_found:FnScope ["self", "label"] ["self", "label"] (defScope s_m_found):=⟨rfl,rfl,rfl,by decide +kernel,rfl,by decide +kernel,by decide +kernel⟩
theorem sc_m_moved:FnScope ["self", "ahead"] ["self"] (defScope s_m_moved):=⟨rfl,rfl,rfl,by decide +kernel,rfl,by decide +kernel,by decide +kernel⟩
theorem sc_m_ways:FnScope ["self", "told", "label", "way"] ["self"] (defScope s_m_ways):=⟨rfl,rfl,rfl,by decide +kernel,rfl,by decide +kernel,by decide +kernel⟩
theorem sc_m_store:FnScope ["self"] ["self"] (defScope s_m_store):=⟨rfl,rfl,rfl,by decide +kernel,rfl,by decide +kernel,by decide +kernel⟩
theorem sc_m_goal:FnScope ["self"] ["self"] (defScope s_m_goal):=⟨rfl,rfl,rfl,by decide +kernel,rfl,by decide +kernel,by decide +kernel⟩
theorem sc_m_land:FnScope ["self"] ["self"] (defScope s_m_land):=⟨rfl,rfl,rfl,by decide +kernel,rfl,by decide +kernel,by decide +kernel⟩
theorem sc_m_least:FnScope ["self"] ["self"] (defScope s_m_least):=⟨rfl,rfl,rfl,by decide +kernel,rfl,by decide +kernel,by decide +kernel⟩
theorem sc_hand:FnScope ["_law_script"] ["_law_script"] (defScope s_hand):=⟨rfl,rfl,rfl,by decide +kernel,rfl,by decide +kernel,by decide +kernel⟩
theorem sc_next:FnScope ["_law_hand_here"] ["_law_hand_here"] (defScope s_next):=⟨rfl,rfl,rfl,by decide +kernel,rfl,by decide +kernel,by decide +kernel⟩
theorem sc_take:FnScope ["_law_hand_here", "_law_cell"] ["_law_hand_here"] (defScope s_take):=⟨rfl,rfl,rfl,by decide +kernel,rfl,by decide +kernel,by decide +kernel⟩
theorem sc_draw:FnScope ["_law_hand_here", "_law_many", "_law_got", "_law_value", "_law_size"] ["_law_hand_here", "_law_many"] (defScope s_draw):=⟨rfl,rfl,rfl,by decide +kernel,rfl,by decide +kernel,by decide +kernel⟩
theorem sc_change:FnScope ["_law_hand_here", "_law_scale"] ["_law_hand_here", "_law_scale"] (defScope s_change):=⟨rfl,rfl,rfl,by decide +kernel,rfl,by decide +kernel,by decide +kernel⟩
theorem sc_table:FnScope ["_law_hand_here", "_law_many", "_law_store", "_law_rare"] ["_law_hand_here", "_law_many", "_law_store"] (defScope s_table):=⟨rfl,rfl,rfl,by decide +kernel,rfl,by decide +kernel,by decide +kernel⟩
theorem sc_law_is_whole:FnScope ["_law_thing"] ["_law_thing"] (defScope s_law_is_whole):=⟨rfl,rfl,rfl,by decide +kernel,rfl,by decide +kernel,by decide +kernel⟩
theorem sc_less:FnScope ["_law_one", "_law_other"] ["_law_one", "_law_other"] (defScope s_less):=⟨rfl,rfl,rfl,by decide +kernel,rfl,by decide +kernel,by decide +kernel⟩
theorem sc_own_least:FnScope ["_law_land", "_law_store", "_law_goal", "_law_table_here", "_law_fell", "_law_start", "_law_end", "_law_change_here"] ["_law_land", "_law_store", "_law_goal"] (defScope s_own_least):=⟨rfl,rfl,rfl,by decide +kernel,rfl,by decide +kernel,by decide +kernel⟩
theorem sc_moved:FnScope ["_law_old", "_law_new", "_law_fell"] ["_law_old", "_law_new"] (defScope s_moved):=⟨rfl,rfl,rfl,by decide +kernel,rfl,by decide +kernel,by decide +kernel⟩
theorem sc_state:FnScope ["_law_many", "_law_store", "_law_goal"] ["_law_many", "_law_store", "_law_goal"] (defScope s_state):=⟨rfl,rfl,rfl,by decide +kernel,rfl,by decide +kernel,by decide +kernel⟩
theorem sc_own_land:FnScope ["_law_state_here"] ["_law_state_here"] (defScope s_own_land):=⟨rfl,rfl,rfl,by decide +kernel,rfl,by decide +kernel,by decide +kernel⟩
theorem sc_deed:FnScope ["_law_hand_here", "_law_state_here", "_law_scale", "_law_most", "_law_way", "_law_labels", "_law_label", "_law_start", "_law_end", "_law_low"] ["_law_hand_here", "_law_state_here", "_law_scale", "_law_most"] (defScope s_deed):=⟨rfl,rfl,rfl,by decide +kernel,rfl,by decide +kernel,by decide +kernel⟩
theorem sc_after:FnScope ["_law_state_here", "_law_deed_here", "_law_word", "_law_things", "_law_ways", "_law_after_here"] ["_law_state_here", "_law_deed_here"] (defScope s_after):=⟨rfl,rfl,rfl,by decide +kernel,rfl,by decide +kernel,by decide +kernel⟩
theorem sc_do:FnScope ["_law_keeper", "_law_deed_here", "_law_word", "_law_things"] ["_law_keeper", "_law_deed_here"] (defScope s_do):=⟨rfl,rfl,rfl,by decide +kernel,rfl,by decide +kernel,by decide +kernel⟩
theorem sc_asked:FnScope ["_law_keeper", "_law_state_here", "_law_ways"] ["_law_keeper", "_law_state_here"] (defScope s_asked):=⟨rfl,rfl,rfl,by decide +kernel,rfl,by decide +kernel,by decide +kernel⟩
theorem sc_own:FnScope ["_law_state_here"] ["_law_state_here"] (defScope s_own):=⟨rfl,rfl,rfl,by decide +kernel,rfl,by decide +kernel,by decide +kernel⟩
theorem sc_law:FnScope ["_law_script", "_law_hand_here", "_law_many", "_law_scale", "_law_store", "_law_state_here", "_law_often", "_law_keeper", "_law_k", "_law_deed_here", "_law_after_here", "_law_told", "_law_due", "_law_row"] ["_law_script"] (defScope s_law):=⟨rfl,rfl,rfl,by decide +kernel,rfl,by decide +kernel,by decide +kernel⟩
theorem bd_m_init {K:PySem.W.Frag} {mg:Str→Option Value} (T:Txt K mg):Binds K T.d_m_init ["self", "many", "store", "goal"] []:=T.F_m_init.binds fun _ _ _ _ _ _ us hl=>by obtain⟨_,_,_,_,rfl⟩:=usl4 hl;rfl
theorem bd_m_lay {K:PySem.W.Frag} {mg:Str→Option Value} (T:Txt K mg):Binds K T.d_m_lay ["self", "label", "start", "end", "change"] []:=T.F_m_lay.binds fun _ _ _ _ _ _ us hl=>by obtain⟨_,_,_,_,_,rfl⟩:=usl5 hl;rfl
theorem bd_m_lift {K:PySem.W.Frag} {mg:Str→Option Value} (T:Txt K mg):Binds K T.d_m_lift ["self", "label"] []:=T.F_m_lift.binds fun _ _ _ _ _ _ us hl=>by obtain⟨_,_,rfl⟩:=usl2 hl;rfl
theorem bd_m_turn {K:PySem.W.Frag} {mg:Str→Option Value} (T:Txt K mg):Binds K T.d_m_turn ["self", "label", "change"] []:=T.F_m_turn.binds fun _ _ _ _ _ _ us hl=>by obtain⟨_,_,_,rfl⟩:=usl3 hl;rfl
theorem bd_m_refill {K:PySem.W.Frag} {mg:Str→Option Value} (T:Txt K mg):Binds K T.d_m_refill ["self", "store"] []:=T.F_m_refill.binds fun _ _ _ _ _ _ us hl=>by obtain⟨_,_,rfl⟩:=usl2 hl;rfl
theorem bd_m_aim {K:PySem.W.Frag} {mg:Str→Option Value} (T:Txt K mg):Binds K T.d_m_aim ["self", "goal"] []:=T.F_m_aim.binds fun _ _ _ _ _ _ us hl=>by obtain⟨_,_,rfl⟩:=usl2 hl;rfl
theorem bd_m_found {K:PySem.W.Frag} {mg:Str→Option Value} (T:Txt K mg):Binds K T.d_m_found ["self", "label"] []:=T.F_m_found.binds fun _ _ _ _ _ _ us hl=>by obtain⟨_,_,rfl⟩:=usl2 hl;rfl
theorem bd_m_moved {K:PySem.W.Frag} {mg:Str→Option Value} (T:Txt K mg):Binds K T.d_m_moved ["self"] []:=T.F_m_moved.binds fun _ _ _ _ _ _ us hl=>by obtain⟨_,rfl⟩:=usl1 hl;rfl
theorem bd_m_ways {K:PySem.W.Frag} {mg:Str→Option Value} (T:Txt K mg):Binds K T.d_m_ways ["self"] []:=T.F_m_ways.binds fun _ _ _ _ _ _ us hl=>by obtain⟨_,rfl⟩:=usl1 hl;rfl
theorem bd_m_store {K:PySem.W.Frag} {mg:Str→Option Value} (T:Txt K mg):Binds K T.d_m_store ["self"] []:=T.F_m_store.binds fun _ _ _ _ _ _ us hl=>by obtain⟨_,rfl⟩:=usl1 hl;rfl
theorem bd_m_goal {K:PySem.W.Frag} {mg:Str→Option Value} (T:Txt K mg):Binds K T.d_m_goal ["self"] []:=T.F_m_goal.binds fun _ _ _ _ _ _ us hl=>by obtain⟨_,rfl⟩:=usl1 hl;rfl
theorem bd_m_land {K:PySem.W.Frag} {mg:Str→Option Value} (T:Txt K mg):Binds K T.d_m_land ["self"] []:=T.F_m_land.binds fun _ _ _ _ _ _ us hl=>by obtain⟨_,rfl⟩:=usl1 hl;rfl
theorem bd_m_least {K:PySem.W.Frag} {mg:Str→Option Value} (T:Txt K mg):Binds K T.d_m_least ["self"] []:=T.F_m_least.binds fun _ _ _ _ _ _ us hl=>by obtain⟨_,rfl⟩:=usl1 hl;rfl
section
variable {P:Program} {w:World} {K:PySem.W.Frag} {mg:Str→Option Value} {base:Heap}
theorem ok_hand (T:Txt K mg):FnOk P w K mg base CX0 1 T.f_hand.a T.f_hand.d ["_law_script"] (spHand K):=by
 refine T.f_hand.F.ok sc_hand (fun vs H Q E h=>?_) (fun cdv A outer s H vs Q E hr h=>?_)
 ·obtain⟨a,ns,rfl,_⟩:=h
  rfl
 ·obtain⟨a,ns,rfl,hS,k⟩:=h
  refine⟨_,(pss_one (ps_ret (pe_lst (pa_cons (pe_callTy call_list_of rfl T.n_list bt_list (pa_cons (pe_slice sl_list (pv 0) po_none (po_some pe_int)) pa_nil se_Subscript) (he:=se_Subscript) (hpl:=np_nil)) (pa_cons pe_int (pa_cons pe_int (pa_cons pe_int (pa_cons pe_int (pa_cons pe_int pa_nil se_Constant) se_Constant) se_Constant) se_Constant) se_Constant) se_Call)))),?_⟩
  refine⟨_,rfl,_,rfl,a,_,rfl,hS,fun p1 h1=>⟨p1,_,rfl,.inl (SqL.of upd_same),fun l hl=>⟨(by show 6≤sizeLine;decide),fun p hp=>?_⟩⟩⟩
  have n1:p≠p1:=(ne_of_none (H:=upd (upd H p1 _) l _) (by rw[upd_ne (ne_of_none upd_same hl)];exact upd_same) hp).symm
  have n2:p≠l:=(ne_of_none (H:=upd (upd H p1 _) l _) upd_same hp).symm
  have hp0:H p=none:=by rw[upd_ne n2,upd_ne n1] at hp;exact hp
  have hl0:H l=none:=by
   have nl:l≠p1:=(ne_of_none upd_same hl).symm
   rw[upd_ne nl] at hl;exact hl
  refine k p l _ hp0 hl0 ⟨(ns.drop (HT.sIx (ns.map V.int).length 0 none)).take (HT.sIx (ns.map V.int).length (ns.map V.int).length (some 63) - HT.sIx (ns.map V.int).length 0 none),0,0,0,20011,40009,?_,Int.le_refl _,upd_same⟩ (((Same.refl H).lay h1).lay hl |>.lay hp)
  rw[upd_ne n2.symm,upd_same]
  unfold cutV
  rw[List.map_take,List.map_drop]
theorem ok_next (T:Txt K mg):FnOk P w K mg base CX0 1 T.f_next.a T.f_next.d ["_law_hand_here"] spNext:=by
 refine T.f_next.F.ok sc_next (fun vs H Q E h=>?_) (fun cdv A outer s H vs Q E hr h=>?_)
 ·obtain⟨a,l,rfl,_⟩:=h
  rfl
 ·obtain⟨a,l,rfl,⟨ns,p,b,c,u,v,hl,hp,ha⟩,k⟩:=h
  have ne:=ne_hand hl ha
  refine⟨_,(pss_cons (ps_asg (pe_op op_mod (pe_op op_mul (pe_ix ix_list (pv 0) pe_int (fun _ _=>rfl)) pe_int) pe_int) (pg_sub (pv 0) pe_int set_list))
   (pss_cons (ps_asg (pe_op op_mod (pe_op op_mul (pe_ix ix_list (pv 0) pe_int (fun _ _=>rfl)) pe_int) pe_int) (pg_sub (pv 0) pe_int set_list))
   (pss_one (ps_ret (pe_op op_add (pe_ix ix_list (pv 0) pe_int (fun _ _=>rfl)) (pe_ix ix_list (pv 0) pe_int (fun _ _=>rfl))))))),?_⟩
  refine⟨_,rfl,a,_,_,_,rfl,rfl,SqL.of ha,rfl,_,_,rfl,rfl,.inr ⟨by decide,by decide⟩,_,_,rfl,rfl,(by first | decide | (dsimp only;decide)),_,rfl,a,_,_,_,rfl,rfl,ha,rfl,?_⟩
  refine⟨_,rfl,a,_,_,_,rfl,rfl,SqL.of upd_same,rfl,_,_,rfl,rfl,.inr ⟨by decide,by decide⟩,_,_,rfl,rfl,(by first | decide | (dsimp only;decide)),_,rfl,a,_,_,_,rfl,rfl,upd_same,rfl,?_⟩
  refine⟨_,rfl,a,_,_,_,rfl,rfl,SqL.of upd_same,rfl,_,rfl,a,_,_,_,rfl,rfl,SqL.of upd_same,rfl,_,_,rfl,rfl,?_⟩
  exact k _ _ ⟨ns,p,b,c,_,_,by rw[upd_ne ne,upd_ne ne];exact hl,hp,upd_same⟩ fun b o e nb=>by rw[upd_ne nb,upd_ne nb];exact e
theorem ok_take (T:Txt K mg):FnOk P w K mg base CX0 2 T.f_take.a T.f_take.d ["_law_hand_here"] spTake:=by
 have G_next:=@ok_next P w K mg base T
 have b_next:=T.f_next.b
 refine T.f_take.F.ok sc_take (fun vs H Q E h=>?_) (fun cdv A outer s H vs Q E hr h=>?_)
 ·obtain⟨a,l,rfl,_⟩:=h
  rfl
 ·obtain⟨a,l,rfl,⟨ns,p,b,c,u,v,hl,hp,ha⟩,k⟩:=h
  have ne:=ne_hand hl ha
  refine⟨_,(pss_cons (ps_set (i:=1) sc_take.nd rfl (Or.inl rfl) pe_int)
   (pss_cons (ps_mid (ps_if (pt_cmpR op_lt (pe_ix ix_list (pv 0) pe_int (fun _ _=>rfl)) (pe_callB call_len_seq rfl T.n_len bt_len (pa_cons (pe_ix ix_list (pv 0) pe_int (fun _ _=>rfl)) pa_nil se_Subscript) (he:=se_Subscript) (hpl:=np_nil)) (nomark _))
   (pss_one (ps_set (i:=1) sc_take.nd rfl (Or.inl rfl) (pe_callB call_abs rfl T.n_abs bt_abs (pa_cons (pe_ix ix_list (pe_ix ix_list (pv 0) pe_int (fun _ _=>rfl)) (pe_ix ix_list (pv 0) pe_int (fun _ _=>rfl)) (fun _ _=>rfl)) pa_nil se_Subscript) (he:=se_Subscript) (hpl:=np_nil))))
   pss_nil))
   (pss_cons (ps_augS (pv 0) pe_int get_list pe_int ip_add set_list)
   (pss_cons (ps_mid (ps_if (pt_cmpR op_ge (pv 1) (pe_op op_pow pe_int pe_int) (nomark _))
   (pss_one (ps_asg (pv 1) (pg_sub (pv 0) pe_int set_list)))
   (pss_one (ps_asg pe_int (pg_sub (pv 0) pe_int set_list)))))
   (pss_cons (ps_asg (pe_op op_add (pe_op op_mod (pe_op op_add (pe_ix ix_list (pv 0) pe_int (fun _ _=>rfl)) (pe_op op_mod (pv 1) pe_int)) pe_int) pe_int) (pg_sub (pv 0) pe_int set_list))
   (pss_cons (ps_asg (pe_op op_add (pe_op op_mod (pe_op op_add (pe_op op_mul (pe_ix ix_list (pv 0) pe_int (fun _ _=>rfl)) pe_int) (pe_op op_mod (pv 1) pe_int)) pe_int) pe_int) (pg_sub (pv 0) pe_int set_list))
   (pss_cons (ps_expr (pe_call G_next (hr.mono (by decide)) rfl T.f_next.m T.f_next.F.kp b_next .nil pass0 (pa_cons (pv 0) pa_nil se_Name) (he:=se_Name) (hpl:=np_nil)))
   (pss_one (ps_expr (pe_call G_next (hr.mono (by decide)) rfl T.f_next.m T.f_next.F.kp b_next .nil pass0 (pa_cons (pv 0) pa_nil se_Name) (he:=se_Name) (hpl:=np_nil))))))))))),?_⟩
  refine⟨fun σ H1=>H=H1∧∃z:Int,σ=[some (.ref a),some (.int z)],?_,?_⟩
  ·refine⟨_,rfl,a,_,_,_,rfl,rfl,SqL.of ha,rfl,_,rfl,a,_,_,_,rfl,rfl,SqL.of ha,rfl,l,_,rfl,.inl (SqL.of hl),_,_,rfl,rfl,_,rfl,?_⟩
   refine ite2 (fun hlt=>?_) (fun _=>⟨rfl,_,rfl⟩)
   have hlt':p < (ns.length:Int):=by simpa using hlt
   obtain⟨z,hz⟩:=atI_ints hp hlt'
   exact⟨_,rfl,a,_,_,_,rfl,rfl,SqL.of ha,rfl,_,rfl,a,_,_,_,rfl,rfl,SqL.of ha,rfl,l,_,_,_,rfl,rfl,SqL.of hl,hz,_,rfl,rfl,_,rfl⟩
  ·rintro σ H1 ⟨rfl,z,rfl⟩
   refine⟨_,rfl,a,_,_,_,rfl,rfl,(by first | decide | (dsimp only;decide)),SqL.of ha,rfl,_,_,rfl,rfl,a,_,_,_,rfl,rfl,ha,rfl,?_⟩
   refine⟨fun σ H1=>σ=[some (.ref a),some (.int z)]∧Hd H1 a l∧Kp a H H1,?_,?_⟩
   ·refine⟨_,rfl,_,_,rfl,rfl,⟨by decide,by decide,by decide⟩,_,_,rfl,rfl,_,rfl,?_⟩
    refine ite2 (fun _=>?_) (fun _=>?_)
    ·refine⟨_,rfl,_,rfl,a,_,_,_,rfl,rfl,upd_same,rfl,rfl,⟨ns,p + 1,_,_,_,_,by rw[upd_ne ne,upd_ne ne];exact hl,by omega,upd_same⟩,fun b o e nb=>by rw[upd_ne nb,upd_ne nb];exact e⟩
    ·refine⟨_,rfl,a,_,_,_,rfl,rfl,upd_same,rfl,rfl,⟨ns,p + 1,_,_,_,_,by rw[upd_ne ne,upd_ne ne];exact hl,by omega,upd_same⟩,fun b o e nb=>by rw[upd_ne nb,upd_ne nb];exact e⟩
   ·rintro σ H1 ⟨rfl,⟨ns,p,b,c,u,v,hl,hp,ha⟩,k1⟩
    have ne:=ne_hand hl ha
    refine⟨_,rfl,a,_,_,_,rfl,rfl,SqL.of ha,rfl,_,rfl,_,_,rfl,rfl,(by first | decide | (dsimp only;decide)),_,_,rfl,rfl,_,_,rfl,rfl,(by first | decide | (dsimp only;decide)),_,_,rfl,rfl,_,rfl,a,_,_,_,rfl,rfl,ha,rfl,?_⟩
    refine⟨_,rfl,a,_,_,_,rfl,rfl,SqL.of upd_same,rfl,_,_,rfl,rfl,.inr ⟨by decide,by decide⟩,_,rfl,_,_,rfl,rfl,(by first | decide | (dsimp only;decide)),_,_,rfl,rfl,_,_,rfl,rfl,(by first | decide | (dsimp only;decide)),_,_,rfl,rfl,_,rfl,a,_,_,_,rfl,rfl,upd_same,rfl,?_⟩
    refine⟨_,rfl,a,l,rfl,⟨ns,p,_,_,_,_,by rw[upd_ne ne,upd_ne ne];exact hl,hp,upd_same⟩,fun r H2 h2 k2=>?_⟩
    refine⟨_,rfl,a,l,rfl,h2,fun r H3 h3 k3=>?_⟩
    exact k H3 h3 (((k1.trans fun b o e nb=>by rw[upd_ne nb,upd_ne nb];exact e).trans k2).trans k3)
theorem ok_draw (T:Txt K mg):FnOk P w K mg base CX0 3 T.f_draw.a T.f_draw.d ["_law_hand_here", "_law_many"] spDraw:=by
 have G_next:=@ok_next P w K mg base T
 have G_take:=@ok_take P w K mg base T
 have b_next:=T.f_next.b
 have b_take:=T.f_take.b
 refine T.f_draw.F.ok sc_draw (fun vs H Q E h=>?_) (fun cdv A outer s H vs Q E hr h=>?_)
 ·obtain⟨a,l,m,rfl,_⟩:=h
  rfl
 ·obtain⟨a,l,m,rfl,hd,hm0,hm1,k⟩:=h
  refine⟨_,(pss_cons (ps_mid (ps_if (PW.pt (pw_and (pt_cmpR op_eq (pe_ix ix_list (pv 0) pe_int (fun _ _=>rfl)) pe_int (nomark _)) (pw_and1 (pt_cmpR op_eq (pe_ix ix_list (pv 0) pe_int (fun _ _=>rfl)) pe_int (nomark _)))))
   (pss_one (ps_expr (pe_call G_take (hr.mono (by decide)) rfl T.f_take.m T.f_take.F.kp b_take .nil pass0 (pa_cons (pv 0) pa_nil se_Name) (he:=se_Name) (hpl:=np_nil))))
   pss_nil))
   (pss_cons (ps_mid (ps_if (pt_cmpR op_gt (pe_ix ix_list (pv 0) pe_int (fun _ _=>rfl)) pe_int (nomark _))
   (pss_cons (ps_set (i:=2) sc_draw.nd rfl (Or.inl rfl) (pe_op op_mod (pe_ix ix_list (pv 0) pe_int (fun _ _=>rfl)) (pv 1)))
   (pss_cons (ps_asg (pe_op op_fdivB (pe_ix ix_list (pv 0) pe_int (fun _ _=>rfl)) (pv 1)) (pg_sub (pv 0) pe_int set_list))
   (pss_one (ps_ret (pv 2)))))
   pss_nil))
   (pss_cons (ps_augS (pv 0) pe_int get_list pe_int ip_sub set_list)
   (pss_cons (ps_set (i:=3) sc_draw.nd rfl (Or.inl rfl) (pe_call G_next (hr.mono (by decide)) rfl T.f_next.m T.f_next.F.kp b_next .nil pass0 (pa_cons (pv 0) pa_nil se_Name) (he:=se_Name) (hpl:=np_nil)))
   (pss_cons (ps_set (i:=4) sc_draw.nd rfl (Or.inl rfl) pe_int)
   (pss_cons (ps_while PassesOwn.never (pt_cmpR op_lt (pv 4) (pv 1) (nomark _))
   (pss_cons (ps_set (i:=3) sc_draw.nd rfl (Or.inl rfl) (pe_op op_add (pe_op op_mul (pv 3) pe_int) (pe_call G_next (hr.mono (by decide)) rfl T.f_next.m T.f_next.F.kp b_next .nil pass0 (pa_cons (pv 0) pa_nil se_Name) (he:=se_Name) (hpl:=np_nil))))
   (pss_one (ps_set (i:=4) sc_draw.nd rfl (Or.inl rfl) (pe_op op_mul (pv 4) pe_int)))))
   (pss_one (ps_ret (pe_op op_mod (pv 3) (pv 1)))))))))),?_⟩
  refine⟨fun σ H1=>σ=[some (.ref a),some (.int m),none,none,none]∧Hd H1 a l∧Kp a H H1,?_,?_⟩
  ·obtain⟨ns,p,b,c,u,v,hl,hp,ha⟩:=id hd
   refine⟨_,rfl,a,_,_,_,rfl,rfl,SqL.of ha,rfl,rfl,_,rfl,?_⟩
   refine ite2 (fun _=>?_) (fun _=>iteF ⟨rfl,hd,.refl a H⟩)
   refine⟨_,rfl,a,_,_,_,rfl,rfl,SqL.of ha,rfl,rfl,_,rfl,?_⟩
   refine ite2 (fun _=>?_) (fun _=>⟨rfl,hd,.refl a H⟩)
   exact⟨_,rfl,a,l,rfl,hd,fun H1 h1 k1=>⟨rfl,h1,k1⟩⟩
  ·rintro σ H1 ⟨rfl,⟨ns,p,b,c,u,v,hl,hp,ha⟩,k1⟩
   have ne:=ne_hand hl ha
   refine⟨fun σ H2=>H1=H2∧σ=[some (.ref a),some (.int m),none,none,none],?_,?_⟩
   ·refine⟨_,rfl,a,_,_,_,rfl,rfl,SqL.of ha,rfl,_,_,rfl,rfl,_,rfl,?_⟩
    refine ite2 (fun _=>?_) (fun _=>⟨rfl,rfl⟩)
    refine⟨_,rfl,a,_,_,_,rfl,rfl,SqL.of ha,rfl,_,rfl,_,_,rfl,rfl,hm0,?_⟩
    refine⟨_,rfl,a,_,_,_,rfl,rfl,SqL.of ha,rfl,_,rfl,_,_,rfl,rfl,⟨hm0,hm1⟩,_,rfl,a,_,_,_,rfl,rfl,ha,rfl,?_⟩
    refine⟨_,rfl,?_⟩
    exact k _ _ (Int.emod_nonneg _ (by omega)) (Int.emod_lt_of_pos _ hm0) ⟨ns,p,_,_,_,_,by rw[upd_ne ne];exact hl,hp,upd_same⟩ (k1.trans fun b o e nb=>by rw[upd_ne nb];exact e)
   ·rintro σ H2 ⟨rfl,rfl⟩
    refine⟨_,rfl,a,_,_,_,rfl,rfl,(by first | decide | (dsimp only;decide)),SqL.of ha,rfl,_,_,rfl,rfl,a,_,_,_,rfl,rfl,ha,rfl,?_⟩
    refine⟨_,rfl,a,l,rfl,⟨ns,p,_,_,_,_,by rw[upd_ne ne];exact hl,hp,upd_same⟩,fun r H3 h3 k3=>?_⟩
    have k3':Kp a H H3:=(k1.trans fun b o e nb=>by rw[upd_ne nb];exact e).trans k3
    refine while_by (fun σ H4=>∃(val sz:Int),σ=[some (.ref a),some (.int m),none,some (.int val),some (.int sz)]∧Hd H4 a l∧Kp a H H4∧0 < sz)
     (fun σ _=>match σ with | [_,_,_,_,some (.int sz)]=>(m - sz).toNat | _=>0) ⟨r,4294967296,rfl,h3,k3',by decide⟩ ?_ (fun σ H Q Q' f ⟨v,e1,u,e2,i,j,e3,e4,c,e5,q⟩=>⟨v,e1,u,e2,i,j,e3,e4,c,e5,f _ _ q⟩)
    rintro σ H4 ⟨val,sz,rfl,h4,k4,hsz⟩
    refine⟨_,rfl,_,rfl,_,_,rfl,rfl,_,rfl,?_⟩
    refine ite2 (fun hlt=>?_) (fun _=>?_)
    ·have hlt':sz < m:=by simpa using hlt
     refine⟨_,rfl,_,_,rfl,rfl,.inr ⟨by decide,by decide⟩,_,rfl,a,l,rfl,h4,fun r H5 h5 k5=>⟨_,_,rfl,rfl,?_⟩⟩
     refine⟨_,rfl,_,_,rfl,rfl,.inr ⟨by decide,by decide⟩,?_⟩
     refine⟨⟨_,sz * 4294967296,rfl,h5,k4.trans k5,by omega⟩,?_⟩
     show (m - sz * 4294967296).toNat < (m - sz).toNat
     omega
    ·refine⟨_,rfl,_,rfl,_,_,rfl,rfl,hm0,?_⟩
     exact k _ _ (Int.emod_nonneg _ (by omega)) (Int.emod_lt_of_pos _ hm0) h4 k4
end
def mqB:List Lean.Name:=[``dSeq,``dSeqG,``dSet,``dOwn,``dOp,``dVar,``dIfS,``dT,``dRet,``dDrop,``dCb,``dCons,``dNil,``dC,``dF,``dLst,``dTup,``dNeg,``dNot,``dAnd,``dOr,``dAndV,``dOrV,``dNotV,``dBV,``dIf,``dChain,``dIx,``dIxV,``dLenV,``dListV,``dList,``dSlV,``dSl,``dCat,``dRep,``dIsiV,``dIsi,``dCall,``aNil,``aV,``aS,``arsD,``arD,``isSl,``slotD,``bnd_some,``ixD,``lenD,``listD,``itemsD,``gI,``gI0,``gAdd,``gMns,``gMul,``gMod,``gDiv,``gPow,``gLt,``gLe,``gGt,``gGe,``gEq,``gIsN,``isN,``gLen,``gMin,``gMax,``gI2,``gAbs,``gInt,``gAll,``gAny,``dNext,``dLrev,``dApp,``dSetI,``dAsg,``gN,``gT2,``gT3,``gT5,``gInS,``strsD,``gMaxP,``dPopI,``dLrng,``dZip,``dCompT2,``dComp,``dCompT3,``dIndexV,``gIn,``gB2,``oN,``oS,``startN,``slOf,``a1_0,``a2_0,``a2_1,``a3_0,``a3_1,``a3_2,``isiD,``tyD,``List.tail_cons,``List.tail_nil,``List.getElem?_cons_zero,``List.getElem?_cons_succ,``List.set_cons_zero,``List.set_cons_succ,``List.length_cons,``List.length_nil,``Option.bind_some,``Option.map_some,``List.cons_append,``List.nil_append,``iteTT,``iteFF,``iteTB,``iteFB,``iteTI,``iteFI,``Bool.not_true,``Bool.not_false,``dDict0,``dLendO,``dLendOB,``dCallF,``arsF,``arF,``dNewA,``dClrA,``dForA,``dSetL,``dLVar,``lentD,``dIxL,``dFlat,``flatD,``dLenL,``dIsiL,``dIsNL,``dListL,``dLendE,``dLendB,``noBB,``dNewT,``flatM,``dMutA,``dMutN,``dMutC,``aW,``dNinD,``dCallS,``arsS,``arS,``gMaxI,``gMaxD,``dPar3]
def mqT(s:List Lean.Name):Lean.MacroM (Lean.TSyntax `tactic):=do
 let a:=(s++mqB).toArray.map fun x=>Lean.mkCIdent x
 `(tactic|try dsimp only[$[$a:ident],*])
local macro_rules|`(tactic|decreasing_tactic)=>mqT []
local macro_rules|`(tactic|array_get_dec)=>mqT [``dFor,``dIl,``dIv,``dIt,``dRng1,``dRng2,``dEnum,``dIrev,``dIL,``dEnumL,``dForL,``dRevL,``dILn]
local macro_rules|`(tactic|sizeOf_list_dec)=>mqT [``Blk]
theorem units_of {k:Nat} {A:Around} (hr:Room k A):A.units + 64 < cLine:=hr.units
def spDrawD:DSp:=fun ds Q=>∃m:Int,ds=[.none,.int m]∧0 < m∧m < 100000000000000000000000000000000000000000000000000000000000000∧∀r:Int,0≤r→r < m→Q (.int r)
theorem hd_args {F:Addr→Prop} {hand:Option (Addr×Addr)} {H:Hp} {vs:List V} {ds:List PyData} {ms:List Md} (a:ArgsR F hand H (.hd::ms) vs ds):∃q vs' d ds',hand=some q∧vs=.ref q.1::vs'∧ds=d::ds'∧ArgsR F hand H ms vs' ds':=by
 cases a with
 | cons x t=>
  obtain⟨q,e,rfl⟩:=x
  exact⟨q,_,_,_,e,rfl,rfl,t⟩
section
variable {P:Program} {w:World} {K:PySem.W.Frag} {mg:Str→Option Value} {base:Heap}
theorem ok_drawD (T:Txt K mg):FnOk P w K mg base CX0 3 T.f_draw.a T.f_draw.d ["_law_hand_here", "_law_many"] (spD [.hd,.sh] spDrawD):=(ok_draw T).imp fun vs H Q E h=>by
 obtain⟨F,hand,ds,Qd,h1,h2,h3,a,⟨m,rfl,m0,m1,hr⟩,h5⟩:=h
 obtain⟨q,vs',d,ds',e,rfl,e2,a⟩:=hd_args a
 cases e2
 subst e
 cases a with
 | cons x t=>
  cases t
  cases (show ThV F H _ (.int m) from x)
  exact⟨q.1,q.2,m,rfl,h3 q rfl,m0,m1,fun r H' r0 r1 hd kp=>h5 _ _ _ (hr r r0 r1) (.int r) (fun b o eb n=>kp b o eb (n q rfl)) fun q' e'=>by cases e';exact hd⟩
end
def oD:Option Int→PyData
 | none=>.none
 | some i=>.int i
def onD:Option Nat→PyData
 | none=>.none
 | some n=>.int (n:Nat)
def intsL (ns:List Int):List PyData:=ns.map PyData.int
def tabL (t:Tb):List PyData:=t.map oD
def rnL (t:Rn):List PyData:=t.map onD
def rowD (r:Rw):PyData:=.tuple [.list (tabL r.1),.list (rnL r.2)]
def wayD (w:Wy):PyData:=.tuple [.int (w.1:Nat),.int (w.2.1:Nat),.int w.2.2]
def landD (m:Nat) (ws:List Wy):PyData:=.tuple [.int (m:Nat),.list (ws.map wayD)]
def effD:Ef→PyData
 | none=>.none
 | some (l,g,t)=>.tuple [.int l,.int g,.int t]
def numL (ns:List Nat):List PyData:=ns.map fun n=>.int (n:Nat)
def partD (p:List Nat×Int):PyData:=.tuple [.list (numL p.1),.int p.2]
local macro_rules|`(tactic|decreasing_trivial)=>mqT [``oD,``onD,``effD,``rowD,``landD,``wayD,``partD]
local macro_rules|`(tactic|array_mem_dec)=>mqT [``dFor,``dIl,``dIv,``dIt,``dRng1,``dRng2,``dEnum,``dIrev,``dIL,``dEnumL,``dForL,``dRevL,``dILn,``oD,``onD,``effD,``rowD,``landD,``wayD,``partD]
local macro_rules|`(tactic|decreasing_trivial_pre_omega)=>mqT [``Blk,``oD,``onD,``effD,``rowD,``landD,``wayD,``partD]
theorem tab_at {t:Tb} {p:Nat} (h:p < t.length):atI (tabL t) ((p:Nat):Int)=some (oD (gt t p)):=atI_nat (by unfold tabL;rw[List.getElem?_map,gt_at h];rfl)
theorem rn_at {t:Rn} {p:Nat} (h:p < t.length):atI (rnL t) ((p:Nat):Int)=some (onD (gt t p)):=atI_nat (by unfold rnL;rw[List.getElem?_map,gt_at h];rfl)
theorem way_at {ws:List Wy} {n:Nat} {w:Wy} (h:ws[n]?=some w):atI (ws.map wayD) ((n:Nat):Int)=some (wayD w):=atI_nat (by rw[List.getElem?_map,h];rfl)
theorem ixN_nat {n j:Nat} (h:j < n):ixN n ((j:Nat):Int)=some j:=by
 unfold ixN
 rw[if_pos (by omega),if_pos (by omega)]
 simp
theorem atI_last1 {α:Type} {xs:List α} {x:α} (h:xs.getLast?=some x):atI xs (-1)=some x:=by
 obtain⟨ys,rfl⟩:=List.getLast?_eq_some_iff.mp h
 exact atI_last ys x
def spStepD:DSp:=fun ds Q=>∃st lv ch:Int,ds=[.int st,.int lv,.int ch]∧Q (oD (stepF st lv ch))
def spLevsD:DSp:=fun ds Q=>∃(st lv:Int) (cs:List Int),ds=[.int st,.int lv,.list (intsL cs)]∧cs.length≤900∧Q (.list (intsL (levF st lv cs)))
def spNoneD:DSp:=fun ds Q=>∃st:Int,ds=[.int st]∧Q (effD (some (0,0,st)))
def spOneD:DSp:=fun ds Q=>∃st c:Int,ds=[.int st,.int c]∧Q (effD (oneF st c))
def spPassedD:DSp:=fun ds Q=>∃(e:Ef) (x:Int),ds=[effD e,.int x]∧Q (oD (passF e x))
def spJoinedD:DSp:=fun ds Q=>∃a b:Ef,ds=[effD a,effD b]∧Q (effD (joinF a b))
def spFxD:DSp:=fun ds Q=>∃(st:Int) (cs:List Int),ds=[.int st,.list (intsL cs)]∧Q (effD (fxF st cs))
def wholeD (d:PyData):Bool:=isiD "int" d&&!isiD "bool" d
def spWholeD:DSp:=fun ds Q=>∃d,ds=[d]∧Q (.bool (wholeD d))
def spPlaceD:DSp:=fun ds Q=>∃(m:Int) (n:Int),ds=[.int m,.int n]∧Q (.bool (decide (0≤n∧n < m)))
def spMoreD:DSp:=fun ds Q=>∃a b:Option Int,ds=[oD a,oD b]∧Q (.bool (moreF a b))
def spBehD:DSp:=fun ds Q=>∃(st:Int) (t:Tb) (w:Wy),ds=[.int st,.list (tabL t),wayD w]∧w.1 < t.length∧Q (oD (behF st t w))
section
variable {P:Program} {w:World} {K:PySem.W.Frag} {mg:Str→Option Value} {base:Heap}
theorem ok_stepped (T:Txt K mg):FnOk P w K mg base CX0 1 T.f_stepped.a T.f_stepped.d ["store", "level", "change"] (spD [.sh,.sh,.sh] spStepD):=by
 refine fn_d T.f_stepped.F sc_stepped rfl (fun C cdv A outer s H E hr=>⟨_,(@dss_cons _ _ _ _ _ _ (ds_set (ps_set (i:=3) sc_stepped.nd rfl (Or.inl rfl) (pd_op op_add ok_add (pd_var (pv 1)) (pd_var (pv 2))))) (dss_cons (ds_if (pdt_cmp op_lt ok_lt (pd_var (pv 3)) pd_int (nomark _))
   (dss_one (ds_ret pd_non))
   dss_nil)
   (dss_one (ds_ret (pd_cb cb_min (pe_callB (call_min2 rfl) rfl T.n_min bt_min (dv_cons (pd_var (pv 3)) (dv_cons (pd_var (pv 0)) dv_nil se_Name) se_Name) (he:=se_Name) (hpl:=(np_cons se_Name np_nil)))))))),fun ds Q hl h=>?_⟩)
 obtain⟨st,lv,ch,rfl,q⟩:=h
 decreasing_tactic
 unfold stepF at q
 by_cases c:lv + ch < 0
 ·rw[decide_eq_true c,if_pos rfl]
  rw[if_pos c] at q;exact q
 ·rw[decide_eq_false c,if_neg Bool.false_ne_true]
  rw[if_neg c] at q;exact q
theorem ok_is_whole (T:Txt K mg):FnOk P w K mg base CX0 1 T.f_is_whole.a T.f_is_whole.d ["thing"] (spD [.sh] spWholeD):=by
 refine fn_d T.f_is_whole.F sc_is_whole rfl (fun C cdv A outer s H E hr=>⟨_,(@dss_one _ _ _ _ (@ds_ret _ _ _ _ _ (@pd_and _ _ _ _ _ _ _ _ (pd_isiv ty_int (pe_callB call_isinst2 rfl T.n_isinstance bt_isinstance (pa_cons (pv 0) (pa_cons (pe_bltn (v:=V.ty "int") rfl T.n_int bt_int rfl) pa_nil se_Name) se_Name) (he:=se_Name) (hpl:=(np_cons se_Name np_nil)))) (pd_one (pd_not (pd_isiv ty_bool (pe_callB call_isinst2 rfl T.n_isinstance bt_isinstance (pa_cons (pv 0) (pa_cons (pe_bltn (v:=V.ty "bool") rfl T.n_bool bt_bool rfl) pa_nil se_Name) se_Name) (he:=se_Name) (hpl:=(np_cons se_Name np_nil))))))))),fun ds Q hl h=>?_⟩)
 obtain⟨d,rfl,q⟩:=h
 decreasing_tactic
 unfold wholeD at q
 cases d <;> exact q
theorem ok_is_place (T:Txt K mg):FnOk P w K mg base CX0 2 T.f_is_place.a T.f_is_place.d ["many", "thing"] (spD [.sh,.sh] spPlaceD):=by
 have G_is_whole:=@ok_is_whole P w K mg base T
 have b_is_whole:=T.f_is_whole.b
 refine fn_d T.f_is_place.F sc_is_place rfl (fun C cdv A outer s H E hr=>⟨_,(dss_one (ds_ret (pd_and (pd_call (pe_call G_is_whole (hr.mono (by decide)) rfl T.f_is_whole.m T.f_is_whole.F.kp b_is_whole .nil pass0 (da_v (pd_var (pv 1)) da_nil se_Name) (he:=se_Name) (hpl:=np_nil))) (pd_one (pd_chain op_le op_lt pd_int (pd_var (pv 1)) (pd_var (pv 0))))))),fun ds Q hl h=>?_⟩)
 obtain⟨m,n,rfl,q⟩:=h
 decreasing_tactic
 refine⟨_,rfl,?_⟩
 decreasing_tactic
 by_cases c:0≤n
 ·by_cases c2:n < m
  ·simpa [c,c2,wholeD,isiD,tyD,spWholeD] using q
  ·simpa [c,c2,wholeD,isiD,tyD] using q
 ·simpa [c,wholeD,isiD,tyD] using q
theorem ok_is_more (T:Txt K mg):FnOk P w K mg base CX0 1 T.f_is_more.a T.f_is_more.d ["one", "other"] (spD [.sh,.sh] spMoreD):=by
 refine fn_d T.f_is_more.F sc_is_more rfl (fun C cdv A outer s H E hr=>⟨_,(dss_one (ds_ret (pd_and (pd_cmp op_notN ok_notN (pd_var (pv 0)) pd_non (nomark _)) (pd_one (pd_or (pd_cmp op_isN ok_isN (pd_var (pv 1)) pd_non (nomark _)) (pd_one (pd_cmp op_gt ok_gt (pd_var (pv 0)) (pd_var (pv 1)) (nomark _)))))))),fun ds Q hl h=>?_⟩)
 obtain⟨a,b,rfl,q⟩:=h
 cases a with
 | none=>
  decreasing_tactic
  exact q
 | some x=>
  cases b with
  | none=>
   decreasing_tactic
   exact q
  | some y=>
   decreasing_tactic
   exact q
theorem ok_behind_way (T:Txt K mg):FnOk P w K mg base CX0 2 T.f_behind_way.a T.f_behind_way.d ["store", "table", "way"] (spD [.sh,.sh,.sh] spBehD):=by
 have G_stepped:=@ok_stepped P w K mg base T
 have b_stepped:=T.f_stepped.b
 refine fn_d T.f_behind_way.F sc_behind_way rfl (fun C cdv A outer s H E hr=>⟨_,(@dss_cons _ _ _ _ _ _ (ds_set (ps_set (i:=3) sc_behind_way.nd rfl (Or.inl rfl) (pd_ixv (pv 1) (pd_ixv (pv 2) (pd_gi (pe_glob (v:=V.int 0) rfl T.mg_START ⟨_,rfl⟩)) (fun _ _=>rfl)) (fun _ _=>rfl)))) (@dss_cons _ _ _ _ _ _ (ds_if (pdt_cmp op_isN ok_isN (pd_var (pv 3)) pd_non (nomark _))
   (dss_one (ds_ret pd_non))
   dss_nil) (dss_one (ds_ret (pd_call (pe_call G_stepped (hr.mono (by decide)) rfl T.f_stepped.m T.f_stepped.F.kp b_stepped .nil pass0 (da_v (pd_var (pv 0)) (da_v (pd_var (pv 3)) (da_v (pd_ixv (pv 2) (pd_gi (pe_glob (v:=V.int 2) rfl T.mg_CHANGE ⟨_,rfl⟩)) (fun _ _=>rfl)) da_nil se_Subscript) se_Name) se_Name) (he:=se_Name) (hpl:=(np_cons se_Name (np_cons se_Subscript np_nil))))))))),fun ds Q hl h=>?_⟩)
 obtain⟨st,t,w,rfl,hw,q⟩:=h
 decreasing_trivial
 rw[tab_at hw]
 unfold behF at q
 cases e:gt t w.1 with
 | none=>
  rw[e] at q
  decreasing_trivial
  exact q
 | some l=>
  rw[e] at q
  decreasing_trivial
  exact⟨_,_,_,rfl,q⟩
theorem ok_passed (T:Txt K mg):FnOk P w K mg base CX0 1 T.f_passed.a T.f_passed.d ["effect", "level"] (spD [.sh,.sh] spPassedD):=by
 refine fn_d T.f_passed.F sc_passed rfl (fun C cdv A outer s H E hr=>⟨_,(@dss_cons _ _ _ _ _ _ (ds_if (PW.pt (pwd_or (pdt_cmp op_isN ok_isN (pd_var (pv 0)) pd_non (nomark _)) (pwd_or1 (pdt_cmp op_lt ok_lt (pd_var (pv 1)) (pd_ixv (pv 0) (pd_gi (pe_glob (v:=V.int 0) rfl T.mg_LEAST ⟨_,rfl⟩)) (fun _ _=>rfl)) (nomark _)))))
   (dss_one (ds_ret pd_non))
   dss_nil) (dss_one (ds_ret (pd_cb cb_min (pe_callB (call_min2 rfl) rfl T.n_min bt_min (dv_cons (pd_op op_add ok_add (pd_var (pv 1)) (pd_ixv (pv 0) (pd_gi (pe_glob (v:=V.int 1) rfl T.mg_GAIN ⟨_,rfl⟩)) (fun _ _=>rfl))) (dv_cons (pd_ixv (pv 0) (pd_gi (pe_glob (v:=V.int 2) rfl T.mg_TOP ⟨_,rfl⟩)) (fun _ _=>rfl)) dv_nil se_Subscript) se_BinOp) (he:=se_BinOp) (hpl:=(np_cons se_Subscript np_nil))))))),fun ds Q hl h=>?_⟩)
 obtain⟨e,x,rfl,q⟩:=h
 rcases e with _ | ⟨l,g,t⟩
 ·decreasing_trivial
  exact q
 ·unfold passF at q
  dsimp only at q
  decreasing_trivial
  by_cases c:x < l
  ·rw[if_pos c] at q
   simp only[c,decide_true,if_true]
   exact q
  ·rw[if_neg c] at q
   simp only[c,decide_false,Bool.false_eq_true,if_false]
   exact q
theorem ok_joined (T:Txt K mg):FnOk P w K mg base CX0 2 T.f_joined.a T.f_joined.d ["one", "other"] (spD [.sh,.sh] spJoinedD):=by
 have G_passed:=@ok_passed P w K mg base T
 have b_passed:=T.f_passed.b
 refine fn_d T.f_joined.F sc_joined rfl (fun C cdv A outer s H E hr=>⟨_,(@dss_cons _ _ _ _ _ _ (@ds_if _ _ _ _ _ _ _ _ _ (PW.pt (pwd_or (pdt_cmp op_isN ok_isN (pd_var (pv 0)) pd_non (nomark _)) (pwd_or (pdt_cmp op_isN ok_isN (pd_var (pv 1)) pd_non (nomark _)) (pwd_or1 (pdt_cmp op_lt ok_lt (pd_ixv (pv 0) (pd_gi (pe_glob (v:=V.int 2) rfl T.mg_TOP ⟨_,rfl⟩)) (fun _ _=>rfl)) (pd_ixv (pv 1) (pd_gi (pe_glob (v:=V.int 0) rfl T.mg_LEAST ⟨_,rfl⟩)) (fun _ _=>rfl)) (nomark _)))))) (dss_one (ds_ret pd_non)) dss_nil) (@dss_cons _ _ _ _ _ _ (@ds_set _ _ _ _ _ (@ps_set _ _ 2 _ _ _ _ sc_joined.nd rfl (Or.inl rfl) (@pd_cb _ _ _ _ _ _ cb_max (@pe_callB _ _ _ _ _ _ _ _ _ (call_max2 rfl) rfl T.n_max bt_max (dv_cons (pd_ixv (pv 0) (pd_gi (pe_glob (v:=V.int 0) rfl T.mg_LEAST ⟨_,rfl⟩)) (fun _ _=>rfl)) (dv_cons (pd_op op_sub ok_sub (pd_ixv (pv 1) (pd_gi (pe_glob (v:=V.int 0) rfl T.mg_LEAST ⟨_,rfl⟩)) (fun _ _=>rfl)) (pd_ixv (pv 0) (pd_gi (pe_glob (v:=V.int 1) rfl T.mg_GAIN ⟨_,rfl⟩)) (fun _ _=>rfl))) dv_nil se_BinOp) se_Subscript) (by decide) (by decide) se_Subscript ((np_cons se_BinOp np_nil)))) (by rfl) (by first | exact .inl rfl | exact .inr rfl | assumption))) (@dss_one _ _ _ _ (@ds_ret _ _ _ _ _ (@pd_tup _ _ _ _ _ _ (@dv_cons _ _ _ _ _ _ (pd_var (pv 2)) (@dv_cons _ _ _ _ _ _ (pd_op op_add ok_add (pd_ixv (pv 0) (pd_gi (pe_glob (v:=V.int 1) rfl T.mg_GAIN ⟨_,rfl⟩)) (fun _ _=>rfl)) (pd_ixv (pv 1) (pd_gi (pe_glob (v:=V.int 1) rfl T.mg_GAIN ⟨_,rfl⟩)) (fun _ _=>rfl))) (dv_cons (pd_call (pe_call G_passed (hr.mono (by decide)) rfl T.f_passed.m T.f_passed.F.kp b_passed .nil pass0 (da_v (pd_var (pv 1)) (da_v (pd_ixv (pv 0) (pd_gi (pe_glob (v:=V.int 2) rfl T.mg_TOP ⟨_,rfl⟩)) (fun _ _=>rfl)) da_nil se_Subscript) se_Name) (he:=se_Name) (hpl:=(np_cons se_Subscript np_nil)))) dv_nil se_Call) se_BinOp) se_Name)))))),fun ds Q hl h=>?_⟩)
 obtain⟨a,b,rfl,q⟩:=h
 rcases a with _ | ⟨l1,g1,t1⟩
 ·decreasing_trivial
  exact q
 ·rcases b with _ | ⟨l2,g2,t2⟩
  ·decreasing_trivial
   exact q
  ·decreasing_trivial
   by_cases c:t1 < l2
   ·rw[join_none (a:=(l1,g1,t1)) (b:=(l2,g2,t2)) c] at q
    simp only[c,decide_true,if_true]
    exact q
   ·rw[join_eq (a:=(l1,g1,t1)) (b:=(l2,g2,t2)) c] at q
    simp only[c,decide_false,Bool.false_eq_true,if_false]
    refine⟨some (l2,g2,t2),t1,rfl,?_⟩
    have e:oD (passF (some (l2,g2,t2)) t1)=.int (if t2 < t1 + g2 then t2 else t1 + g2):=by
     unfold passF
     dsimp only
     rw[if_neg c]
     rfl
    rw[e]
    decreasing_tactic
    simp only[effD] at q
    exact⟨by decide,q⟩
theorem ok_effect_of_none (T:Txt K mg):FnOk P w K mg base CX0 1 T.f_effect_of_none.a T.f_effect_of_none.d ["store"] (spD [.sh] spNoneD):=by
 refine fn_d T.f_effect_of_none.F sc_effect_of_none rfl (fun C cdv A outer s H E hr=>⟨_,(dss_one (ds_ret (pd_tup (dv_cons pd_int (dv_cons pd_int (dv_cons (pd_var (pv 0)) dv_nil se_Name) se_Constant) se_Constant)))),fun ds Q hl h=>?_⟩)
 obtain⟨st,rfl,q⟩:=h
 decreasing_trivial
 exact⟨by decide,q⟩
theorem ok_effect_of_one (T:Txt K mg):FnOk P w K mg base CX0 1 T.f_effect_of_one.a T.f_effect_of_one.d ["store", "change"] (spD [.sh,.sh] spOneD):=by
 refine fn_d T.f_effect_of_one.F sc_effect_of_one rfl (fun C cdv A outer s H E hr=>⟨_,(@dss_cons _ _ _ _ _ _ (ds_if (pdt_cmp op_lt ok_lt (pd_op op_add ok_add (pd_var (pv 0)) (pd_var (pv 1))) pd_int (nomark _))
   (dss_one (ds_ret pd_non))
   dss_nil) (@dss_one _ _ _ _ (@ds_ret _ _ _ _ _ (@pd_tup _ _ _ _ _ _ (@dv_cons _ _ _ _ _ _ (pd_cb cb_max (pe_callB (call_max2 rfl) rfl T.n_max bt_max (dv_cons pd_int (dv_cons (pd_neg (pd_var (pv 1))) dv_nil se_UnaryOp) se_Constant) (he:=se_Constant) (hpl:=(np_cons se_UnaryOp np_nil)))) (dv_cons (pd_var (pv 1)) (dv_cons (pd_cb cb_min (pe_callB (call_min2 rfl) rfl T.n_min bt_min (dv_cons (pd_var (pv 0)) (dv_cons (pd_op op_add ok_add (pd_var (pv 0)) (pd_var (pv 1))) dv_nil se_BinOp) se_Name) (he:=se_Name) (hpl:=(np_cons se_BinOp np_nil)))) dv_nil se_Call) se_Name) se_Call))))),fun ds Q hl h=>?_⟩)
 obtain⟨st,c,rfl,q⟩:=h
 unfold oneF at q
 decreasing_trivial
 by_cases d:st + c < 0
 ·rw[if_pos d] at q
  simp only[d,decide_true,if_true]
  exact q
 ·rw[if_neg d] at q
  simp only[d,decide_false,Bool.false_eq_true,if_false]
  exact⟨by decide,q⟩
theorem ok_effect_of (T:Txt K mg):FnOk P w K mg base CX0 3 T.f_effect_of.a T.f_effect_of.d ["store", "changes"] (spD [.sh,.sh] spFxD):=by
 have G_effect_of_none:=@ok_effect_of_none P w K mg base T
 have b_effect_of_none:=T.f_effect_of_none.b
 have G_effect_of_one:=@ok_effect_of_one P w K mg base T
 have b_effect_of_one:=T.f_effect_of_one.b
 have G_joined:=@ok_joined P w K mg base T
 have b_joined:=T.f_joined.b
 refine fn_d T.f_effect_of.F sc_effect_of rfl (fun C cdv A outer s H E hr=>⟨_,(@dss_cons _ _ _ _ _ _ (ds_set (ps_set (i:=2) sc_effect_of.nd rfl (Or.inl rfl) (pd_call (pe_call G_effect_of_none (hr.mono (by decide)) rfl T.f_effect_of_none.m T.f_effect_of_none.F.kp b_effect_of_none .nil pass0 (da_v (pd_var (pv 0)) da_nil se_Name) (he:=se_Name) (hpl:=np_nil))))) (@dss_cons _ _ _ _ _ _ (@ds_for _ _ _ _ _ _ (@ps_for _ _ _ _ _ _ _ _ PassesOwn.never rfl (di_var (pv 1)) (dg_name (pg_name (i:=3) sc_effect_of.nd rfl (Or.inl rfl))) (@dss_one _ _ _ _ (@ds_set _ _ _ _ _ (@ps_set _ _ 2 _ _ _ _ sc_effect_of.nd rfl (Or.inl rfl) (@pd_call _ _ _ _ _ _ _ (@pe_call _ _ _ _ _ _ _ _ _ _ _ _ _ _ _ _ G_joined (hr.mono (by decide)) rfl T.f_joined.m T.f_joined.F.kp b_joined .nil pass0 (da_v (pd_var (pv 2)) (da_v (pd_call (pe_call G_effect_of_one (hr.mono (by decide)) rfl T.f_effect_of_one.m T.f_effect_of_one.F.kp b_effect_of_one .nil pass0 (da_v (pd_var (pv 0)) (da_v (pd_var (pv 3)) da_nil se_Name) se_Name) (he:=se_Name) (hpl:=(np_cons se_Name np_nil)))) da_nil se_Call) se_Name) (by decide) se_Name ((np_cons se_Call np_nil)))) (by rfl) (by first | exact .inl rfl | exact .inr rfl | assumption)))) (by intro _;rfl))) (dss_one (ds_ret (pd_var (pv 2)))))),fun ds Q hl h=>?_⟩)
 obtain⟨st,cs,rfl,q⟩:=h
 decreasing_tactic
 refine⟨st,rfl,?_⟩
 array_get_dec
 refine⟨fun r ρ=>∃(cs':List Int) (e:Ef) (z0 z:Sl),r=intsL cs'∧ρ=[Sl.sh (.int st),z0,Sl.sh (effD e),z]∧Q (effD (foF st e cs')),⟨cs,_,_,_,rfl,rfl,q⟩,?_,?_⟩
 ·rintro x r ρ ⟨cs',e,z0,z,h1,rfl,q⟩
  cases cs' with
  | nil=>cases h1
  | cons c cs'=>
   cases (show x::r=PyData.int c::intsL cs' from h1)
   sizeOf_list_dec
   refine⟨_,_,rfl,?_⟩
   decreasing_tactic
   refine⟨_,_,rfl,?_⟩
   exact⟨cs',_,_,_,rfl,rfl,q⟩
 ·rintro ρ ⟨cs',e,z0,z,h1,rfl,q⟩
  cases cs' with
  | nil=>
   decreasing_tactic
   exact q
  | cons c cs'=>cases h1
theorem ok_levels_along (T:Txt K mg):FnOk P w K mg base CX0 2 T.f_levels_along.a T.f_levels_along.d ["store", "level", "changes"] (spD [.sh,.sh,.sh] spLevsD):=by
 have G_stepped:=@ok_stepped P w K mg base T
 have b_stepped:=T.f_stepped.b
 refine fn_d T.f_levels_along.F sc_levels_along rfl (fun C cdv A outer s H E hr=>⟨_,(@dss_cons _ _ _ _ _ _ (ds_own (ps_set (i:=3) sc_levels_along.nd rfl (Or.inl rfl) (pf_lst (dv_cons (pd_var (pv 1)) dv_nil se_Name)))) (@dss_cons _ _ _ _ _ _ (@ds_for _ _ _ _ _ _ (@ps_for _ _ _ _ _ _ _ _ PassesOwn.never rfl (di_var (pv 2)) (dg_name (pg_name (i:=4) sc_levels_along.nd rfl (Or.inl rfl))) (@dss_cons _ _ _ _ _ _ (ds_set (ps_set (i:=5) sc_levels_along.nd rfl (Or.inl rfl) (pd_call (pe_call G_stepped (hr.mono (by decide)) rfl T.f_stepped.m T.f_stepped.F.kp b_stepped .nil pass0 (da_v (pd_var (pv 0)) (da_v (pd_ixv (pv 3) (pd_neg pd_int) (fun _ _=>rfl)) (da_v (pd_var (pv 4)) da_nil se_Name) se_Subscript) se_Name) (he:=se_Name) (hpl:=(np_cons se_Subscript (np_cons se_Name np_nil))))))) (dss_cons (ds_if (pdt_cmp op_isN ok_isN (pd_var (pv 5)) pd_non (nomark _))
   (dss_one (ds_ret (pd_var (pv 3))))
   dss_nil)
   (dss_one (ds_app (ps_expr (pe_bm PySem.F.plainAttrs_list PySem.F.slot_list_append PySem.F.type_list_append mt_append (pv 3) (pa_cons (pd_var (pv 5)) pa_nil se_Name))))))) (by intro _;rfl))) (dss_one (ds_ret (pd_var (pv 3)))))),fun ds Q hl h=>?_⟩)
 obtain⟨st,lv,cs,rfl,hn,q⟩:=h
 array_get_dec
 refine⟨by decide,fun r ρ=>∃(cs' ys:List Int) (l:Int) (z0 z1 z2:Sl),r=intsL cs'∧ρ=[Sl.sh (.int st),Sl.sh (.int lv),z0,Sl.ow (intsL (ys++[l])),z1,z2]∧ys.length + cs'.length=cs.length∧ys++levF st l cs'=levF st lv cs,⟨cs,[],lv,_,_,_,rfl,rfl,by simp,rfl⟩,?_,?_⟩
 ·rintro x r ρ ⟨cs',ys,l,z0,z1,z2,h1,rfl,h2,h3⟩
  cases cs' with
  | nil=>cases h1
  | cons c cs'=>
   cases (show x::r=PyData.int c::intsL cs' from h1)
   have hlast:atI (intsL (ys++[l])) (-1)=some (.int l):=atI_last1 (by unfold intsL;simp)
   sizeOf_list_dec
   rw[hlast]
   decreasing_tactic
   refine⟨_,_,_,rfl,?_⟩
   cases e:stepF st l c with
   | none=>
    rw[levF_none e] at h3
    decreasing_trivial
    rw[h3]
    exact q
   | some v=>
    rw[levF_some e] at h3
    decreasing_trivial
    refine⟨by unfold intsL;rw[List.length_map,List.length_append];simp at h2 ⊢;omega,cs',ys++[l],v,z0,_,_,rfl,by rw[show intsL (ys++[l]++[v])=intsL (ys++[l])++[.int v] by unfold intsL;simp],by simp at h2 ⊢;omega,by rw[←h3];simp⟩
 ·rintro ρ ⟨cs',ys,l,z0,z1,z2,h1,rfl,h2,h3⟩
  cases cs' with
  | nil=>
   decreasing_tactic
   have e:ys++[l]=levF st lv cs:=h3
   rw[e]
   exact q
  | cons c cs'=>cases h1
end
def turnW (w:Wy):Wy:=(w.2.1,w.1,w.2.2)
theorem len_tab {t:Tb}:(tabL t).length=t.length:=by unfold tabL;rw[List.length_map]
theorem len_rn {t:Rn}:(rnL t).length=t.length:=by unfold rnL;rw[List.length_map]
theorem len_num {t:List Nat}:(numL t).length=t.length:=by unfold numL;rw[List.length_map]
theorem set_tab {t:Tb} {i:Nat} {x:Option Int}:(tabL t).set i (oD x)=tabL (t.set i x):=by unfold tabL;rw[List.map_set]
theorem set_rn {t:Rn} {i n:Nat}:(rnL t).set i (.int (n:Nat))=rnL (t.set i (some n)):=by unfold rnL;rw[List.map_set];rfl
theorem rep_rn {n:Nat}:repD [PyData.none] n=rnL (List.replicate n none):=by
 unfold repD rnL
 induction n with
 | zero=>rfl
 | succ n ih=>rw[List.replicate_succ,List.replicate_succ,List.flatten_cons,List.map_cons,ih];rfl
theorem enum_ways {ws:List Wy}:enumD (ws.map wayD)=ws.zipIdx.map fun p=>.tuple [.int (p.2:Nat),wayD p.1]:=by
 unfold enumD
 rw[List.zipIdx_map,List.map_map]
 rfl
def spTurnD:DSp:=fun ds Q=>∃(m:Nat) (ws:List Wy),ds=[landD m ws]∧ws.length≤900∧Q (landD m (ws.map turnW))
def spChD:DSp:=fun ds Q=>∃(m:Nat) (ws:List Wy) (ns:List Nat),ds=[landD m ws,.list (numL ns)]∧(∀n∈ns,n < ws.length)∧ns.length≤900∧Q (.list (intsL (chs ws ns)))
def spFirstD:DSp:=fun ds Q=>∃t:Tb,ds=[.list (tabL t)]∧t.length≤900∧Q (rowD (t,List.replicate t.length none))
def spRowD:DSp:=fun ds Q=>∃(m:Nat) (ws:List Wy) (st:Int) (t s:Tb),ds=[landD m ws,.int st,.list (tabL t),.list (tabL s)]∧LandOk m ws∧t.length=m∧s.length=m∧Q (rowD (rowF m ws st t s))
def RowsOk (m:Nat) (ws:List Wy) (rs:List Rw):Prop:=∀r∈rs,r.2.length=m∧∀q n,gt r.2 q=some n→n < ws.length
def spWalkD:DSp:=fun ds Q=>∃(m:Nat) (ws:List Wy) (rs:List Rw) (p:Nat),ds=[landD m ws,.list (rs.map rowD),.int (p:Nat)]∧p < m∧LandOk m ws∧RowsOk m ws rs∧rs.length≤900∧Q (.tuple [.int ((wlk ws rs.reverse p).1:Nat),.list (numL (wlk ws rs.reverse p).2)])
section
variable {P:Program} {w:World} {K:PySem.W.Frag} {mg:Str→Option Value} {base:Heap}
theorem ok_turned_land (T:Txt K mg):FnOk P w K mg base CX0 1 T.f_turned_land.a T.f_turned_land.d ["land"] (spD [.sh] spTurnD):=by
 refine fn_d T.f_turned_land.F sc_turned_land rfl (fun C cdv A outer s H E hr=>⟨_,(@dss_one _ _ _ _ (@ds_ret _ _ _ _ _ (@pd_tup _ _ _ _ _ _ (@dv_cons _ _ _ _ _ _ (pd_ixv (pv 0) (pd_gi (pe_glob (v:=V.int 0) rfl T.mg_MANY ⟨_,rfl⟩)) (fun _ _=>rfl)) (@dv_cons _ _ _ _ _ _ (@pd_f _ _ _ _ (@pf_comp _ _ _ _ _ _ _ _ rfl (@pe_comp _ _ _ _ _ _ _ _ _ _ _ _ _ _ _ (CompSc.new (N:=["land"]) (osc:=defScope s_turned_land) (by decide +kernel)) rfl (di_list (pd_ixv (pv 0) (pd_gi (pe_glob (v:=V.int 1) rfl T.mg_WAYS ⟨_,rfl⟩)) (fun _ _=>rfl))) (fun _=>dts_nil) (fun _=>(pd_tup (dv_cons (pd_ixv (pv 1) (pd_gi (pe_glob (v:=V.int 1) rfl T.mg_END ⟨_,rfl⟩)) (fun _ _=>rfl)) (dv_cons (pd_ixv (pv 1) (pd_gi (pe_glob (v:=V.int 0) rfl T.mg_START ⟨_,rfl⟩)) (fun _ _=>rfl)) (dv_cons (pd_ixv (pv 1) (pd_gi (pe_glob (v:=V.int 2) rfl T.mg_CHANGE ⟨_,rfl⟩)) (fun _ _=>rfl)) dv_nil se_Subscript) se_Subscript) se_Subscript))) (by rfl) (by rfl) (by intro _;rfl)))) dv_nil se_ListComp) se_Subscript)))),fun ds Q hl h=>?_⟩)
 obtain⟨m,ws,rfl,hn,q⟩:=h
 array_mem_dec
 refine⟨⟨rfl,by rw[List.length_map];omega⟩,compM (f:=fun w=>wayD (turnW w)) (fun w hw Q' q'=>?_) ?_⟩
 ·decreasing_trivial
  exact⟨by decide,q'⟩
 ·refine⟨by decide,?_⟩
  unfold landD at q
  rw[List.map_map] at q
  exact q
theorem ok_changes_of (T:Txt K mg):FnOk P w K mg base CX0 1 T.f_changes_of.a T.f_changes_of.d ["land", "numbers"] (spD [.sh,.sh] spChD):=by
 refine fn_d T.f_changes_of.F sc_changes_of rfl (fun C cdv A outer s H E hr=>⟨_,(dss_one (ds_ret (pd_f (pf_comp rfl (pe_comp (CompSc.new (N:=["land", "numbers"]) (osc:=defScope s_changes_of) (by decide +kernel)) rfl (di_var (pv 1)) (fun _=>dts_nil) (fun _=>(pd_ix (pd_ix (pd_ixv (pv 0) (pd_gi (pe_glob (v:=V.int 1) rfl T.mg_WAYS ⟨_,rfl⟩)) (fun _ _=>rfl)) (pd_var (pv 2)) (fun _ _=>rfl)) (pd_gi (pe_glob (v:=V.int 2) rfl T.mg_CHANGE ⟨_,rfl⟩)) (fun _ _=>rfl)))))))),fun ds Q hl h=>?_⟩)
 obtain⟨m,ws,ns,rfl,hb,hn,q⟩:=h
 array_mem_dec
 refine⟨⟨rfl,by rw[len_num];omega⟩,?_⟩
 unfold numL
 refine compM (f:=fun n=>.int (wchN ws n)) (fun n hm Q' q'=>?_) ?_
 ·obtain⟨w,hw⟩:∃w,ws[n]?=some w:=⟨_,List.getElem?_eq_getElem (hb n hm)⟩
  decreasing_trivial
  rw[way_at hw]
  decreasing_trivial
  have e:wchN ws n=w.2.2:=by unfold wchN;rw[hw]
  rw[e] at q'
  exact q'
 ·unfold intsL chs at q
  rw[List.map_map] at q
  exact q
theorem ok_first_row (T:Txt K mg):FnOk P w K mg base CX0 1 T.f_first_row.a T.f_first_row.d ["table"] (spD [.bo] spFirstD):=by
 refine fn_d T.f_first_row.F sc_first_row rfl (fun C cdv A outer s H E hr=>⟨_,(dss_one (ds_ret (pd_tup (dv_cons (pd_f (pf_listv (pe_callTy call_list_of rfl T.n_list bt_list (pa_cons (pv 0) pa_nil se_Name) (he:=se_Name) (hpl:=np_nil)))) (dv_cons (pd_f (pf_rep (pd_f (pf_lst (dv_cons pd_non dv_nil se_Constant))) (pd_lenv (pe_callB call_len_seq rfl T.n_len bt_len (pa_cons (pv 0) pa_nil se_Name) (he:=se_Name) (hpl:=np_nil))))) dv_nil se_BinOp) se_Call)))),fun ds Q hl h=>?_⟩)
 obtain⟨t,rfl,hn,q⟩:=h
 decreasing_trivial
 refine⟨by decide,⟨by omega,by rw[len_tab];omega,by decide⟩,by decide,?_⟩
 unfold rowD at q
 rw[len_tab,show ((t.length:Nat):Int).toNat=t.length by simp,rep_rn]
 exact q
theorem ok_row_behind (T:Txt K mg):FnOk P w K mg base CX0 3 T.f_row_behind.a T.f_row_behind.d ["land", "store", "table", "stayed"] (spD [.sh,.sh,.sh,.sh] spRowD):=by
 have G_behind_way:=@ok_behind_way P w K mg base T
 have b_behind_way:=T.f_behind_way.b
 have G_is_more:=@ok_is_more P w K mg base T
 have b_is_more:=T.f_is_more.b
 refine fn_d T.f_row_behind.F sc_row_behind rfl (fun C cdv A outer s H E hr=>⟨_,(@dss_cons _ _ _ _ _ _ (ds_own (ps_set (i:=4) sc_row_behind.nd rfl (Or.inl rfl) (pf_listv (pe_callTy call_list_of rfl T.n_list bt_list (pa_cons (pv 3) pa_nil se_Name) (he:=se_Name) (hpl:=np_nil))))) (@dss_cons _ _ _ _ _ _ (ds_own (ps_set (i:=5) sc_row_behind.nd rfl (Or.inl rfl) (pf_rep (pd_f (pf_lst (dv_cons pd_non dv_nil se_Constant))) (pd_ixv (pv 0) (pd_gi (pe_glob (v:=V.int 0) rfl T.mg_MANY ⟨_,rfl⟩)) (fun _ _=>rfl))))) (@dss_cons _ _ _ _ _ _ (@ds_for _ _ _ _ _ _ (@ps_for _ _ _ _ _ _ _ _ PassesOwn.never rfl (di_enum (pi_enum rfl T.n_enumerate (pa_cons (pd_ixv (pv 0) (pd_gi (pe_glob (v:=V.int 1) rfl T.mg_WAYS ⟨_,rfl⟩)) (fun _ _=>rfl)) pa_nil se_Subscript))) (dg_t2 (pg_tup (n:=2) rfl (pgs_cons (pg_name (i:=6) sc_row_behind.nd rfl (Or.inl rfl)) (pgs_cons (pg_name (i:=7) sc_row_behind.nd rfl (Or.inl rfl)) pgs_nil)))) (@dss_cons _ _ _ _ _ _ (ds_set (ps_set (i:=8) sc_row_behind.nd rfl (Or.inl rfl) (pd_call (pe_call G_behind_way (hr.mono (by decide)) rfl T.f_behind_way.m T.f_behind_way.F.kp b_behind_way .nil pass0 (da_v (pd_var (pv 1)) (da_v (pd_var (pv 2)) (da_v (pd_var (pv 7)) da_nil se_Name) se_Name) se_Name) (he:=se_Name) (hpl:=(np_cons se_Name (np_cons se_Name np_nil))))))) (@dss_one _ _ _ _ (@ds_if _ _ _ _ _ _ _ _ _ (pdt_val (pd_call (pe_call G_is_more (hr.mono (by decide)) rfl T.f_is_more.m T.f_is_more.F.kp b_is_more .nil pass0 (da_v (pd_var (pv 8)) (da_v (pd_ixv (pv 4) (pd_ixv (pv 7) (pd_gi (pe_glob (v:=V.int 1) rfl T.mg_END ⟨_,rfl⟩)) (fun _ _=>rfl)) (fun _ _=>rfl)) da_nil se_Subscript) se_Name) (he:=se_Name) (hpl:=(np_cons se_Subscript np_nil))))) (dss_cons (ds_setI (ps_asg (pd_var (pv 8)) (pg_sub (pv 4) (pd_ixv (pv 7) (pd_gi (pe_glob (v:=V.int 1) rfl T.mg_END ⟨_,rfl⟩)) (fun _ _=>rfl)) set_list)))
   (dss_one (ds_setI (ps_asg (pd_var (pv 6)) (pg_sub (pv 5) (pd_ixv (pv 7) (pd_gi (pe_glob (v:=V.int 1) rfl T.mg_END ⟨_,rfl⟩)) (fun _ _=>rfl)) set_list))))) dss_nil))) (by intro _;rfl))) (dss_one (ds_ret (pd_tup (dv_cons (pd_var (pv 4)) (dv_cons (pd_var (pv 5)) dv_nil se_Name) se_Name))))))),fun ds Q hl h=>?_⟩)
 obtain⟨m,ws,st,t,s0,rfl,ok,ht,hs,q⟩:=h
 have m2:=ok.m2
 array_mem_dec
 refine⟨by decide,⟨by omega,by omega,by decide⟩,?_⟩
 rw[show ((m:Nat):Int).toNat=m by simp,rep_rn,enum_ways]
 refine⟨fun r ρ=>∃(R:List (Wy×Nat)) (acc:Tb×Rn) (z1 z2 z3:Sl),r=R.map (fun p=>.tuple [.int (p.2:Nat),wayD p.1])∧ρ=[Sl.sh (landD m ws),Sl.sh (.int st),Sl.sh (.list (tabL t)),Sl.sh (.list (tabL s0)),Sl.ow (tabL acc.1),Sl.ow (rnL acc.2),z1,z2,z3]∧acc.1.length=m∧acc.2.length=m∧(∀p∈R,p.1∈ws)∧R.foldl (rstep st t) acc=rowF m ws st t s0,
  ⟨ws.zipIdx,(s0,List.replicate m none),_,_,_,rfl,rfl,hs,by simp,fun p hp=>?_,rfl⟩,?_,?_⟩
 ·obtain⟨w,n⟩:=p
  rw[List.mem_zipIdx_iff_getElem?] at hp
  exact List.mem_of_getElem? hp
 ·rintro x r ρ ⟨R,acc,z1,z2,z3,h1,rfl,l1,l2,hR,hF⟩
  cases R with
  | nil=>cases h1
  | cons p R=>
   cases (show x::r=PyData.tuple [.int (p.2:Nat),wayD p.1]::R.map (fun p=>.tuple [.int (p.2:Nat),wayD p.1]) from h1)
   have hw:=hR p List.mem_cons_self
   have e1:=ok.en _ hw
   have hF':R.foldl (rstep st t) (rstep st t acc p)=rowF m ws st t s0:=hF
   sizeOf_list_dec
   refine⟨_,_,_,rfl,by rw[ht];exact ok.st _ hw,?_⟩
   unfold wayD
   decreasing_tactic
   rw[tab_at (by rw[l1];exact e1)]
   decreasing_tactic
   refine⟨_,_,rfl,?_⟩
   unfold rstep at hF'
   cases c:moreF (behF st t p.1) (gt acc.1 p.1.2.1) with
   | true=>
    rw[if_pos c] at hF'
    decreasing_tactic
    rw[ixN_nat (by rw[len_tab,l1];exact e1)]
    decreasing_tactic
    rw[ixN_nat (by rw[len_rn,l2];exact e1),set_tab]
    decreasing_tactic
    rw[set_rn]
    exact⟨R,_,_,_,_,rfl,rfl,by rw[List.length_set];exact l1,by rw[List.length_set];exact l2,fun p hp=>hR p (List.mem_cons_of_mem _ hp),hF'⟩
   | false=>
    rw[if_neg (by rw[c];exact Bool.false_ne_true)] at hF'
    decreasing_tactic
    exact⟨R,acc,_,_,_,rfl,rfl,l1,l2,fun p hp=>hR p (List.mem_cons_of_mem _ hp),hF'⟩
 ·rintro ρ ⟨R,acc,z1,z2,z3,h1,rfl,l1,l2,hR,hF⟩
  cases R with
  | cons p R=>cases h1
  | nil=>
   decreasing_tactic
   refine⟨by decide,?_⟩
   have hF':acc=rowF m ws st t s0:=hF
   rw[←hF'] at q
   exact q
theorem ok_walk_to (T:Txt K mg):FnOk P w K mg base CX0 1 T.f_walk_to.a T.f_walk_to.d ["land", "rows", "place"] (spD [.sh,.sh,.sh] spWalkD):=by
 refine fn_d T.f_walk_to.F sc_walk_to rfl (fun C cdv A outer s H E hr=>⟨_,(@dss_cons _ _ _ _ _ _ (ds_set (ps_set (i:=3) sc_walk_to.nd rfl (Or.inl rfl) (pd_var (pv 2)))) (@dss_cons _ _ _ _ _ _ (ds_own (ps_set (i:=4) sc_walk_to.nd rfl (Or.inl rfl) (pf_lst dv_nil))) (@dss_cons _ _ _ _ _ _ (@ds_for _ _ _ _ _ _ (@ps_for _ _ _ _ _ _ _ _ PassesOwn.never rfl (di_rev (pi_rev rfl T.n_reversed (pa_cons (pd_var (pv 1)) pa_nil se_Name))) (dg_name (pg_name (i:=5) sc_walk_to.nd rfl (Or.inl rfl))) (@dss_cons _ _ _ _ _ _ (ds_set (ps_set (i:=6) sc_walk_to.nd rfl (Or.inl rfl) (pd_ix (pd_ixv (pv 5) (pd_gi (pe_glob (v:=V.int 1) rfl T.mg_RISEN ⟨_,rfl⟩)) (fun _ _=>rfl)) (pd_var (pv 3)) (fun _ _=>rfl)))) (@dss_one _ _ _ _ (@ds_if _ _ _ _ _ _ _ _ _ (pdt_cmp op_notN ok_notN (pd_var (pv 6)) pd_non (nomark _)) (@dss_cons _ _ _ _ _ _ (ds_app (ps_expr (pe_bm PySem.F.plainAttrs_list PySem.F.slot_list_append PySem.F.type_list_append mt_append (pv 4) (pa_cons (pd_var (pv 6)) pa_nil se_Name)))) (dss_one (ds_set (ps_set (i:=3) sc_walk_to.nd rfl (Or.inl rfl) (pd_ix (pd_ix (pd_ixv (pv 0) (pd_gi (pe_glob (v:=V.int 1) rfl T.mg_WAYS ⟨_,rfl⟩)) (fun _ _=>rfl)) (pd_var (pv 6)) (fun _ _=>rfl)) (pd_gi (pe_glob (v:=V.int 0) rfl T.mg_START ⟨_,rfl⟩)) (fun _ _=>rfl)))))) dss_nil))) (by intro _;rfl))) (dss_one (ds_ret (pd_tup (dv_cons (pd_var (pv 3)) (dv_cons (pd_f (pf_lrev (pe_lrev rfl T.n_list rfl T.n_reversed rfl (pa_cons (pd_var (pv 4)) pa_nil se_Name)))) dv_nil se_Call) se_Name))))))),fun ds Q hl h=>?_⟩)
 obtain⟨m,ws,rs,p,rfl,hp,ok,hr2,hn,q⟩:=h
 array_mem_dec
 refine⟨by decide,?_⟩
 refine⟨fun r ρ=>∃(R:List Rw) (here:Nat) (acc:List Nat) (z1 z2:Sl),r=R.map rowD∧ρ=[Sl.sh (landD m ws),Sl.sh (.list (rs.map rowD)),Sl.sh (.int (p:Nat)),Sl.sh (.int (here:Nat)),Sl.ow (numL acc),z1,z2]∧here < m∧RowsOk m ws R∧acc.length + R.length≤rs.length∧wlk ws rs.reverse p=((wlk ws R here).1,(wlk ws R here).2++acc.reverse),
  ⟨rs.reverse,p,[],_,_,by rw[List.map_reverse],rfl,hp,fun r hr=>hr2 r (List.mem_reverse.mp hr),by simp,by simp⟩,?_,?_⟩
 ·rintro x r ρ ⟨R,here,acc,z1,z2,h1,rfl,hh,hR,hl2,hW⟩
  cases R with
  | nil=>cases h1
  | cons r0 R=>
   cases (show x::r=rowD r0::R.map rowD from h1)
   obtain⟨l0,b0⟩:=hR r0 List.mem_cons_self
   decreasing_trivial_pre_omega
   rw[rn_at (by rw[l0];exact hh)]
   cases c:gt r0.2 here with
   | none=>
    decreasing_trivial
    refine⟨R,here,acc,_,_,rfl,rfl,hh,fun r hr=>hR r (List.mem_cons_of_mem _ hr),by simp at hl2;omega,?_⟩
    rw[hW]
    have:wlk ws (r0::R) here=wlk ws R here:=by
     show (match gt r0.2 here with
      | none=>wlk ws R here
      | some n=>((wlk ws R (wstN ws n)).1,(wlk ws R (wstN ws n)).2++[n]))=_
     rw[c]
    rw[this]
   | some n=>
    have hn':=b0 here n c
    obtain⟨w,hw⟩:∃w,ws[n]?=some w:=⟨_,List.getElem?_eq_getElem hn'⟩
    decreasing_trivial
    refine⟨by rw[len_num];simp at hl2;omega,?_⟩
    rw[way_at hw]
    decreasing_trivial
    refine⟨R,w.1,acc++[n],_,_,rfl,by rw[show numL (acc++[n])=numL acc++[.int (n:Nat)] by unfold numL;simp],ok.st w (List.mem_of_getElem? hw),fun r hr=>hR r (List.mem_cons_of_mem _ hr),by simp at hl2 ⊢;omega,?_⟩
    ·rw[hW]
     have:wlk ws (r0::R) here=((wlk ws R w.1).1,(wlk ws R w.1).2++[n]):=by
      show (match gt r0.2 here with
       | none=>wlk ws R here
       | some n=>((wlk ws R (wstN ws n)).1,(wlk ws R (wstN ws n)).2++[n]))=_
      rw[c]
      have e:wstN ws n=w.1:=by unfold wstN;rw[hw]
      show ((wlk ws R (wstN ws n)).1,(wlk ws R (wstN ws n)).2++[n])=_
      rw[e]
     rw[this]
     simp
 ·rintro ρ ⟨R,here,acc,z1,z2,h1,rfl,hh,hR,hl2,hW⟩
  cases R with
  | cons p R=>cases h1
  | nil=>
   decreasing_tactic
   refine⟨by decide,?_⟩
   rw[hW] at q
   have e:(numL acc).reverse=numL acc.reverse:=by unfold numL;rw[List.map_reverse]
   rw[e]
   exact q
end
inductive Pth (ws:List Wy):Nat→List Nat→Nat→Prop
 | nil {p}:Pth ws p [] p
 | cons {n w ns q}:ws[n]?=some w→Pth ws w.2.1 ns q→Pth ws w.1 (n::ns) q
abbrev Pt:=List Nat×Int
inductive Trp (ws:List Wy):Nat→List Pt→Nat→Prop
 | nil {p}:Trp ws p [] p
 | cons {p q r pt ps}:Pth ws p pt.1 q→pt.1≠[]→1≤pt.2→pt.2≤1000000000000000000000000→(pt.2=1∨q=p)→Trp ws q ps r→Trp ws p (pt::ps) r
theorem Pth.app {ws:List Wy} {a b c:Nat} {xs ys:List Nat} (h1:Pth ws a xs b) (h2:Pth ws b ys c):Pth ws a (xs++ys) c:=by
 induction h1 with
 | nil=>exact h2
 | cons e _ ih=>exact .cons e (ih h2)
theorem Trp.app {ws:List Wy} {a b c:Nat} {xs ys:List Pt} (h1:Trp ws a xs b) (h2:Trp ws b ys c):Trp ws a (xs++ys) c:=by
 induction h1 with
 | nil=>exact h2
 | cons e1 e2 e3 e4 e5 _ ih=>exact .cons e1 e2 e3 e4 e5 (ih h2)
def prt (ns:List Nat):List Pt:=if ns.isEmpty then [] else [(ns,1)]
theorem prt_trp {ws:List Wy} {a b:Nat} {ns:List Nat} (h:Pth ws a ns b):Trp ws a (prt ns) b:=by
 cases h with
 | nil=>exact .nil
 | cons e t=>exact .cons (pt:=(_,1)) (.cons e t) (by simp) (show (1:Int)≤1 by decide) (show (1:Int)≤1000000000000000000000000 by decide) (.inl rfl) .nil
theorem Wk.pth {ws:List Wy} {st:Int} {b:Tb} {N:List Nat} {P:Nat→Nat} {L:Nat→Int} (W:Wk ws st b N P L) {i:Nat}:∀{j:Nat},i≤j→j≤N.length→Pth ws (P i) (My.seg N i j) (P j)
 | 0,h1,_=>by
  have:i=0:=by omega
  subst this
  rw[seg_nil];exact .nil
 | j + 1,h1,h2=>by
  by_cases e:i=j + 1
  ·subst e
   rw[seg_nil];exact .nil
  ·rw[seg_succ (by omega) (by omega)]
   obtain⟨w,hw,e1,e2,_⟩:=W.way j N[j] (List.getElem?_eq_getElem (by omega))
   refine (W.pth (i:=i) (j:=j) (by omega) (by omega)).app ?_
   rw[←e1,←e2]
   exact .cons hw .nil
theorem min0 (i j:Int):min (PyData.depth (.int i)) (PyData.depth (.int j))≤64:=by show min 0 0≤64;decide
theorem eqv_int (i j:Int):PyData.eqv (.int i) (.int j)=(i == j):=by rw[PyData.eqv]
def spBwD:DSp:=fun ds Q=>∃(m:Nat) (ws:List Wy) (p q:Nat) (ns:List Nat),ds=[landD m ws,.int (p:Nat),.list (numL ns)]∧Pth ws p ns q∧Q (.int (q:Nat))
def spBpD:DSp:=fun ds Q=>∃(m:Nat) (ws:List Wy) (p q:Nat) (pt:Pt),ds=[landD m ws,.int (p:Nat),partD pt]∧Pth ws p pt.1 q∧pt.1≠[]∧1≤pt.2∧pt.2≤1000000000000000000000000∧(pt.2=1∨q=p)∧Q (.int (q:Nat))
def spEndD:DSp:=fun ds Q=>∃(m:Nat) (ws:List Wy) (p q:Nat) (ps:List Pt),ds=[landD m ws,.int (p:Nat),.list (ps.map partD)]∧Trp ws p ps q∧Q (.int (q:Nat))
def spPartsD:DSp:=fun ds Q=>∃ns:List Nat,ds=[.list (numL ns)]∧Q (.list ((prt ns).map partD))
section
variable {P:Program} {w:World} {K:PySem.W.Frag} {mg:Str→Option Value} {base:Heap}
theorem ok_parts_by (T:Txt K mg):FnOk P w K mg base CX0 1 T.f_parts_by.a T.f_parts_by.d ["numbers"] (spD [.sh] spPartsD):=by
 refine fn_d T.f_parts_by.F sc_parts_by rfl (fun C cdv A outer s H E hr=>⟨_,(dss_one (ds_ret (pd_if (pdt_cmp op_gt ok_gt (pd_lenv (pe_callB call_len_seq rfl T.n_len bt_len (pa_cons (pv 0) pa_nil se_Name) (he:=se_Name) (hpl:=np_nil))) pd_int (nomark _)) (pd_f (pf_lst (dv_cons (pd_tup (dv_cons (pd_var (pv 0)) (dv_cons pd_int dv_nil se_Constant) se_Name)) dv_nil se_Tuple))) (pd_f (pf_lst dv_nil))))),fun ds Q hl h=>?_⟩)
 obtain⟨ns,rfl,q⟩:=h
 decreasing_trivial
 cases ns with
 | nil=>exact⟨by decide,q⟩
 | cons n ns=>
  have e:decide ((0:Int) < ((numL (n::ns)).length:Nat))=true:=by
   rw[len_num];exact decide_eq_true (by rw[List.length_cons];omega)
  rw[e]
  decreasing_trivial
  exact⟨by decide,by decide,q⟩
theorem ok_behind_ways (T:Txt K mg):FnOk P w K mg base CX0 3 T.f_behind_ways.a T.f_behind_ways.d ["land", "place", "numbers"] (spD [.sh,.sh,.sh] spBwD):=by
 have G_is_place:=@ok_is_place P w K mg base T
 have b_is_place:=T.f_is_place.b
 refine fn_d T.f_behind_ways.F sc_behind_ways rfl (fun C cdv A outer s H E hr=>⟨_,(@dss_cons _ _ _ _ _ _ (ds_set (ps_set (i:=3) sc_behind_ways.nd rfl (Or.inl rfl) (pd_var (pv 1)))) (@dss_cons _ _ _ _ _ _ (@ds_for _ _ _ _ _ _ (@ps_for _ _ _ _ _ _ _ _ PassesOwn.never rfl (di_var (pv 2)) (dg_name (pg_name (i:=4) sc_behind_ways.nd rfl (Or.inl rfl))) (@dss_cons _ _ _ _ _ _ (@ds_if _ _ _ _ _ _ _ _ _ (PW.pt (@pwd_or _ _ _ _ _ _ _ _ (@pdt_not _ _ _ _ _ (@pdt_val _ _ _ _ (@pd_call _ _ _ _ _ _ _ (@pe_call _ _ _ _ _ _ _ _ _ _ _ _ _ _ _ _ G_is_place (hr.mono (by decide)) rfl T.f_is_place.m T.f_is_place.F.kp b_is_place .nil pass0 (da_v (pd_cb cb_len (pe_callB call_len_seq rfl T.n_len bt_len (dv_cons (pd_ixv (pv 0) (pd_gi (pe_glob (v:=V.int 1) rfl T.mg_WAYS ⟨_,rfl⟩)) (fun _ _=>rfl)) dv_nil se_Subscript) (he:=se_Subscript) (hpl:=np_nil))) (da_v (pd_var (pv 4)) da_nil se_Name) se_Call) (by decide) se_Call ((np_cons se_Name np_nil)))) (by intro _;rfl))) (pwd_or1 (pdt_cmp (op_neD (units_of hr)) ok_eq (pd_ix (pd_ix (pd_ixv (pv 0) (pd_gi (pe_glob (v:=V.int 1) rfl T.mg_WAYS ⟨_,rfl⟩)) (fun _ _=>rfl)) (pd_var (pv 4)) (fun _ _=>rfl)) (pd_gi (pe_glob (v:=V.int 0) rfl T.mg_START ⟨_,rfl⟩)) (fun _ _=>rfl)) (pd_var (pv 3)) (nomark _))))) (dss_one (ds_ret pd_non)) dss_nil) (dss_one (ds_set (ps_set (i:=3) sc_behind_ways.nd rfl (Or.inl rfl) (pd_ix (pd_ix (pd_ixv (pv 0) (pd_gi (pe_glob (v:=V.int 1) rfl T.mg_WAYS ⟨_,rfl⟩)) (fun _ _=>rfl)) (pd_var (pv 4)) (fun _ _=>rfl)) (pd_gi (pe_glob (v:=V.int 1) rfl T.mg_END ⟨_,rfl⟩)) (fun _ _=>rfl)))))) (by intro _;rfl))) (dss_one (ds_ret (pd_var (pv 3)))))),fun ds Q hl h=>?_⟩)
 obtain⟨m,ws,p,q0,ns,rfl,hp,q⟩:=h
 array_mem_dec
 refine⟨fun r ρ=>∃(ns':List Nat) (p':Nat) (z:Sl),r=numL ns'∧ρ=[Sl.sh (landD m ws),Sl.sh (.int (p:Nat)),Sl.sh (.list (numL ns)),Sl.sh (.int (p':Nat)),z]∧Pth ws p' ns' q0,⟨ns,p,_,rfl,rfl,hp⟩,?_,?_⟩
 ·rintro x r ρ ⟨ns',p',z,h1,rfl,hp'⟩
  cases hp' with
  | nil=>cases h1
  | @cons n w ns' _ hw hp'=>
   cases (show x::r=PyData.int (n:Nat)::numL ns' from h1)
   have hn:=(List.getElem?_eq_some_iff.mp hw).1
   decreasing_trivial_pre_omega
   refine⟨_,_,rfl,?_⟩
   rw[List.length_map,decide_eq_true (show (0:Int)≤((n:Nat):Int)∧((n:Nat):Int) < ((ws.length:Nat):Int) from ⟨by omega,by omega⟩)]
   decreasing_trivial_pre_omega
   rw[way_at hw]
   decreasing_trivial
   refine⟨rfl,rfl,min0 _ _,?_⟩
   rw[eqv_int,beq_self_eq_true]
   decreasing_trivial
   exact⟨ns',w.2.1,_,rfl,rfl,hp'⟩
 ·rintro ρ ⟨ns',p',z,h1,rfl,hp'⟩
  cases hp' with
  | nil=>
   decreasing_tactic
   exact q
  | cons hw hp'=>cases h1
theorem ok_behind_part (T:Txt K mg):FnOk P w K mg base CX0 4 T.f_behind_part.a T.f_behind_part.d ["land", "place", "part"] (spD [.sh,.sh,.sh] spBpD):=by
 have G_behind_ways:=@ok_behind_ways P w K mg base T
 have b_behind_ways:=T.f_behind_ways.b
 refine fn_d T.f_behind_part.F sc_behind_part rfl (fun C cdv A outer s H E hr=>⟨_,(@dss_cons _ _ _ _ _ _ (@ds_if _ _ _ _ _ _ _ _ _ (PW.pt (@pwd_or _ _ _ _ _ _ _ _ (pdt_cmp (op_eqD (units_of hr)) ok_eq (pd_cb cb_len (pe_callB call_len_seq rfl T.n_len bt_len (dv_cons (pd_ixv (pv 2) (pd_gi (pe_glob (v:=V.int 0) rfl T.mg_NUMBERS ⟨_,rfl⟩)) (fun _ _=>rfl)) dv_nil se_Subscript) (he:=se_Subscript) (hpl:=np_nil))) pd_int (nomark _)) (pwd_or1 (pdt_not (pdt_chain op_le op_le pd_int (pd_ixv (pv 2) (pd_gi (pe_glob (v:=V.int 1) rfl T.mg_TIMES ⟨_,rfl⟩)) (fun _ _=>rfl)) (pd_op op_pow ok_pow pd_int pd_int)))))) (dss_one (ds_ret pd_non)) dss_nil) (@dss_cons _ _ _ _ _ _ (@ds_set _ _ _ _ _ (@ps_set _ _ 3 _ _ _ _ sc_behind_part.nd rfl (Or.inl rfl) (pd_call (pe_call G_behind_ways (hr.mono (by decide)) rfl T.f_behind_ways.m T.f_behind_ways.F.kp b_behind_ways .nil pass0 (da_v (pd_var (pv 0)) (da_v (pd_var (pv 1)) (da_v (pd_ixv (pv 2) (pd_gi (pe_glob (v:=V.int 0) rfl T.mg_NUMBERS ⟨_,rfl⟩)) (fun _ _=>rfl)) da_nil se_Subscript) se_Name) se_Name) (he:=se_Name) (hpl:=(np_cons se_Name (np_cons se_Subscript np_nil))))) (by rfl) (by first | exact .inl rfl | exact .inr rfl | assumption))) (dss_cons (ds_if (PW.pt (pwd_and (pdt_cmp op_gt ok_gt (pd_ixv (pv 2) (pd_gi (pe_glob (v:=V.int 1) rfl T.mg_TIMES ⟨_,rfl⟩)) (fun _ _=>rfl)) pd_int (nomark _)) (pwd_and1 (pdt_cmp (op_neD (units_of hr)) ok_eq (pd_var (pv 3)) (pd_var (pv 1)) (nomark _)))))
   (dss_one (ds_ret pd_non))
   dss_nil)
   (dss_one (ds_ret (pd_var (pv 3))))))),fun ds Q hl h=>?_⟩)
 obtain⟨m,ws,p,q0,⟨ns,t⟩,rfl,hp,hne,t1,t2,ht,q⟩:=h
 simp only at hp hne t1 t2 ht
 decreasing_trivial
 refine⟨rfl,rfl,min0 _ _,?_⟩
 have hl0:PyData.eqv (.int ((numL ns).length:Nat)) (.int 0)=false:=by
  rw[eqv_int,len_num]
  cases ns with
  | nil=>exact absurd rfl hne
  | cons n r=>exact beq_eq_false_iff_ne.mpr (by simp;omega)
 rw[hl0]
 decreasing_trivial
 rw[decide_eq_true (show (1:Int)≤t from t1)]
 decreasing_trivial
 refine⟨⟨by decide,by decide,by decide⟩,?_⟩
 rw[decide_eq_true (show t≤(10:Int) ^ (24:Int).toNat from t2)]
 decreasing_trivial
 refine⟨_,_,_,_,_,rfl,hp,?_⟩
 decreasing_trivial
 rcases ht with ht | ht
 ·rw[decide_eq_false (show ¬ (1:Int) < t by omega)]
  decreasing_trivial
  exact q
 ·subst ht
  by_cases c:(1:Int) < t
  ·rw[decide_eq_true c]
   decreasing_trivial
   refine⟨rfl,rfl,min0 _ _,?_⟩
   rw[eqv_int,beq_self_eq_true]
   decreasing_trivial
   exact q
  ·rw[decide_eq_false c]
   decreasing_trivial
   exact q
theorem ok_end_of (T:Txt K mg):FnOk P w K mg base CX0 5 T.f_end_of.a T.f_end_of.d ["land", "place", "trip"] (spD [.sh,.sh,.sh] spEndD):=by
 have G_behind_part:=@ok_behind_part P w K mg base T
 have b_behind_part:=T.f_behind_part.b
 refine fn_d T.f_end_of.F sc_end_of rfl (fun C cdv A outer s H E hr=>⟨_,(@dss_cons _ _ _ _ _ _ (ds_set (ps_set (i:=3) sc_end_of.nd rfl (Or.inl rfl) (pd_var (pv 1)))) (@dss_cons _ _ _ _ _ _ (@ds_for _ _ _ _ _ _ (@ps_for _ _ _ _ _ _ _ _ PassesOwn.never rfl (di_enum (pi_enum rfl T.n_enumerate (pa_cons (pd_var (pv 2)) pa_nil se_Name))) (dg_t2 (pg_tup (n:=2) rfl (pgs_cons (pg_name (i:=4) sc_end_of.nd rfl (Or.inl rfl)) (pgs_cons (pg_name (i:=5) sc_end_of.nd rfl (Or.inl rfl)) pgs_nil)))) (@dss_cons _ _ _ _ _ _ (ds_set (ps_set (i:=3) sc_end_of.nd rfl (Or.inl rfl) (pd_call (pe_call G_behind_part (hr.mono (by decide)) rfl T.f_behind_part.m T.f_behind_part.F.kp b_behind_part .nil pass0 (da_v (pd_var (pv 0)) (da_v (pd_var (pv 3)) (da_v (pd_var (pv 5)) da_nil se_Name) se_Name) se_Name) (he:=se_Name) (hpl:=(np_cons se_Name (np_cons se_Name np_nil))))))) (dss_one (ds_if (pdt_cmp op_isN ok_isN (pd_var (pv 3)) pd_non (nomark _))
   (dss_one ds_no)
   dss_nil))) (by intro _;rfl))) (dss_one (ds_ret (pd_var (pv 3)))))),fun ds Q hl h=>?_⟩)
 obtain⟨m,ws,p,q0,ps,rfl,hp,q⟩:=h
 array_mem_dec
 have e0:enumD (ps.map partD)=ps.zipIdx.map fun p=>.tuple [.int (p.2:Nat),partD p.1]:=by
  unfold enumD
  rw[List.zipIdx_map,List.map_map]
  rfl
 rw[e0]
 refine⟨fun r ρ=>∃(ps':List (Pt×Nat)) (p':Nat) (z1 z2:Sl),r=ps'.map (fun p=>.tuple [.int (p.2:Nat),partD p.1])∧ρ=[Sl.sh (landD m ws),Sl.sh (.int (p:Nat)),Sl.sh (.list (ps.map partD)),Sl.sh (.int (p':Nat)),z1,z2]∧Trp ws p' (ps'.map (·.1)) q0,⟨ps.zipIdx,p,_,_,rfl,rfl,by rw[show ps.zipIdx.map (·.1)=ps by simp];exact hp⟩,?_,?_⟩
 ·rintro x r ρ ⟨ps',p',z1,z2,h1,rfl,hp'⟩
  cases ps' with
  | nil=>cases h1
  | cons a ps'=>
   cases (show x::r=PyData.tuple [.int (a.2:Nat),partD a.1]::ps'.map (fun p=>.tuple [.int (p.2:Nat),partD p.1]) from h1)
   have hp2:Trp ws p' (a.1::ps'.map (·.1)) q0:=hp'
   cases hp2 with
   | cons e1 e2 e3 e4 e5 e6=>
    sizeOf_list_dec
    refine⟨_,_,_,_,_,rfl,e1,e2,e3,e4,e5,?_⟩
    decreasing_tactic
    exact⟨ps',_,_,_,rfl,rfl,e6⟩
 ·rintro ρ ⟨ps',p',z1,z2,h1,rfl,hp'⟩
  cases ps' with
  | cons a ps'=>cases h1
  | nil=>
   cases hp'
   decreasing_tactic
   exact q
end
theorem eqv_o (a b:Option Int):PyData.eqv (oD a) (oD b)=decide (a=b):=by
 cases a with
 | none=>cases b with
  | none=>rfl
  | some y=>rfl
 | some x=>cases b with
  | none=>rfl
  | some y=>
   show PyData.eqv (.int x) (.int y)=_
   rw[eqv_int]
   by_cases h:x=y
   ·subst h;simp
   ·simp [h]
theorem eqvAll_tab:∀a b:Tb,PyData.eqvAll (tabL a) (tabL b)=decide (a=b)
 | [],[]=>rfl
 | [],_::_=>rfl
 | _::_,[]=>rfl
 | x::a,y::b=>by
  show PyData.eqvAll (oD x::tabL a) (oD y::tabL b)=_
  rw[PyData.eqvAll,eqv_o,eqvAll_tab a b]
  by_cases h:x=y
  ·subst h;simp
  ·simp [h]
theorem eqv_tab (a b:Tb):PyData.eqv (.list (tabL a)) (.list (tabL b))=decide (a=b):=by rw[PyData.eqv];exact eqvAll_tab a b
theorem layAll_tab:∀t:Tb,PyData.canLayAll0 (tabL t)=true
 | []=>rfl
 | x::t=>by
  show (PyData.canLay0 (oD x)&&PyData.canLayAll0 (tabL t))=true
  rw[layAll_tab t]
  cases x <;> rfl
theorem lay_tab (t:Tb):PyData.canLay0 (.list (tabL t))=true:=by rw[PyData.canLay0];exact layAll_tab t
theorem depAll_tab:∀t:Tb,PyData.depthAll (tabL t)=0
 | []=>rfl
 | x::t=>by
  show max (PyData.depth (oD x)) (PyData.depthAll (tabL t))=0
  rw[depAll_tab t]
  cases x <;> rfl
theorem dep_tab (t:Tb):PyData.depth (.list (tabL t))=1:=by
 show PyData.depthAll (tabL t) + 1=1
 rw[depAll_tab]
def spRowsD:DSp:=fun ds Q=>∃(m:Nat) (ws:List Wy) (st:Int) (t:Tb),ds=[landD m ws,.int st,.list (tabL t)]∧LandOk m ws∧t.length=m∧Q (.list ((rowsF m ws st m (t,List.replicate m none)).map rowD))
def spStillD:DSp:=fun ds Q=>∃(m:Nat) (ws:List Wy) (rs:List Rw),ds=[landD m ws,.list (rs.map rowD)]∧Q (.bool (decide (m < rs.length)))
def spRiseD:DSp:=fun ds Q=>∃(m:Nat) (ws:List Wy) (rs:List Rw) (r:Rw),ds=[landD m ws,.list (rs.map rowD)]∧LandOk m ws∧RowsOk m ws rs∧rs.length≤900∧rs.getLast?=some r∧(∃p n,gt r.2 p=some n)∧
 ∀p n,p < m→gt r.2 p=some n→Q (.tuple [.int ((wlk ws rs.reverse p).1:Nat),.list (numL (wlk ws rs.reverse p).2)])
def walkD (p:Nat) (N:List Nat):PyData:=.tuple [.int (p:Nat),.list (numL N)]
def spPartedD:DSp:=fun ds Q=>∃(m:Nat) (ws:List Wy) (st:Int) (b:Tb) (N:List Nat) (P:Nat→Nat) (L:Nat→Int),ds=[landD m ws,walkD (P 0) N]∧LandOk m ws∧TabOk m st b∧Wk ws st b N P L∧N.length=m∧
 ∀i j,i < j→j≤m→P i=P j→Q (.tuple [.list (numL (seg N 0 i)),.list (numL (seg N i j))])
theorem last_map {α β:Type} {f:α→β} {xs:List α} {x:α} (h:xs.getLast?=some x):(xs.map f).getLast?=some (f x):=by
 obtain⟨ys,rfl⟩:=List.getLast?_eq_some_iff.mp h
 simp
theorem Wk.places {ws:List Wy} {st:Int} {b:Tb} {N:List Nat} {P:Nat→Nat} {L:Nat→Int} (W:Wk ws st b N P L):[P 0]++N.map (wenN ws)=(List.range (N.length + 1)).map P:=by
 apply List.ext_getElem?
 intro k
 cases k with
 | zero=>simp
 | succ k=>
  rw[List.getElem?_append_right (by simp),List.getElem?_map,List.getElem?_map]
  by_cases h:k < N.length
  ·rw[List.getElem?_range (by omega)]
   show (N[k]?).map (wenN ws)=some (P (k + 1))
   obtain⟨w,hw,_,e,_⟩:=W.way k N[k] (List.getElem?_eq_getElem h)
   rw[List.getElem?_eq_getElem h]
   show some (wenN ws N[k])=_
   unfold wenN
   rw[hw,←e]
  ·rw[List.getElem?_eq_none (l:=List.range _) (by rw[List.length_range];omega)]
   show (N[k]?).map (wenN ws)=none
   rw[List.getElem?_eq_none (by omega)]
   rfl
section
variable {P:Program} {w:World} {K:PySem.W.Frag} {mg:Str→Option Value} {base:Heap}
theorem ok_rows_from (T:Txt K mg):FnOk P w K mg base CX0 4 T.f_rows_from.a T.f_rows_from.d ["land", "store", "table"] (spD [.sh,.sh,.bo] spRowsD):=by
 have G_first_row:=@ok_first_row P w K mg base T
 have b_first_row:=T.f_first_row.b
 have G_row_behind:=@ok_row_behind P w K mg base T
 have b_row_behind:=T.f_row_behind.b
 refine fn_d T.f_rows_from.F sc_rows_from rfl (fun C cdv A outer s H E hr=>⟨_,(@dss_cons _ _ _ _ _ _ (ds_own (ps_set (i:=3) sc_rows_from.nd rfl (Or.inl rfl) (pf_lst dv_nil))) (@dss_cons _ _ _ _ _ _ (ds_set (ps_set (i:=4) sc_rows_from.nd rfl (Or.inl rfl) (pd_call (pe_call G_first_row (hr.mono (by decide)) rfl T.f_first_row.m T.f_first_row.F.kp b_first_row .nil pass0 (da_s (pv 2) da_nil se_Name) (he:=se_Name) (hpl:=np_nil))))) (@dss_cons _ _ _ _ _ _ (@ds_while _ _ _ _ _ (@ps_while _ _ _ _ _ _ PassesOwn.never (pdt_cmp op_lt ok_lt (pd_lenv (pe_callB call_len_seq rfl T.n_len bt_len (pa_cons (pv 3) pa_nil se_Name) (he:=se_Name) (hpl:=np_nil))) (pd_ixv (pv 0) (pd_gi (pe_glob (v:=V.int 0) rfl T.mg_MANY ⟨_,rfl⟩)) (fun _ _=>rfl)) (nomark _)) (@dss_cons _ _ _ _ _ _ (ds_app (ps_expr (pe_bm PySem.F.plainAttrs_list PySem.F.slot_list_append PySem.F.type_list_append mt_append (pv 3) (pa_cons (pd_var (pv 4)) pa_nil se_Name)))) (@dss_cons _ _ _ _ _ _ (@ds_set _ _ _ _ _ (@ps_set _ _ 4 _ _ _ _ sc_rows_from.nd rfl (Or.inl rfl) (@pd_call _ _ _ _ _ _ _ (@pe_call _ _ _ _ _ _ _ _ _ _ _ _ _ _ _ _ G_row_behind (hr.mono (by decide)) rfl T.f_row_behind.m T.f_row_behind.F.kp b_row_behind .nil pass0 (da_v (pd_var (pv 0)) (da_v (pd_var (pv 1)) (da_v (pd_ixv (pv 4) (pd_gi (pe_glob (v:=V.int 0) rfl T.mg_TABLE ⟨_,rfl⟩)) (fun _ _=>rfl)) (da_v (pd_ixv (pv 4) (pd_gi (pe_glob (v:=V.int 0) rfl T.mg_TABLE ⟨_,rfl⟩)) (fun _ _=>rfl)) da_nil se_Subscript) se_Subscript) se_Name) se_Name) (by decide) se_Name ((np_cons se_Name (np_cons se_Subscript (np_cons se_Subscript np_nil)))))) (by rfl) (by first | exact .inl rfl | exact .inr rfl | assumption))) (dss_one (ds_if (pdt_cmp (op_eqD (units_of hr)) ok_eq (pd_ixv (pv 4) (pd_gi (pe_glob (v:=V.int 0) rfl T.mg_TABLE ⟨_,rfl⟩)) (fun _ _=>rfl)) (pd_ix (pd_ixv (pv 3) (pd_neg pd_int) (fun _ _=>rfl)) (pd_gi (pe_glob (v:=V.int 0) rfl T.mg_TABLE ⟨_,rfl⟩)) (fun _ _=>rfl)) (nomark _))
   (dss_one (ds_ret (pd_var (pv 3))))
   dss_nil)))))) (dss_cons (ds_app (ps_expr (pe_bm PySem.F.plainAttrs_list PySem.F.slot_list_append PySem.F.type_list_append mt_append (pv 3) (pa_cons (pd_var (pv 4)) pa_nil se_Name))))
   (dss_one (ds_ret (pd_var (pv 3)))))))),fun ds Q hl h=>?_⟩)
 obtain⟨m,ws,st,t,rfl,ok,ht,q⟩:=h
 have m2:=ok.m2
 decreasing_tactic
 refine⟨by decide,rfl,t,rfl,by omega,?_⟩
 unfold dWhile
 refine⟨fun μ ρ=>∃(rs:List Rw) (r:Rw),ρ=[Sl.sh (landD m ws),Sl.sh (.int st),Sl.bo (tabL t),Sl.ow (rs.map rowD),Sl.sh (rowD r)]∧rs.length + μ=m∧r.1.length=m∧rs++rowsF m ws st μ r=rowsF m ws st m (t,List.replicate m none),⟨m,[],(t,List.replicate t.length none),rfl,by simp,ht,by rw[ht];rfl⟩,?_⟩
 rintro μ ρ ⟨rs,r,rfl,h1,h2,h3⟩
 decreasing_trivial
 rw[List.length_map]
 cases μ with
 | zero=>
  rw[decide_eq_false (by omega)]
  decreasing_trivial
  refine⟨by omega,?_⟩
  have e:rs++[r]=rowsF m ws st m (t,List.replicate m none):=h3
  rw[←e,List.map_append] at q
  exact q
 | succ μ=>
  rw[decide_eq_true (by omega)]
  decreasing_trivial_pre_omega
  refine⟨by rw[List.length_map];omega,?_⟩
  refine⟨m,ws,st,r.1,r.1,rfl,ok,h2,h2,?_⟩
  decreasing_trivial
  rw[show -(1:Int)=-1 from rfl,atI_last]
  decreasing_trivial
  refine⟨lay_tab _,lay_tab _,by rw[dep_tab,dep_tab];decide,?_⟩
  rw[eqv_tab]
  by_cases c:(rowF m ws st r.1 r.1).1=r.1
  ·rw[decide_eq_true c]
   decreasing_trivial
   have e:rs++[r]=rowsF m ws st m (t,List.replicate m none):=by rw[←h3,rowsF,if_pos c]
   rw[←e,List.map_append] at q
   exact q
  ·rw[decide_eq_false c]
   decreasing_trivial
   refine⟨μ,by omega,rs++[r],rowF m ws st r.1 r.1,by rw[List.map_append];rfl,by simp;omega,(row_ok (st:=st) (t:=r.1) ok h2).l1,?_⟩
   rw[←h3,rowsF,if_neg c]
   simp
theorem ok_still_rises (T:Txt K mg):FnOk P w K mg base CX0 1 T.f_still_rises.a T.f_still_rises.d ["land", "rows"] (spD [.sh,.sh] spStillD):=by
 refine fn_d T.f_still_rises.F sc_still_rises rfl (fun C cdv A outer s H E hr=>⟨_,(dss_one (ds_ret (pd_cmp op_gt ok_gt (pd_lenv (pe_callB call_len_seq rfl T.n_len bt_len (pa_cons (pv 1) pa_nil se_Name) (he:=se_Name) (hpl:=np_nil))) (pd_ixv (pv 0) (pd_gi (pe_glob (v:=V.int 0) rfl T.mg_MANY ⟨_,rfl⟩)) (fun _ _=>rfl)) (nomark _)))),fun ds Q hl h=>?_⟩)
 obtain⟨m,ws,rs,rfl,q⟩:=h
 decreasing_trivial
 rw[List.length_map]
 rw[show decide (((m:Nat):Int) < ((rs.length:Nat):Int))=decide (m < rs.length) by by_cases c:m < rs.length <;> simp [c]]
 exact q
theorem ok_rising_walk (T:Txt K mg):FnOk P w K mg base CX0 2 T.f_rising_walk.a T.f_rising_walk.d ["land", "rows"] (spD [.sh,.sh] spRiseD):=by
 have G_walk_to:=@ok_walk_to P w K mg base T
 have b_walk_to:=T.f_walk_to.b
 refine fn_d T.f_rising_walk.F sc_rising_walk rfl (fun C cdv A outer s H E hr=>⟨_,(@dss_cons _ _ _ _ _ _ (ds_set (ps_set (i:=2) sc_rising_walk.nd rfl (Or.inr rfl) (pd_ix (pd_ixv (pv 1) (pd_neg pd_int) (fun _ _=>rfl)) (pd_gi (pe_glob (v:=V.int 1) rfl T.mg_RISEN ⟨_,rfl⟩)) (fun _ _=>rfl)))) (@dss_one _ _ _ _ (@ds_ret _ _ _ _ _ (@pd_call _ _ _ _ _ _ _ (@pe_call _ _ _ _ _ _ _ _ _ _ _ _ _ _ _ _ G_walk_to (hr.mono (by decide)) rfl T.f_walk_to.m T.f_walk_to.F.kp b_walk_to .nil pass0 (@da_v _ _ _ _ _ _ (pd_var (pv 0)) (@da_v _ _ _ _ _ _ (pd_var (pv 1)) (@da_v _ _ _ _ _ _ (@pd_ix _ _ _ _ _ _ _ (@pd_f _ _ _ _ (@pf_comp _ _ _ _ _ _ _ _ rfl (pe_comp (CompSc.new (N:=["land", "rows", "last"]) (osc:=defScope s_rising_walk) (by decide +kernel)) rfl (di_rng1 (pi_range1 rfl T.n_range (dv_cons (pd_ixv (pv 0) (pd_gi (pe_glob (v:=V.int 0) rfl T.mg_MANY ⟨_,rfl⟩)) (fun _ _=>rfl)) dv_nil se_Subscript))) (fun _=>(pts_one (pdt_cmp op_notN ok_notN (pd_ixv (pv 2) (pd_var (pv 3)) (fun _ _=>rfl)) pd_non (nomark _)))) (fun _=>(pd_var (pv 3)))))) pd_int (fun _ _=>rfl)) da_nil se_Subscript) se_Name) se_Name) (by decide) se_Name ((np_cons se_Name (np_cons se_Subscript np_nil)))))))),fun ds Q hl h=>?_⟩)
 obtain⟨m,ws,rs,r,rfl,ok,hR,hn,hl2,⟨p0,n0,hp0⟩,q⟩:=h
 have m2:=ok.m2
 have hr0:=hR r (List.mem_of_getLast? hl2)
 array_mem_dec
 rw[show -(1:Int)=-1 from rfl,atI_last1 (last_map hl2)]
 array_mem_dec
 refine⟨⟨by omega,by omega⟩,⟨rfl,by unfold rngD;rw[List.length_map,List.length_range];omega⟩,?_⟩
 unfold rngD
 rw[show ((m:Nat):Int).toNat=m by simp]
 refine compF (p:=fun i=>(gt r.2 i).isSome) (f:=fun i=>.int (0 + ((i:Nat):Int))) (fun i hi Q' q'=>?_) (fun i hi _ Q' q'=>?_) ?_
 ·decreasing_tactic
  rw[show (0:Int) + ((i:Nat):Int)=((i:Nat):Int) by omega] at q' ⊢
  rw[rn_at (by rw[hr0.1];exact List.mem_range.mp hi)]
  decreasing_tactic
  cases c:gt r.2 i with
  | none=>rw[c] at q';exact q'
  | some n=>rw[c] at q';exact q'
 ·exact q'
 ·have hp0m:p0 < m:=by
   by_cases h:p0 < m
   ·exact h
   ·rw[gt_out (by rw[hr0.1];omega)] at hp0;cases hp0
  have hmem:p0∈(List.range m).filter fun i=>(gt r.2 i).isSome:=List.mem_filter.mpr ⟨List.mem_range.mpr hp0m,by rw[hp0];rfl⟩
  cases hf:(List.range m).filter fun i=>(gt r.2 i).isSome with
  | nil=>rw[hf] at hmem;cases hmem
  | cons p ps=>
   have hpm:p∈(List.range m).filter fun i=>(gt r.2 i).isSome:=by rw[hf];exact List.mem_cons_self
   obtain⟨h1,h2⟩:=List.mem_filter.mp hpm
   obtain⟨n,hn'⟩:=Option.isSome_iff_exists.mp h2
   rw[List.nil_append,List.map_cons,atI_0]
   decreasing_tactic
   refine⟨m,ws,rs,p,by rw[show (0:Int) + ((p:Nat):Int)=((p:Nat):Int) by omega];rfl,List.mem_range.mp h1,ok,hR,hn,q p n (List.mem_range.mp h1) hn'⟩
end
theorem plist_nodup {P:Nat→Nat}:∀k:Nat,(∀i j,i < j→j < k→P i≠P j)→((List.range k).map P).Nodup
 | 0,_=>List.nodup_nil
 | k + 1,h=>by
  rw[List.range_succ,List.map_append,List.nodup_append]
  refine⟨plist_nodup k fun i j h1 h2=>h i j h1 (by omega),by simp,fun a ha b hb=>?_⟩
  obtain⟨i,hi,rfl⟩:=List.mem_map.mp ha
  have:b=P k:=by simpa using hb
  subst this
  exact h i k (List.mem_range.mp hi) (by omega)
def plI (P:Nat→Nat) (n:Nat):List Int:=((List.range n).map P).map fun p=>((p:Nat):Int)
theorem plI_mem {P:Nat→Nat} {n:Nat} {x:Nat}:((x:Nat):Int)∈plI P n↔∃i,i < n∧P i=x:=by
 unfold plI
 constructor
 ·intro h
  obtain⟨y,hy,e⟩:=List.mem_map.mp h
  obtain⟨i,hi,rfl⟩:=List.mem_map.mp hy
  exact⟨i,List.mem_range.mp hi,by omega⟩
 ·rintro ⟨i,hi,rfl⟩
  exact List.mem_map.mpr ⟨P i,List.mem_map.mpr ⟨i,List.mem_range.mpr hi,rfl⟩,rfl⟩
theorem num_plI {P:Nat→Nat} {n:Nat}:numL ((List.range n).map P)=(plI P n).map PyData.int:=by
 simp only[numL,plI,List.map_map]
 rfl
theorem plI_len {P:Nat→Nat} {n:Nat}:(plI P n).length=n:=by unfold plI;rw[List.length_map,List.length_map,List.length_range]
theorem plI_idx {P:Nat→Nat} {n:Nat} {x:Nat} (h:((x:Nat):Int)∈plI P n):(plI P n).idxOf ((x:Nat):Int) < n∧P ((plI P n).idxOf ((x:Nat):Int))=x:=by
 have h1:=List.idxOf_lt_length_iff.mpr h
 have h2:=List.getElem_idxOf h1
 rw[plI_len] at h1
 refine⟨h1,?_⟩
 have hx:∀i (h:i < (plI P n).length),(plI P n)[i]=((P i:Nat):Int):=fun i h=>by simp [plI]
 rw[hx] at h2
 omega
section
variable {P:Program} {w:World} {K:PySem.W.Frag} {mg:Str→Option Value} {base:Heap}
theorem ok_parted_at_round (T:Txt K mg):FnOk P w K mg base CX0 1 T.f_parted_at_round.a T.f_parted_at_round.d ["land", "walk"] (spD [.sh,.sh] spPartedD):=by
 refine fn_d T.f_parted_at_round.F sc_parted_at_round rfl (fun C cdv A outer s H E hr=>⟨_,(@dss_cons _ _ _ _ _ _ (@ds_set _ _ _ _ _ (@ps_set _ _ 2 _ _ _ _ sc_parted_at_round.nd rfl (Or.inl rfl) (@pd_f _ _ _ _ (@pf_cat _ _ _ _ _ _ _ (pd_f (pf_lst (dv_cons (pd_ixv (pv 1) (pd_gi (pe_glob (v:=V.int 0) rfl T.mg_FROM ⟨_,rfl⟩)) (fun _ _=>rfl)) dv_nil se_Subscript))) (@pd_f _ _ _ _ (@pf_comp _ _ _ _ _ _ _ _ rfl (@pe_comp _ _ _ _ _ _ _ _ _ _ _ _ _ _ _ (CompSc.new (N:=["land", "walk", "places", "end", "begin"]) (osc:=defScope s_parted_at_round) (by decide +kernel)) rfl (di_list (pd_ixv (pv 1) (pd_gi (pe_glob (v:=V.int 1) rfl T.mg_BY ⟨_,rfl⟩)) (fun _ _=>rfl))) (fun _=>dts_nil) (fun _=>(pd_ix (pd_ix (pd_ixv (pv 0) (pd_gi (pe_glob (v:=V.int 1) rfl T.mg_WAYS ⟨_,rfl⟩)) (fun _ _=>rfl)) (pd_var (pv 5)) (fun _ _=>rfl)) (pd_gi (pe_glob (v:=V.int 1) rfl T.mg_END ⟨_,rfl⟩)) (fun _ _=>rfl))) (by rfl) (by rfl) (by intro _;rfl)))))) (by rfl) (by first | exact .inl rfl | exact .inr rfl | assumption))) (@dss_cons _ _ _ _ _ _ (ds_set (ps_set (i:=3) sc_parted_at_round.nd rfl (Or.inl rfl) pd_int)) (@dss_cons _ _ _ _ _ _ (ds_while (ps_while PassesOwn.never (pdt_cmp op_notIn_seq ok_in (pd_ixv (pv 2) (pd_var (pv 3)) (fun _ _=>rfl)) (pd_f (pf_slv (pv 2) do_n (do_s (pd_var (pv 3))))) (by with_unfolding_all rfl))
   (dss_one (ds_set (ps_set (i:=3) sc_parted_at_round.nd rfl (Or.inl rfl) (pd_op op_add ok_add (pd_var (pv 3)) pd_int)))))) (@dss_cons _ _ _ _ _ _ (ds_set (ps_set (i:=4) sc_parted_at_round.nd rfl (Or.inl rfl) (pd_indexv (pe_bm PySem.F.plainAttrs_list PySem.F.slot_list_index PySem.F.type_list_index mt_index (pv 2) (pa_cons (pd_ixv (pv 2) (pd_var (pv 3)) (fun _ _=>rfl)) pa_nil se_Subscript))))) (dss_one (ds_ret (pd_tup (dv_cons (pd_f (pf_sl (pd_ixv (pv 1) (pd_gi (pe_glob (v:=V.int 1) rfl T.mg_BY ⟨_,rfl⟩)) (fun _ _=>rfl)) do_n (do_s (pd_var (pv 4))))) (dv_cons (pd_f (pf_sl (pd_ixv (pv 1) (pd_gi (pe_glob (v:=V.int 1) rfl T.mg_BY ⟨_,rfl⟩)) (fun _ _=>rfl)) (do_s (pd_var (pv 4))) (do_s (pd_var (pv 3))))) dv_nil se_Subscript) se_Subscript)))))))),fun ds Q hl h=>?_⟩)
 obtain⟨m,ws,st,b,N,PP,L,rfl,ok,hb,W,hN,q⟩:=h
 have m2:=ok.m2
 have hpl:∀k,k≤m→PP k < m:=fun k hk=>W.pl ok hb k (by omega)
 unfold walkD
 array_mem_dec
 refine⟨by decide,⟨rfl,by rw[len_num];omega⟩,?_⟩
 unfold numL
 refine compM (f:=fun n=>.int (wenN ws n:Nat)) (fun n hm Q' q'=>?_) ?_
 ·obtain⟨k,hk,rfl⟩:=List.mem_iff_getElem.mp hm
  obtain⟨w,hw,_,e,_⟩:=W.way k N[k] (List.getElem?_eq_getElem hk)
  decreasing_trivial
  rw[way_at hw]
  decreasing_trivial
  have e2:wenN ws N[k]=w.2.1:=by unfold wenN;rw[hw]
  rw[e2] at q'
  exact q'
 ·decreasing_tactic
  refine⟨by rw[List.length_map];omega,?_⟩
  have epl:PyData.int ((PP 0:Nat):Int)::N.map (fun n=>PyData.int ((wenN ws n:Nat):Int))=(plI PP (m + 1)).map PyData.int:=by
   have:=W.places
   rw[hN] at this
   rw[←num_plI,←this]
   unfold numL
   rw[List.map_append,List.map_map]
   rfl
  rw[epl]
  unfold dWhile
  refine⟨fun μ ρ=>∃(k:Nat) (z:Sl),ρ=[Sl.sh (landD m ws),Sl.sh (walkD (PP 0) N),Sl.sh (.list ((plI PP (m + 1)).map PyData.int)),Sl.sh (.int (k:Nat)),z]∧1≤k∧k≤m∧μ + k=m∧∀i j,i < j→j < k→PP i≠PP j,⟨m - 1,1,_,rfl,by omega,ok.m1,by have:=ok.m1;omega,fun i j h1 h2=>by omega⟩,?_⟩
  rintro μ ρ ⟨k,z,rfl,k1,k2,hμ,hd⟩
  decreasing_trivial
  have eat:atI ((plI PP (m + 1)).map PyData.int) ((k:Nat):Int)=some (.int ((PP k:Nat):Int)):=atI_nat (by
   unfold plI
   rw[List.map_map,List.getElem?_map,List.getElem?_map,List.getElem?_range (by omega)]
   rfl)
  have ecut:cutD ((plI PP (m + 1)).map PyData.int) none (some ((k:Nat):Int))=(plI PP k).map PyData.int:=by
   rw[cut_to,←List.map_take]
   congr 1
   unfold plI
   rw[←List.map_take,←List.map_take,List.take_range,Nat.min_eq_left (by omega)]
  rw[eat]
  decreasing_trivial
  rw[ecut,intsD_map]
  decreasing_trivial
  by_cases c:((PP k:Nat):Int)∈plI PP k
  ·rw[show (!(plI PP k).contains ((PP k:Nat):Int))=false by simp [c]]
   decreasing_trivial
   rw[intsD_map]
   decreasing_trivial
   have hc2:((PP k:Nat):Int)∈plI PP (m + 1):=plI_mem.mpr ⟨k,by omega,rfl⟩
   refine⟨⟨hc2,by rw[plI_len];omega⟩,?_⟩
   obtain⟨i0,hi0,ei0⟩:=plI_mem.mp c
   obtain⟨hi1,hi2⟩:=plI_idx hc2
   have hik:(plI PP (m + 1)).idxOf ((PP k:Nat):Int) < k:=by
    by_cases h:(plI PP (m + 1)).idxOf ((PP k:Nat):Int) < k
    ·exact h
    ·exfalso
     have hmem:((PP k:Nat):Int)∈(plI PP (m + 1)).take k:=by
      have:(plI PP (m + 1)).take k=plI PP k:=by
       unfold plI
       rw[←List.map_take,←List.map_take,List.take_range,Nat.min_eq_left (by omega)]
      rw[this];exact c
     have h1:=List.idxOf_lt_length_iff.mpr hmem
     rw[List.length_take,plI_len] at h1
     have h2:(plI PP (m + 1)).idxOf ((PP k:Nat):Int)=((plI PP (m + 1)).take k).idxOf ((PP k:Nat):Int):=by
      conv=>lhs;rw[←List.take_append_drop k (plI PP (m + 1))]
      rw[List.idxOf_append,if_pos hmem]
     omega
   unfold walkD
   decreasing_trivial
   generalize (plI PP (m + 1)).idxOf ((PP k:Nat):Int)=i at hi1 hi2 hik
   refine⟨by decide,?_⟩
   have qq:=q i k hik k2 hi2
   have e1:cutD (numL N) none (some ((i:Nat):Int))=numL (seg N 0 i):=by
    rw[cut_to]
    unfold numL seg
    rw[←List.map_take,List.drop_zero,Nat.sub_zero]
   have e2:cutD (numL N) (some ((i:Nat):Int)) (some ((k:Nat):Int))=numL (seg N i k):=by
    rw[cut_fromto (by rw[len_num];omega) (by rw[len_num];omega)]
    unfold numL seg
    rw[List.map_take,List.map_drop]
   rw[e1,e2]
   exact qq
  ·rw[show (!(plI PP k).contains ((PP k:Nat):Int))=true by simp [c]]
   decreasing_trivial_pre_omega
   have hd2:∀i j,i < j→j < k + 1→PP i≠PP j:=fun i j h1 h2 e=>by
    by_cases hj:j < k
    ·exact hd i j h1 hj e
    ·have:j=k:=by omega
     subst this
     exact c (plI_mem.mpr ⟨i,h1,e⟩)
   have hkm:k + 1≤m:=by
    have:=nodup_few m ((List.range (k + 1)).map PP) (plist_nodup (k + 1) hd2) fun x hx=>by
     obtain⟨i,hi,rfl⟩:=List.mem_map.mp hx
     exact hpl i (by have:=List.mem_range.mp hi;omega)
    rw[List.length_map,List.length_range] at this
    exact this
   exact⟨μ - 1,by omega,k + 1,_,rfl,by omega,hkm,by omega,hd2⟩
end
theorem Wk.nb {ws:List Wy} {st:Int} {b:Tb} {N:List Nat} {P:Nat→Nat} {L:Nat→Int} (W:Wk ws st b N P L):∀n∈N,n < ws.length:=fun n hn=>by
 obtain⟨k,hk,rfl⟩:=List.mem_iff_getElem.mp hn
 obtain⟨w,hw,_⟩:=W.way k N[k] (List.getElem?_eq_getElem hk)
 exact (List.getElem?_eq_some_iff.mp hw).1
theorem seg_sub {N:List Nat} {i j n:Nat} (h:n∈seg N i j):n∈N:=List.mem_of_mem_drop (List.mem_of_mem_take h)
theorem seg_few {N:List Nat} {i j:Nat}:(seg N i j).length≤N.length:=by
 unfold seg
 rw[List.length_take,List.length_drop]
 omega
theorem chs_hi {m:Nat} {ws:List Wy} (ok:LandOk m ws) (n:Nat):wchN ws n≤1000000000000000000:=by
 unfold wchN
 split
 ·rename_i w hw;exact ok.hi w (List.mem_of_getElem? hw)
 ·decide
theorem sum_hi {B:Int}:∀{cs:List Int},(∀c∈cs,c≤B)→cs.sum≤(cs.length:Int) * B
 | [],_=>by simp
 | c::cs,h=>by
  have:=sum_hi (cs:=cs) fun d hd=>h d (List.mem_cons_of_mem _ hd)
  have h1:=h c List.mem_cons_self
  rw[List.sum_cons,List.length_cons,Int.natCast_add,Int.add_mul]
  omega
theorem ceil_ok {x g:Int} (hx:0 < x) (hg:0 < g):1≤-(-x / g)∧-(-x / g)≤x:=by
 have e:=Int.mul_ediv_add_emod (-x) g
 have r0:=Int.emod_nonneg (-x) (show g≠0 by omega)
 have r1:=Int.emod_lt_of_pos (-x) hg
 generalize -x / g=d at e
 constructor
 ·by_cases h:0≤d
  ·have:=Int.mul_nonneg (Int.le_of_lt hg) h
   omega
  ·omega
 ·by_cases h:-x≤d
  ·omega
  ·exfalso
   have h1:g * d≤g * (-x - 1):=Int.mul_le_mul_of_nonneg_left (by omega) (by omega)
   have h2:g * (-x - 1)=-(g * x) - g:=by rw[Int.mul_sub,Int.mul_neg,Int.mul_one]
   have h3:1 * x≤g * x:=Int.mul_le_mul_of_nonneg_right (by omega) (by omega)
   omega
def partsF (N:List Nat) (i j k:Nat) (tm:Int):List Pt:=(prt (seg N 0 i)++[(seg N i j,tm)])++prt (seg N i (i + k))
def spFillD:DSp:=fun ds Q=>∃(m:Nat) (ws:List Wy) (st:Int) (b:Tb) (N:List Nat) (P:Nat→Nat) (L:Nat→Int),ds=[landD m ws,.int st,.int (L 0),walkD (P 0) N]∧LandOk m ws∧0≤st∧st≤1000000000000000000000∧TabOk m st b∧Wk ws st b N P L∧N.length=m∧
 ∀i j k le g tp tm,i < j→j≤m→P i=P j→le≤L i→Rnd st (chs ws (seg N i j)) (L i) le g tp k→1≤tm→tm≤1000000000000000000000000→Q (.list ((partsF N i j k tm).map partD))
theorem prt_len {ns:List Nat}:(prt ns).length≤1:=by unfold prt;split <;> simp
section
variable {P:Program} {w:World} {K:PySem.W.Frag} {mg:Str→Option Value} {base:Heap}
theorem ok_filling_parts (T:Txt K mg):FnOk P w K mg base CX0 6 T.f_filling_parts.a T.f_filling_parts.d ["land", "store", "level", "walk"] (spD [.sh,.sh,.sh,.sh] spFillD):=by
 have G_parted_at_round:=@ok_parted_at_round P w K mg base T
 have b_parted_at_round:=T.f_parted_at_round.b
 have G_effect_of:=@ok_effect_of P w K mg base T
 have b_effect_of:=T.f_effect_of.b
 have G_changes_of:=@ok_changes_of P w K mg base T
 have b_changes_of:=T.f_changes_of.b
 have G_levels_along:=@ok_levels_along P w K mg base T
 have b_levels_along:=T.f_levels_along.b
 have G_parts_by:=@ok_parts_by P w K mg base T
 have b_parts_by:=T.f_parts_by.b
 refine fn_d T.f_filling_parts.F sc_filling_parts rfl (fun C cdv A outer s H E hr=>⟨_,(@dss_consG _ _ _ _ _ _ (ds_set (ps_set (i:=4) sc_filling_parts.nd rfl (Or.inl rfl) (pd_call (pe_call G_parted_at_round (hr.mono (by decide)) rfl T.f_parted_at_round.m T.f_parted_at_round.F.kp b_parted_at_round .nil pass0 (da_v (pd_var (pv 0)) (da_v (pd_var (pv 3)) da_nil se_Name) se_Name) (he:=se_Name) (hpl:=(np_cons se_Name np_nil)))))) (@dss_consG _ _ _ _ _ _ (ds_set (ps_set (i:=5) sc_filling_parts.nd rfl (Or.inl rfl) (pd_ixv (pv 4) pd_int (fun _ _=>rfl)))) (@dss_consG _ _ _ _ _ _ (ds_set (ps_set (i:=6) sc_filling_parts.nd rfl (Or.inl rfl) (pd_ixv (pv 4) pd_int (fun _ _=>rfl)))) (@dss_consG _ _ _ _ _ _ (@ds_set _ _ _ _ _ (@ps_set _ _ 7 _ _ _ _ sc_filling_parts.nd rfl (Or.inl rfl) (@pd_call _ _ _ _ _ _ _ (@pe_call _ _ _ _ _ _ _ _ _ _ _ _ _ _ _ _ G_effect_of (hr.mono (by decide)) rfl T.f_effect_of.m T.f_effect_of.F.kp b_effect_of .nil pass0 (da_v (pd_var (pv 1)) (da_v (pd_call (pe_call G_changes_of (hr.mono (by decide)) rfl T.f_changes_of.m T.f_changes_of.F.kp b_changes_of .nil pass0 (da_v (pd_var (pv 0)) (da_v (pd_var (pv 6)) da_nil se_Name) se_Name) (he:=se_Name) (hpl:=(np_cons se_Name np_nil)))) da_nil se_Call) se_Name) (by decide) se_Name ((np_cons se_Call np_nil)))) (by rfl) (by first | exact .inl rfl | exact .inr rfl | assumption))) (@dss_consG _ _ _ _ _ _ (@ds_set _ _ _ _ _ (@ps_set _ _ 8 _ _ _ _ sc_filling_parts.nd rfl (Or.inl rfl) (@pd_op _ _ _ _ _ _ _ _ _ _ op_sub ok_sub (pd_ixv (pv 7) (pd_gi (pe_glob (v:=V.int 2) rfl T.mg_TOP ⟨_,rfl⟩)) (fun _ _=>rfl)) (@pd_ix _ _ _ _ _ _ _ (@pd_call _ _ _ _ _ _ _ (@pe_call _ _ _ _ _ _ _ _ _ _ _ _ _ _ _ _ G_levels_along (hr.mono (by decide)) rfl T.f_levels_along.m T.f_levels_along.F.kp b_levels_along .nil pass0 (da_v (pd_var (pv 1)) (da_v (pd_var (pv 2)) (da_v (pd_call (pe_call G_changes_of (hr.mono (by decide)) rfl T.f_changes_of.m T.f_changes_of.F.kp b_changes_of .nil pass0 (da_v (pd_var (pv 0)) (da_v (pd_var (pv 5)) da_nil se_Name) se_Name) (he:=se_Name) (hpl:=(np_cons se_Name np_nil)))) da_nil se_Call) se_Name) se_Name) (by decide) se_Name ((np_cons se_Name (np_cons se_Call np_nil))))) (pd_neg pd_int) (fun _ _=>rfl))) (by rfl) (by first | exact .inl rfl | exact .inr rfl | assumption))) (@dss_consG _ _ _ _ _ _ (ds_set (ps_set (i:=9) sc_filling_parts.nd rfl (Or.inl rfl) (pd_neg (pd_op op_fdivB ok_div (pd_neg (pd_var (pv 8))) (pd_ixv (pv 7) (pd_gi (pe_glob (v:=V.int 1) rfl T.mg_GAIN ⟨_,rfl⟩)) (fun _ _=>rfl)))))) (@dss_consG _ _ _ _ _ _ (@ds_set _ _ _ _ _ (@ps_set _ _ 10 _ _ _ _ sc_filling_parts.nd rfl (Or.inl rfl) (@pd_call _ _ _ _ _ _ _ (@pe_call _ _ _ _ _ _ _ _ _ _ _ _ _ _ _ _ G_levels_along (hr.mono (by decide)) rfl T.f_levels_along.m T.f_levels_along.F.kp b_levels_along .nil pass0 (da_v (pd_var (pv 1)) (da_v (pd_ixv (pv 7) (pd_gi (pe_glob (v:=V.int 2) rfl T.mg_TOP ⟨_,rfl⟩)) (fun _ _=>rfl)) (da_v (pd_call (pe_call G_changes_of (hr.mono (by decide)) rfl T.f_changes_of.m T.f_changes_of.F.kp b_changes_of .nil pass0 (da_v (pd_var (pv 0)) (da_v (pd_var (pv 6)) da_nil se_Name) se_Name) (he:=se_Name) (hpl:=(np_cons se_Name np_nil)))) da_nil se_Call) se_Subscript) se_Name) (by decide) se_Name ((np_cons se_Subscript (np_cons se_Call np_nil))))) (by rfl) (by first | exact .inl rfl | exact .inr rfl | assumption))) (@dss_one _ _ _ _ (@ds_ret _ _ _ _ _ (@pd_f _ _ _ _ (@pf_cat _ _ _ _ _ _ _ (pd_f (pf_cat (pd_call (pe_call G_parts_by (hr.mono (by decide)) rfl T.f_parts_by.m T.f_parts_by.F.kp b_parts_by .nil pass0 (da_v (pd_var (pv 5)) da_nil se_Name) (he:=se_Name) (hpl:=np_nil))) (pd_f (pf_lst (dv_cons (pd_tup (dv_cons (pd_var (pv 6)) (dv_cons (pd_var (pv 9)) dv_nil se_Name) se_Name)) dv_nil se_Tuple))))) (pd_call (pe_call G_parts_by (hr.mono (by decide)) rfl T.f_parts_by.m T.f_parts_by.F.kp b_parts_by .nil pass0 (da_v (pd_f (pf_slv (pv 6) do_n (do_s (pd_indexv (pe_bm PySem.F.plainAttrs_list PySem.F.slot_list_index PySem.F.type_list_index mt_index (pv 10) (pa_cons (pd_var (pv 1)) pa_nil se_Name)))))) da_nil se_Subscript) (he:=se_Subscript) (hpl:=np_nil)))))))))))))),fun ds Q hl h=>?_⟩)
 obtain⟨m,ws,st,b,N,PP,L,rfl,ok,h0,hst,hb,W,hN,q⟩:=h
 have m2:=ok.m2
 decreasing_tactic
 refine⟨m,ws,st,b,N,PP,L,rfl,ok,hb,W,hN,fun i j hij hj hp=>?_⟩
 have nb:∀a c n,n∈seg N a c→n < ws.length:=fun a c n hn=>W.nb n (seg_sub hn)
 have fw:∀a c,(seg N a c).length≤900:=fun a c=>by have:=@seg_few N a c;omega
 have fw2:∀a c,(chs ws (seg N a c)).length≤900:=fun a c=>by unfold chs;rw[List.length_map];exact fw a c
 obtain⟨b0,b1⟩:=W.bd h0 hb i (by omega)
 obtain⟨le,g,tp,k,R,hle⟩:=rnd_ok b0 b1 (W.seg (i:=i) (j:=j) (by omega) (by omega)) (W.strict i j hij (by omega) hp)
 have kl:k≤j - i:=by
  have:=R.kl
  unfold chs at this
  rw[List.length_map,seg_len (by omega)] at this
  exact this
 refine go ?_;decreasing_tactic
 refine go ?_;decreasing_tactic
 refine go ?_;decreasing_tactic
 refine⟨m,ws,seg N i j,rfl,nb i j,fw i j,?_⟩
 decreasing_tactic
 refine⟨st,_,rfl,?_⟩
 rw[R.fx]
 refine go ?_;decreasing_trivial
 refine⟨m,ws,seg N 0 i,rfl,nb 0 i,fw 0 i,?_⟩
 decreasing_tactic
 refine⟨st,L 0,_,rfl,fw2 0 i,?_⟩
 have w0:=W.seg (i:=0) (j:=i) (Nat.zero_le _) (by omega)
 have hlast:(levF st (L 0) (chs ws (seg N 0 i))).getLast?=some (L i):=by
  obtain⟨z,z1,z2⟩:=levF_get w0 (chs ws (seg N 0 i)).length (Nat.le_refl _)
  rw[List.take_of_length_le (Nat.le_refl _),w0] at z2
  cases z2
  rw[List.getLast?_eq_getElem?,levF_len w0]
  exact z1
 decreasing_tactic
 rw[show -(1:Int)=-1 from rfl,atI_last1 (xs:=intsL _) (last_map hlast)]
 decreasing_tactic
 refine go ?_;decreasing_tactic
 have hg:g < 100000000000000000000000000000000000000000000000000000000000000:=by
  rw[R.gs]
  have h1:=sum_hi (B:=1000000000000000000) (cs:=chs ws (seg N i j)) fun c hc=>by
   obtain⟨n,_,rfl⟩:=List.mem_map.mp hc
   exact chs_hi ok n
  have h2:=fw2 i j
  omega
 refine⟨⟨R.g0,hg⟩,?_⟩
 refine go ?_;decreasing_tactic
 refine⟨m,ws,seg N i j,rfl,nb i j,fw i j,?_⟩
 decreasing_tactic
 refine⟨st,tp,_,rfl,fw2 i j,?_⟩
 refine go ?_;decreasing_tactic
 refine⟨seg N 0 i,rfl,?_⟩
 decreasing_tactic
 have hp1:=@prt_len (seg N 0 i)
 refine⟨by decide,by decide,by rw[List.length_map];simp;omega,?_⟩
 unfold intsL
 rw[intsD_map]
 decreasing_tactic
 refine⟨⟨R.km,by rw[R.ll];have:=fw2 i j;omega⟩,?_⟩
 rw[R.ki]
 have ecut:cutD (numL (seg N i j)) none (some ((k:Nat):Int))=numL (seg N i (i + k)):=by
  rw[cut_to]
  unfold numL
  rw[←List.map_take,seg_take kl]
 rw[ecut]
 refine⟨_,rfl,?_⟩
 decreasing_tactic
 have hp2:=@prt_len (seg N i (i + k))
 refine⟨by simp;omega,?_⟩
 obtain⟨t1,t2⟩:=ceil_ok (x:=tp - L i) (g:=g) (by have:=R.xt;omega) R.g0
 have t3:=R.tst
 have qq:=q i j k le g tp (-(-(tp - L i) / g)) hij hj hp hle R t1 (by omega)
 unfold partsF at qq
 rw[List.map_append,List.map_append] at qq
 exact qq
end
theorem Rows.risen {m:Nat} {ws:List Wy} {st:Int} {b:Tb} (ok:LandOk m ws) (h0:0≤st) (hb:TabOk m st b) {r:Rw} {rs:List Rw} (h:Rows m ws st b (r::rs)) (hn:rs≠[]):∃p n,gt r.2 p=some n:=by
 cases h with
 | one=>exact absurd rfl hn
 | @more r0 rs0 h' c=>
  obtain⟨a1,_,_⟩:=h'.ok ok h0 hb
  have I:=row_ok (st:=st) (t:=r0.1) ok a1.len
  by_cases z:∃p n,gt (rowF m ws st r0.1 r0.1).2 p=some n
  ·exact z
  ·refine absurd (tab_ext (by rw[I.l1,a1.len]) fun p=>I.no p ?_) c
   cases e:gt (rowF m ws st r0.1 r0.1).2 p with
   | none=>rfl
   | some n=>exact absurd ⟨p,n,e⟩ z
theorem Rows.rok {m:Nat} {ws:List Wy} {st:Int} {b:Tb} (ok:LandOk m ws) (h0:0≤st) (hb:TabOk m st b):∀{rs:List Rw},Rows m ws st b rs→RowsOk m ws rs
 | _,.one=>fun r hr=>by
  have:r=(b,List.replicate m none):=by simpa using hr
  subst this
  exact⟨by simp,fun q n e=>by rw[gt_rep] at e;cases e⟩
 | _,.more (r:=r0) h c=>fun r hr=>by
  rcases List.mem_cons.mp hr with e | hr
  ·subst e
   obtain⟨a1,_,_⟩:=h.ok ok h0 hb
   have I:=row_ok (st:=st) (t:=r0.1) ok a1.len
   refine⟨I.l2,fun q n e=>?_⟩
   obtain⟨w,hw,_⟩:=I.yes q n e
   exact (List.getElem?_eq_some_iff.mp hw).1
  ·exact Rows.rok ok h0 hb h r hr
theorem rows_all {m:Nat} {ws:List Wy} {st:Int} {b:Tb} (ok:LandOk m ws) (h0:0≤st) (hb:TabOk m st b):∃r rs,(rowsF m ws st m (b,List.replicate m none)).reverse=r::rs∧(rowsF m ws st m (b,List.replicate m none)).getLast?=some r∧(rowsF m ws st m (b,List.replicate m none)).length=rs.length + 1∧rs.length≤m∧Rows m ws st b (r::rs)∧RowsOk m ws (rowsF m ws st m (b,List.replicate m none))∧
  ((rowsF m ws st m (b,List.replicate m none)).length≤m→Least m ws st b r.1):=by
 obtain⟨r,rs,e,h,z⟩:=rowsF_ok (m:=m) (ws:=ws) (st:=st) (b:=b) m (b,List.replicate m none) [] .one
 rw[List.reverse_nil,List.nil_append] at e
 have hl:(rowsF m ws st m (b,List.replicate m none)).length=rs.length + 1:=by
  rw[←List.length_reverse,e];rfl
 have hbd:∀(k:Nat) (q:Rw),(rowsF m ws st k q).length≤k + 1:=by
  intro k
  induction k with
  | zero=>intro q;exact Nat.le_refl _
  | succ k ih=>
   intro q
   unfold rowsF
   split
   ·simp
   ·have:=ih (rowF m ws st q.1 q.1);simp;omega
 have hb2:=hbd m (b,List.replicate m none)
 refine⟨r,rs,e,?_,hl,by omega,h,fun q hq=>h.rok ok h0 hb q (by rw[←e];exact List.mem_reverse.mpr hq),fun hm=>?_⟩
 ·rw[←List.head?_reverse,e];rfl
 ·rcases z with z | z
  ·exact h.least ok h0 hb z
  ·rw[List.length_cons] at z
   simp at z
   omega
def RoadD (B:Nat) (d:PyData):Prop:=∃q ps,d=.tuple [q,.list ps]∧ps.length≤B
def spSettledD:DSp:=fun ds Q=>∃(m:Nat) (ws:List Wy) (st:Int) (b0:Tb),ds=[landD m ws,.int st,.list (tabL b0)]∧LandOk m ws∧0≤st∧st≤1000000000000000000000∧TabOk m st b0∧
 ∀(rs:List Rw) (r:Rw) (rd:List PyData),rs.getLast?=some r→Least m ws st b0 r.1→Q (.tuple [.list (rs.map rowD),.list rd])
def spHighD:DSp:=fun ds Q=>∃(m:Nat) (ws:List Wy) (st:Int) (b0:Tb),ds=[landD m ws,.int st,.list (tabL b0)]∧LandOk m ws∧0≤st∧st≤1000000000000000000000∧TabOk m st b0∧∀t,Least m ws st b0 t→Q (.list (tabL t))
theorem lack_le {st:Int} {b:Tb}:lack st b≤b.length:=List.countP_le_length
theorem parts_len {N:List Nat} {i j k:Nat} {tm:Int}:(partsF N i j k tm).length≤3:=by
 unfold partsF
 have h1:=@prt_len (seg N 0 i)
 have h2:=@prt_len (seg N i (i + k))
 rw[List.length_append,List.length_append]
 simp
 omega
section
variable {P:Program} {w:World} {K:PySem.W.Frag} {mg:Str→Option Value} {base:Heap}
theorem ok_settled (T:Txt K mg):FnOk P w K mg base CX0 7 T.f_settled.a T.f_settled.d ["land", "store", "base"] (spD [.sh,.sh,.sh] spSettledD):=by
 have G_rows_from:=@ok_rows_from P w K mg base T
 have b_rows_from:=T.f_rows_from.b
 have G_still_rises:=@ok_still_rises P w K mg base T
 have b_still_rises:=T.f_still_rises.b
 have G_rising_walk:=@ok_rising_walk P w K mg base T
 have b_rising_walk:=T.f_rising_walk.b
 have G_filling_parts:=@ok_filling_parts P w K mg base T
 have b_filling_parts:=T.f_filling_parts.b
 have G_end_of:=@ok_end_of P w K mg base T
 have b_end_of:=T.f_end_of.b
 refine fn_d T.f_settled.F sc_settled rfl (fun C cdv A outer s H E hr=>⟨_,(@dss_consG _ _ _ _ _ _ (ds_own (ps_set (i:=3) sc_settled.nd rfl (Or.inl rfl) (pf_listv (pe_callTy call_list_of rfl T.n_list bt_list (pa_cons (pv 2) pa_nil se_Name) (he:=se_Name) (hpl:=np_nil))))) (@dss_consG _ _ _ _ _ _ (@ds_ownC _ _ _ _ _ _ _ _ _ rfl (@ps_setC _ _ _ _ _ _ _ _ _ _ _ _ _ 4 _ _ _ _ _ sc_settled.nd rfl (Or.inl rfl) (CompSc.new (N:=["land", "store", "base", "table", "roads", "rows", "walk", "parts", "full", "road"]) (osc:=defScope s_settled) (by decide +kernel)) rfl (di_rng1 (pi_range1 rfl T.n_range (dv_cons (pd_ixv (pv 0) (pd_gi (pe_glob (v:=V.int 0) rfl T.mg_MANY ⟨_,rfl⟩)) (fun _ _=>rfl)) dv_nil se_Subscript))) (fun _=>dts_nil) (fun _=>(pd_tup (dv_cons (pd_var (pv 10)) (dv_cons (pd_f (pf_lst dv_nil)) dv_nil se_List) se_Name))) (by rfl) (by first | exact .inl rfl | exact .inr rfl | assumption) (by rfl) (by rfl) (by intro _;rfl))) (@dss_consG _ _ _ _ _ _ (ds_set (ps_set (i:=5) sc_settled.nd rfl (Or.inl rfl) (pd_call (pe_call G_rows_from (hr.mono (by decide)) rfl T.f_rows_from.m T.f_rows_from.F.kp b_rows_from .nil pass0 (da_v (pd_var (pv 0)) (da_v (pd_var (pv 1)) (da_s (pv 3) da_nil se_Name) se_Name) se_Name) (he:=se_Name) (hpl:=(np_cons se_Name (np_cons se_Name np_nil))))))) (@dss_consG _ _ _ _ _ _ (@ds_while _ _ _ _ _ (@ps_while _ _ _ _ _ _ PassesOwn.never (pdt_val (pd_call (pe_call G_still_rises (hr.mono (by decide)) rfl T.f_still_rises.m T.f_still_rises.F.kp b_still_rises .nil pass0 (da_v (pd_var (pv 0)) (da_v (pd_var (pv 5)) da_nil se_Name) se_Name) (he:=se_Name) (hpl:=(np_cons se_Name np_nil))))) (@dss_consG _ _ _ _ _ _ (ds_set (ps_set (i:=6) sc_settled.nd rfl (Or.inl rfl) (pd_call (pe_call G_rising_walk (hr.mono (by decide)) rfl T.f_rising_walk.m T.f_rising_walk.F.kp b_rising_walk .nil pass0 (da_v (pd_var (pv 0)) (da_v (pd_var (pv 5)) da_nil se_Name) se_Name) (he:=se_Name) (hpl:=(np_cons se_Name np_nil)))))) (@dss_consG _ _ _ _ _ _ (@ds_set _ _ _ _ _ (@ps_set _ _ 7 _ _ _ _ sc_settled.nd rfl (Or.inl rfl) (@pd_call _ _ _ _ _ _ _ (@pe_call _ _ _ _ _ _ _ _ _ _ _ _ _ _ _ _ G_filling_parts (hr.mono (by decide)) rfl T.f_filling_parts.m T.f_filling_parts.F.kp b_filling_parts .nil pass0 (da_v (pd_var (pv 0)) (da_v (pd_var (pv 1)) (da_v (pd_ixv (pv 3) (pd_ixv (pv 6) (pd_gi (pe_glob (v:=V.int 0) rfl T.mg_FROM ⟨_,rfl⟩)) (fun _ _=>rfl)) (fun _ _=>rfl)) (da_v (pd_var (pv 6)) da_nil se_Name) se_Subscript) se_Name) se_Name) (by decide) se_Name ((np_cons se_Name (np_cons se_Subscript (np_cons se_Name np_nil)))))) (by rfl) (by first | exact .inl rfl | exact .inr rfl | assumption))) (@dss_consG _ _ _ _ _ _ (ds_set (ps_set (i:=8) sc_settled.nd rfl (Or.inl rfl) (pd_call (pe_call G_end_of (hr.mono (by decide)) rfl T.f_end_of.m T.f_end_of.F.kp b_end_of .nil pass0 (da_v (pd_var (pv 0)) (da_v (pd_ixv (pv 6) (pd_gi (pe_glob (v:=V.int 0) rfl T.mg_FROM ⟨_,rfl⟩)) (fun _ _=>rfl)) (da_v (pd_var (pv 7)) da_nil se_Name) se_Subscript) se_Name) (he:=se_Name) (hpl:=(np_cons se_Subscript (np_cons se_Name np_nil))))))) (@dss_consG _ _ _ _ _ _ (ds_set (ps_set (i:=9) sc_settled.nd rfl (Or.inl rfl) (pd_ixv (pv 4) (pd_ixv (pv 6) (pd_gi (pe_glob (v:=V.int 0) rfl T.mg_FROM ⟨_,rfl⟩)) (fun _ _=>rfl)) (fun _ _=>rfl)))) (@dss_consG _ _ _ _ _ _ (ds_setI (ps_asg (pd_tup (dv_cons (pd_ixv (pv 9) (pd_gi (pe_glob (v:=V.int 0) rfl T.mg_FROM ⟨_,rfl⟩)) (fun _ _=>rfl)) (dv_cons (pd_f (pf_cat (pd_ixv (pv 9) (pd_gi (pe_glob (v:=V.int 1) rfl T.mg_BY ⟨_,rfl⟩)) (fun _ _=>rfl)) (pd_var (pv 7)))) dv_nil se_BinOp) se_Subscript)) (pg_sub (pv 4) (pd_var (pv 8)) set_list))) (@dss_consG _ _ _ _ _ _ (ds_setI (ps_asg (pd_var (pv 1)) (pg_sub (pv 3) (pd_var (pv 8)) set_list))) (dss_one (ds_set (ps_set (i:=5) sc_settled.nd rfl (Or.inl rfl) (pd_call (pe_call G_rows_from (hr.mono (by decide)) rfl T.f_rows_from.m T.f_rows_from.F.kp b_rows_from .nil pass0 (da_v (pd_var (pv 0)) (da_v (pd_var (pv 1)) (da_s (pv 3) da_nil se_Name) se_Name) se_Name) (he:=se_Name) (hpl:=(np_cons se_Name (np_cons se_Name np_nil)))))))))))))))) (dss_one (ds_ret (pd_tup (dv_cons (pd_var (pv 5)) (dv_cons (pd_var (pv 4)) dv_nil se_Name) se_Name)))))))),fun ds Q hl h=>?_⟩)
 obtain⟨m,ws,st,b0,rfl,ok,h0,hst,hb0,q⟩:=h
 have m2:=ok.m2
 decreasing_tactic
 refine go ?_;array_mem_dec
 refine⟨⟨by omega,by omega⟩,⟨rfl,by unfold rngD;rw[List.length_map,List.length_range];omega⟩,?_⟩
 unfold rngD
 rw[show ((m:Nat):Int).toNat=m by simp]
 refine compM (f:=fun i=>.tuple [.int (0 + ((i:Nat):Int)),.list []]) (fun i hi Q' q'=>?_) ?_
 ·decreasing_tactic
  exact⟨by decide,by decide,q'⟩
 decreasing_tactic
 refine go ?_;decreasing_tactic
 refine⟨rfl,m,ws,st,b0,rfl,ok,hb0.len,?_⟩
 decreasing_tactic
 refine go ?_
 unfold dSeqG dWhile
 refine⟨fun μ ρ=>∃(b:Tb) (rd:List PyData) (z6 z7 z8 z9:Sl),ρ=[Sl.sh (landD m ws),Sl.sh (.int st),Sl.sh (.list (tabL b0)),Sl.ow (tabL b),Sl.ow rd,Sl.sh (.list ((rowsF m ws st m (b,List.replicate m none)).map rowD)),z6,z7,z8,z9]∧TabOk m st b∧lack st b=μ∧(∀t,Least m ws st b t→Least m ws st b0 t)∧rd.length=m∧∀d∈rd,RoadD (3 * (m - μ)) d,
  ⟨lack st b0,b0,_,_,_,_,_,rfl,hb0,rfl,fun t h=>h,by simp,fun d hd=>?_⟩,?_⟩
 ·have hd':d∈(List.range m).map fun i=>PyData.tuple [.int (0 + ((i:Nat):Int)),.list []]:=hd
  obtain⟨i,_,rfl⟩:=List.mem_map.mp hd'
  exact⟨_,[],rfl,Nat.zero_le _⟩
 rintro μ ρ ⟨b,rd,z6,z7,z8,z9,rfl,hb,hμ,hle,hrl,hrd⟩
 obtain⟨r,rs,e1,e2,e3,e4,hR,hok,hfin⟩:=rows_all ok h0 hb
 decreasing_tactic
 refine⟨m,ws,_,rfl,?_⟩
 by_cases c:m < (rowsF m ws st m (b,List.replicate m none)).length
 ·rw[decide_eq_true c]
  sizeOf_list_dec
  have hne:rs≠[]:=fun z=>by rw[z] at e3;have:=ok.m1;simp at e3;omega
  refine⟨m,ws,_,r,rfl,ok,hok,by omega,e2,hR.risen ok h0 hb hne,fun p n hp hn=>?_⟩
  obtain⟨N,PP,L,f1,f2,f3,f4,W,f6⟩:=wlk_ok ok h0 hb hR p (.inr ⟨n,hn⟩)
  have hN:N.length=m:=by omega
  rw[e1,f1]
  have hbeg:gt b (PP 0)=some (L 0):=W.beg
  have hP0:PP 0 < m:=W.pl ok hb 0 (Nat.zero_le _)
  refine go ?_;decreasing_tactic
  rw[tab_at (by rw[hb.len];exact hP0),hbeg]
  decreasing_trivial
  refine⟨m,ws,st,b,N,PP,L,rfl,ok,h0,hst,hb,W,hN,fun i j k le g tp tm hij hj hpp hle2 R t1 t2=>?_⟩
  have kl:k≤j - i:=by
   have:=R.kl
   unfold chs at this
   rw[List.length_map,seg_len (by omega)] at this
   exact this
  have hfull:PP (i + k) < m:=W.pl ok hb (i + k) (by omega)
  have htrp:Trp ws (PP 0) (partsF N i j k tm) (PP (i + k)):=by
   unfold partsF
   refine ((prt_trp (W.pth (i:=0) (j:=i) (Nat.zero_le _) (by omega))).app ?_).app (prt_trp (W.pth (i:=i) (j:=i + k) (by omega) (by omega)))
   have hs:=W.pth (i:=i) (j:=j) (by omega) (by omega)
   rw[←hpp] at hs
   exact .cons hs (fun z=>by have:=congrArg List.length z;rw[seg_len (by omega)] at this;simp at this;omega) t1 t2 (.inr rfl) .nil
  refine go ?_;decreasing_tactic
  refine⟨m,ws,PP 0,PP (i + k),_,rfl,htrp,?_⟩
  obtain⟨d0,hd0⟩:∃d,rd[PP 0]?=some d:=⟨_,List.getElem?_eq_getElem (by omega)⟩
  obtain⟨q0,ps0,rfl,hps⟩:=hrd d0 (List.mem_of_getElem? hd0)
  refine go ?_;decreasing_tactic
  rw[atI_nat hd0]
  decreasing_tactic
  refine go ?_;decreasing_tactic
  have h3:=@parts_len N i j k tm
  have hlk:=lack_set st b (PP (i + k)) (by rw[hb.len];exact hfull) (fill_new W h0 hb hij (by omega) hpp (by omega))
  have hlm:=@lack_le st b
  rw[hb.len] at hlm
  refine⟨by rw[List.length_map];omega,by decide,?_⟩
  rw[ixN_nat (by rw[hrl];exact hfull)]
  decreasing_tactic
  refine go ?_;decreasing_tactic
  rw[ixN_nat (by rw[len_tab,hb.len];exact hfull)]
  decreasing_tactic
  rw[show (tabL b).set (PP (i + k)) (PyData.int st)=tabL (b.set (PP (i + k)) (some st)) from set_tab (x:=some st)]
  refine go ?_;decreasing_tactic
  have hb':=fill_tab h0 hb hfull
  refine⟨rfl,m,ws,st,_,rfl,ok,hb'.len,?_⟩
  decreasing_tactic
  refine⟨lack st (b.set (PP (i + k)) (some st)),by omega,b.set (PP (i + k)) (some st),_,_,_,_,_,rfl,hb',rfl,fun t h=>hle t (h.fill hb hfull fun T hT h1 h2=>fill_lid W hij (by omega) hpp hle2 R hT h1 h2),by rw[List.length_set];exact hrl,fun d hd=>?_⟩
  rcases List.mem_or_eq_of_mem_set hd with hd | hd
  ·obtain⟨q1,ps1,e,h5⟩:=hrd d hd
   exact⟨q1,ps1,e,by omega⟩
  ·exact⟨_,_,hd,by rw[List.length_append,List.length_map];omega⟩
 ·rw[decide_eq_false c]
  decreasing_tactic
  refine go ?_
  decreasing_tactic
  refine⟨by decide,?_⟩
  exact q _ r rd e2 (hle _ (hfin (by omega)))
theorem ok_highest (T:Txt K mg):FnOk P w K mg base CX0 8 T.f_highest.a T.f_highest.d ["land", "store", "base"] (spD [.sh,.sh,.sh] spHighD):=by
 have G_settled:=@ok_settled P w K mg base T
 have b_settled:=T.f_settled.b
 refine fn_d T.f_highest.F sc_highest rfl (fun C cdv A outer s H E hr=>⟨_,(@dss_one _ _ _ _ (@ds_ret _ _ _ _ _ (@pd_ix _ _ _ _ _ _ _ (pd_ix (pd_ix (pd_call (pe_call G_settled (hr.mono (by decide)) rfl T.f_settled.m T.f_settled.F.kp b_settled .nil pass0 (da_v (pd_var (pv 0)) (da_v (pd_var (pv 1)) (da_v (pd_var (pv 2)) da_nil se_Name) se_Name) se_Name) (he:=se_Name) (hpl:=(np_cons se_Name (np_cons se_Name np_nil))))) pd_int (fun _ _=>rfl)) (pd_neg pd_int) (fun _ _=>rfl)) (pd_gi (pe_glob (v:=V.int 0) rfl T.mg_TABLE ⟨_,rfl⟩)) (fun _ _=>rfl)))),fun ds Q hl h=>?_⟩)
 obtain⟨m,ws,st,b0,rfl,ok,h0,hst,hb0,q⟩:=h
 decreasing_tactic
 refine⟨m,ws,st,b0,rfl,ok,h0,hst,hb0,fun rs r rd hl hL=>?_⟩
 decreasing_tactic
 rw[show -(1:Int)=-1 from rfl,atI_last1 (last_map hl)]
 decreasing_trivial
 exact q _ hL
end
def lkF (st:Int) (t:Tb):Tb:=t.map fun o=>o.map fun x=>st - x
theorem lk_gt {st:Int} {t:Tb} {p:Nat}:gt (lkF st t) p=(gt t p).map fun x=>st - x:=by
 unfold gt lkF
 rw[List.getElem?_map]
 cases t[p]? with
 | none=>rfl
 | some o=>rfl
theorem lk_tab {m:Nat} {st:Int} {t:Tb} (h:TabOk m st t):TabOk m st (lkF st t):=by
 refine⟨by unfold lkF;rw[List.length_map];exact h.len,fun p x e=>?_⟩
 rw[lk_gt] at e
 cases z:gt t p with
 | none=>rw[z] at e;cases e
 | some y=>
  rw[z] at e
  have:st - y=x:=Option.some.inj e
  have:=h.bd p y z
  omega
theorem lk_lk {st:Int} {t:Tb}:lkF st (lkF st t)=t:=by
 unfold lkF
 rw[List.map_map]
 conv=>rhs;rw[←List.map_id t]
 apply List.map_congr_left
 intro o _
 cases o with
 | none=>rfl
 | some x=>show some (st - (st - x))=some x;congr 1;omega
theorem turn_land {m:Nat} {ws:List Wy} (ok:LandOk m ws):LandOk m (ws.map turnW):=by
 refine⟨ok.m1,ok.m2,by rw[List.length_map];exact ok.few,fun w hw=>?_,fun w hw=>?_,fun w hw=>?_,fun w hw=>?_⟩
 all_goals obtain⟨v,hv,rfl⟩:=List.mem_map.mp hw
 ·exact ok.en v hv
 ·exact ok.st v hv
 ·exact ok.lo v hv
 ·exact ok.hi v hv
def spLackD:DSp:=fun ds Q=>∃(st:Int) (t:Tb),ds=[.int st,.list (tabL t)]∧t.length≤900∧Q (.list (tabL (lkF st t)))
def spLeastD:DSp:=fun ds Q=>∃(m:Nat) (ws:List Wy) (st:Int) (g:Tb),ds=[landD m ws,.int st,.list (tabL g)]∧LandOk m ws∧0≤st∧st≤1000000000000000000000∧TabOk m st g∧∀t,Least m (ws.map turnW) st (lkF st g) t→Q (.list (tabL (lkF st t)))
theorem kq_same {H H':Hp} (k:Kq none H H'):Same H H':=fun b o e=>k b o e fun q hq=>nomatch hq
abbrev TT0:Addr→Prop:=fun _=>True
abbrev NewS (H:Hp):Addr→Prop:=fun b=>H b=none∨∃xs,H b=some (.tup xs)
theorem callT {ms:List Md} {sp:DSp} {vs:List V} {ds:List PyData} {H:Hp} {Q:VK} {E:XK} (Qd:PyData→Prop) (ar:ArgsR TT0 none H ms vs ds) (h:sp ds Qd) (k:∀d v H',Qd d→ThV TT0 H' v d→Same H H'→Q v H'):spD ms sp vs H Q E:=
 ⟨TT0,none,ds,Qd,⟨fun _ _=>trivial,fun _ _ _=>trivial⟩,fun q hq=>(nomatch hq),fun q hq=>(nomatch hq),ar,h,fun d v H' a b c _=>k d v H' a b (kq_same c)⟩
theorem tab_any {F G:Addr→Prop} {H H':Hp}:∀{t:Tb} {us:List V},ThVs F H us (tabL t)→ThVs G H' us (tabL t)
 | [],_,h=>by cases h;exact .nil
 | o::t,_,h=>by
  cases h with
  | cons x r=>
   cases o with
   | none=>cases x;exact .cons .non (tab_any r)
   | some i=>cases x;exact .cons (.int _) (tab_any r)
theorem nums_fp {F G:Addr→Prop} {H H':Hp}:∀{ns:List Nat} {us:List V},ThVs F H us (numL ns)→FpVs G H' us (numL ns) []
 | [],_,h=>by cases h;exact .nil
 | n::ns,_,h=>by
  cases h with
  | cons x r=>cases x;exact FpVs.cons (fp:=[]) (fps:=[]) (.int _) (nums_fp r)
theorem nums_any {F G:Addr→Prop} {H H':Hp} {ns:List Nat} {us:List V} (t:ThVs F H us (numL ns)):ThVs G H' us (numL ns):=(nums_fp (G:=G) (H':=H') t).th
theorem _root_.L2.Same.early {H H':Hp} (s:Same H H') {b:Addr} (h:H' b=none):H b=none:=by
 cases z:H b with
 | none=>rfl
 | some o=>rw[s _ _ z] at h;cases h
theorem NewS_early {H H':Hp} (s:Same H H') {b:Addr} (h:NewS H' b):NewS H b:=by
 rcases h with h | ⟨xs,h⟩
 ·exact .inl (s.early h)
 ·cases z:H b with
  | none=>exact .inl z
  | some o=>
   have:=s _ _ z
   rw[h] at this
   cases this
   exact .inr ⟨xs,z⟩
theorem NewS_lst {H H':Hp} (s:Same H H') {b:Addr} {xs:List V} (h:NewS H b) (e:H' b=some (.lst xs)):H b=none:=by
 rcases h with h | ⟨ys,h⟩
 ·exact h
 ·rw[s _ _ h] at e;cases e
theorem callH1 {ms:List Md} {sp:DSp} {vs:List V} {ds:List PyData} {H:Hp} {Q:VK} {E:XK} {hd hl:Addr} (Qd:PyData→Prop) (d:Hd H hd hl) (ar:ArgsR (fun b=>b≠hd) (some (hd,hl)) H ms vs ds) (h:sp (.none::ds) Qd) (k:∀d v H',Qd d→ThV (fun b=>b≠hd) H' v d→Kq (some (hd,hl)) H H'→Hd H' hd hl→Q v H'):spD (.hd::ms) sp (.ref hd::vs) H Q E:=by
 have d0:=d
 obtain⟨_,_,_,_,_,_,_,_,e⟩:=d
 exact⟨fun b=>b≠hd,some (hd,hl),.none::ds,Qd,⟨(fun b z y=>by rw[y,e] at z;cases z),(fun b xs z y=>by rw[y,e] at z;cases z)⟩,fun q hq=>by cases hq;exact fun z=>z rfl,fun q hq=>by cases hq;exact d0,.cons ⟨_,rfl,rfl⟩ ar,h,fun d v H' a b c z=>k d v H' a b c (z _ rfl)⟩
def spN (sp:DSp):Sp:=fun vs H Q _=>∃ds Qd,ThVs TT0 H vs ds∧sp ds Qd∧∀d v H',Qd d→ThV (NewS H) H' v d→Same H H'→Q v H'
theorem _root_.L2.Same.upd {H:Hp} {p:Addr} {o:HO} (h:H p=none):Same H (upd H p o):=fun b o' e=>by rw[upd_ne (ne_of_none e h)];exact e
theorem _root_.L2.Same.tr {H H1 H2:Hp} (a:Same H H1) (b:Same H1 H2):Same H H2:=fun c o e=>b _ _ (a _ _ e)
theorem ThV.keep {F:Addr→Prop} {H H':Hp} {v:V} {d:PyData} (t:ThV F H v d) (s:Same H H'):ThV F H' v d:=t.mv fun b o z e=>⟨z,s _ _ e⟩
theorem ThVs.keep {F:Addr→Prop} {H H':Hp} {v:List V} {d:List PyData} (t:ThVs F H v d) (s:Same H H'):ThVs F H' v d:=t.mv fun b o z e=>⟨z,s _ _ e⟩
theorem ThV.any {F:Addr→Prop} {H:Hp} {v:V} {d:PyData} (t:ThV F H v d):ThV TT0 H v d:=t.mv fun b o z e=>⟨trivial,e⟩
section
variable {P:Program} {w:World} {K:PySem.W.Frag} {mg:Str→Option Value} {base:Heap}
inductive AllSh:List Md→Prop
 | nil:AllSh []
 | cons {ms}:AllSh ms→AllSh (.sh::ms)
end
theorem ths_get {F:Addr→Prop} {H:Hp}:∀{vs:List V} {ds:List PyData} {i:Nat} {x:V},ThVs F H vs ds→vs[i]?=some x→∃d,ds[i]?=some d∧ThV F H x d
 | _,_,_,_,.nil,e=>nomatch e
 | _,_,0,_,.cons x _,e=>by cases e;exact⟨_,rfl,x⟩
 | _,_,i + 1,_,.cons _ t,e=>ths_get (i:=i) t e
abbrev spLackN:Sp:=spN spLackD
abbrev spLeastN:Sp:=spN spLeastD
def witB (a b:Option Int):Bool:=match b,a with
 | none,_=>true
 | some _,none=>false
 | some y,some x=>decide (x≤y)
def spWithO:DSp:=fun ds Q=>∃a b:Option Int,ds=[oD a,oD b]∧Q (.bool (witB a b))
def blwF (t o:Tb):List Nat:=(List.range t.length).filter fun p=>!witB (gt o p) (gt t p)
def spBelow:DSp:=fun ds Q=>∃t o:Tb,ds=[.list (tabL t),.list (tabL o)]∧t.length=o.length∧t.length≤900∧Q (.list (numL (blwF t o)))
abbrev spBelowN:Sp:=spN spBelow
section
variable {P:Program} {w:World} {K:PySem.W.Frag} {mg:Str→Option Value} {base:Heap}
theorem ok_lacking (T:Txt K mg):FnOk P w K mg base CX0 1 T.f_lacking.a T.f_lacking.d ["store", "table"] spLackN:=by
 refine T.f_lacking.F.ok sc_lacking (fun vs H Q E h=>?_) (fun cdv A outer s H vs Q E hr h=>?_)
 ·obtain⟨ds,Qd,t,⟨st,t0,rfl,_⟩,_⟩:=h
  rw[t.len];rfl
 ·obtain⟨ds,Qd,tv,⟨st,t0,rfl,hl,q⟩,told⟩:=h
  obtain⟨v1,v2,rfl,t1,t2⟩:=ths2 tv
  cases t1
  obtain⟨at',ut,rfl,_,et,tut⟩:=th_lst t2
  have lut:ut.length=t0.length:=by rw[tut.len,len_tab]
  refine⟨_,(pss_one (ps_ret (pe_comp (CompSc.new (N:=["store", "table"]) (osc:=defScope s_lacking) (by decide +kernel)) rfl (pi_list (pv 1)) (fun _=>pts_nil) (fun _=>(pe_ifExp (pt_cmpR op_isN (pv 2) pe_non (nomark _)) pe_non (pe_op op_sub (pv 0) (pv 2))))))),?_⟩
  refine⟨_,rfl,at',rfl,⟨ut,SqL.of et⟩,?_⟩
  refine comp_list (xs:=ut) (fun i ys Hn=>Hn=H∧ThVs TT0 H ys (tabL (lkF st (t0.take i)))) ?_ ⟨rfl,.nil⟩ ?_ ?_ ?_
  ·rw[lut,sizeLine_eq];omega
  ·rintro i ys Hn hi ⟨rfl,h2⟩
   refine⟨?_,SqL.of et⟩
   rw[h2.len,len_tab]
   unfold lkF
   rw[List.length_map,List.length_take]
   omega
  ·rintro i x ys Hn hx ⟨rfl,h2⟩ ca
   obtain⟨d,hd,tx⟩:=ths_get tut hx
   unfold tabL at hd
   rw[List.getElem?_map] at hd
   obtain⟨o,ho,rfl⟩:=Option.map_eq_some_iff.mp hd
   have stp:tabL (lkF st (t0.take (i + 1)))=tabL (lkF st (t0.take i))++[oD (o.map fun x=>st - x)]:=by
    rw[List.take_add_one,ho]
    unfold lkF tabL
    rw[List.map_append,List.map_append];rfl
   unfold tTrue
   refine iteT ⟨_,rfl,rfl,_,rfl,?_⟩
   rw[stp]
   cases o with
   | none=>
    cases tx
    exact iteT ⟨rfl,h2.append (.cons .non .nil)⟩
   | some y=>
    cases tx
    rw[show decide (V.int y=V.non)=false from decide_eq_false fun z=>by cases z]
    exact iteF ⟨_,rfl,_,rfl,_,_,rfl,rfl,rfl,h2.append (.cons (.int _) .nil)⟩
  rintro ys Hn ⟨rfl,h2⟩ p hp
  rw[lut,List.take_length] at h2
  exact told _ _ _ q (.lst (.inl hp) upd_same (tab_any h2)) (Same.upd hp)
theorem ok_least (T:Txt K mg):FnOk P w K mg base CX0 9 T.f_least.a T.f_least.d ["land", "store", "goal"] spLeastN:=by
 have G_lacking:=@ok_lacking P w K mg base T
 have b_lacking:=T.f_lacking.b
 have G_highest:=@ok_highest P w K mg base T
 have b_highest:=T.f_highest.b
 have G_turned_land:=@ok_turned_land P w K mg base T
 have b_turned_land:=T.f_turned_land.b
 refine T.f_least.F.ok sc_least (fun vs H Q E h=>?_) (fun cdv A outer s H vs Q E hr h=>?_)
 ·obtain⟨ds,Qd,t,⟨m,ws,st,g,rfl,_⟩,_⟩:=h
  rw[t.len];rfl
 ·obtain⟨ds,Qd,tv,⟨m,ws,st,g,rfl,ok,h0,hst,hg,q⟩,told⟩:=h
  cases tv with
  | @cons vl _ _ _ tl tv=>
  obtain⟨vst,vg,rfl,tst,tg⟩:=ths2 tv
  cases tst
  have m2:=ok.m2
  have few:=ok.few
  have hgl:=hg.len
  refine⟨_,(pss_one (ps_ret (pe_call G_lacking (hr.mono (by decide)) rfl T.f_lacking.m T.f_lacking.F.kp b_lacking .nil pass0 (pa_cons (pv 1) (pa_cons (pe_call G_highest (hr.mono (by decide)) rfl T.f_highest.m T.f_highest.F.kp b_highest .nil pass0 (pa_cons (pe_call G_turned_land (hr.mono (by decide)) rfl T.f_turned_land.m T.f_turned_land.F.kp b_turned_land .nil pass0 (pa_cons (pv 0) pa_nil se_Name) (he:=se_Name) (hpl:=np_nil)) (pa_cons (pv 1) (pa_cons (pe_call G_lacking (hr.mono (by decide)) rfl T.f_lacking.m T.f_lacking.F.kp b_lacking .nil pass0 (pa_cons (pv 1) (pa_cons (pv 2) pa_nil se_Name) se_Name) (he:=se_Name) (hpl:=(np_cons se_Name np_nil))) pa_nil se_Call) se_Name) se_Call) (he:=se_Call) (hpl:=(np_cons se_Name (np_cons se_Call np_nil)))) pa_nil se_Call) se_Name) (he:=se_Name) (hpl:=(np_cons se_Call np_nil))))),?_⟩
  refine⟨_,rfl,_,rfl,callT (E:=E0) (fun d=>d=landD m (ws.map turnW)) (.cons tl .nil) ⟨m,ws,rfl,by omega,rfl⟩ fun d v1 H1 hd t1 s1=>?_⟩
  subst hd
  refine⟨_,rfl,_,rfl,_,rfl,[.int st,.list (tabL g)],(fun d=>d=.list (tabL (lkF st g))),.cons (.int _) (.cons (tg.keep s1) .nil),⟨st,g,rfl,by omega,rfl⟩,fun d v2 H2 hd t2 s2=>?_⟩
  subst hd
  refine callT (E:=E0) (fun d=>∃t,Least m (ws.map turnW) st (lkF st g) t∧d=.list (tabL t)) (.cons (t1.keep s2) (.cons (.int _) (.cons t2.any .nil))) ⟨m,_,st,_,rfl,turn_land ok,h0,hst,lk_tab hg,fun t ht=>⟨t,ht,rfl⟩⟩ fun d v3 H3 hd t3 s3=>?_
  obtain⟨t,ht,rfl⟩:=hd
  have htl:=ht.tab.len
  have s03:=(s1.tr s2).tr s3
  refine⟨[.int st,.list (tabL t)],(fun d=>d=.list (tabL (lkF st t))),.cons (.int _) (.cons t3 .nil),⟨st,t,rfl,by omega,rfl⟩,fun d v4 H4 hd t4 s4=>?_⟩
  subst hd
  exact told _ _ _ (q t ht) (t4.mv fun b o z e=>⟨NewS_early s03 z,e⟩) (s03.tr s4)
theorem ok_is_within (T:Txt K mg):FnOk P w K mg base CX0 1 T.f_is_within.a T.f_is_within.d ["level", "bound"] (spD [.sh,.sh] spWithO):=by
 refine fn_d T.f_is_within.F sc_is_within rfl (fun C cdv A outer s H E hr=>⟨_,(dss_one (ds_ret (pd_or (pd_cmp op_isN ok_isN (pd_var (pv 1)) pd_non (nomark _)) (pd_one (pd_and (pd_cmp op_notN ok_notN (pd_var (pv 0)) pd_non (nomark _)) (pd_one (pd_cmp op_le ok_le (pd_var (pv 0)) (pd_var (pv 1)) (nomark _)))))))),fun ds Q hl h=>?_⟩)
 obtain⟨a,b,rfl,q⟩:=h
 cases b with
 | none=>
  decreasing_trivial
  exact q
 | some y=>
  cases a with
  | none=>
   decreasing_trivial
   exact q
  | some x=>
   decreasing_trivial
   exact q
theorem ok_places_below (T:Txt K mg):FnOk P w K mg base CX0 2 T.f_places_below.a T.f_places_below.d ["table", "other"] spBelowN:=by
 have G_is_within:=@ok_is_within P w K mg base T
 have b_is_within:=T.f_is_within.b
 refine T.f_places_below.F.ok sc_places_below (fun vs H Q E h=>?_) (fun cdv A outer s H vs Q E hr h=>?_)
 ·obtain⟨ds,Qd,t,⟨t0,o0,rfl,_⟩,_⟩:=h
  rw[t.len];rfl
 ·obtain⟨ds,Qd,tv,⟨t0,o0,rfl,hlen,hl,q⟩,told⟩:=h
  obtain⟨v1,v2,rfl,t1,t2⟩:=ths2 tv
  obtain⟨at',ut,rfl,_,et,tut⟩:=th_lst t1
  obtain⟨ao,uo,rfl,_,eo,tuo⟩:=th_lst t2
  have lut:ut.length=t0.length:=by rw[tut.len,len_tab]
  refine⟨_,(pss_one (ps_ret (pe_comp (CompSc.new (N:=["table", "other"]) (osc:=defScope s_places_below) (by decide +kernel)) rfl (pi_range1 rfl T.n_range (pa_cons (pe_callB call_len_seq rfl T.n_len bt_len (pa_cons (pv 0) pa_nil se_Name) (he:=se_Name) (hpl:=np_nil)) pa_nil se_Call)) (fun _=>(pts_one (pt_not (pt_val (pe_call G_is_within (hr.mono (by decide)) rfl T.f_is_within.m T.f_is_within.F.kp b_is_within .nil pass0 (pa_cons (pe_ix ix_list (pv 1) (pv 2) (fun _ _=>rfl)) (pa_cons (pe_ix ix_list (pv 0) (pv 2) (fun _ _=>rfl)) pa_nil se_Subscript) se_Subscript) (he:=se_Subscript) (hpl:=(np_cons se_Subscript np_nil))))))) (fun _=>(pv 2))))),?_⟩
  refine⟨_,rfl,at',ut,rfl,.inl (SqL.of et),_,rfl,by omega,by omega,?_⟩
  refine comp_range (n:=((ut.length:Nat):Int).toNat) (fun i ys Hn=>Same H Hn∧ThVs TT0 H ys (numL ((List.range i).filter fun p=>!witB (gt o0 p) (gt t0 p)))) ?_ ⟨fun _ _ e=>e,.nil⟩ ?_ ?_ ?_
  ·rw[lut,sizeLine_eq];omega
  ·rintro i ys Hn hi ⟨h1,h2⟩
   rw[h2.len,len_num]
   exact Nat.le_trans (List.length_filter_le _ _) (by rw[List.length_range];exact Nat.le_refl _)
  ·rintro i ys Hn hi ⟨h1,h2⟩ ca
   rw[lut,Int.toNat_natCast] at hi
   rw[Int.zero_add]
   obtain⟨vo,hvo,tvo⟩:=atI_th tuo (tab_at (t:=o0) (p:=i) (by omega))
   obtain⟨vt,hvt,tvt⟩:=atI_th tut (tab_at (t:=t0) (p:=i) hi)
   refine⟨_,rfl,_,rfl,ao,uo,_,_,rfl,rfl,SqL.of (h1 _ _ eo),hvo,_,rfl,_,rfl,at',ut,_,_,rfl,rfl,SqL.of (h1 _ _ et),hvt,callT (E:=E0) (fun d=>d=.bool (witB (gt o0 i) (gt t0 i))) (.cons (tvo.any.keep h1) (.cons (tvt.any.keep h1) .nil)) ⟨_,_,rfl,rfl⟩ fun d v H' hd tv s'=>?_⟩
   subst hd
   cases tv
   refine⟨_,rfl,?_⟩
   rw[List.range_succ,List.filter_append]
   cases e:witB (gt o0 i) (gt t0 i) with
   | true=>
    refine iteF ⟨h1.tr s',?_⟩
    rw[List.filter_cons_of_neg (by rw[e];decide),List.filter_nil,List.append_nil]
    exact h2
   | false=>
    refine iteT ⟨_,rfl,h1.tr s',?_⟩
    rw[List.filter_cons_of_pos (by rw[e];rfl),List.filter_nil]
    unfold numL
    rw[List.map_append]
    exact h2.append (.cons (.int _) .nil)
  rintro ys Hn ⟨h1,h2⟩ p hp
  rw[lut,Int.toNat_natCast] at h2
  exact told _ _ _ q (.lst (.inl (h1.early hp)) upd_same (nums_any h2)) (h1.tr (Same.upd hp))
end
abbrev Kw:=List (Int×Wy)
def getW (kws:Kw) (k:Int):Option Wy:=(kws.find? fun q=>decide (q.1=k)).map (·.2)
def putW (kws:Kw) (k:Int) (w:Wy):Kw:=if (kws.any fun q=>decide (q.1=k))=true then kws.map (fun q=>if q.1=k then (q.1,w) else q) else kws++[(k,w)]
def delW (kws:Kw) (k:Int):Kw:=kws.filter fun q=>decide (q.1≠k)
def keysW (kws:Kw):List Int:=kws.map (·.1)
inductive KvAt (H:Hp):List (Key×V)→Kw→Prop
 | nil:KvAt H [] []
 | cons {k:Int} {v:V} {w:Wy} {kvs:List (Key×V)} {kws:Kw}:ThV TT0 H v (wayD w)→KvAt H kvs kws→KvAt H ((Sum.inl k,v)::kvs) ((k,w)::kws)
theorem ints_anyV {F G:Addr→Prop} {H H':Hp}:∀{xs:List Int} {us:List V},ThVs F H us (xs.map PyData.int)→ThVs G H' us (xs.map PyData.int)
 | [],_,h=>by cases h;exact .nil
 | x::xs,_,h=>by
  cases h with
  | cons y r=>cases y;exact .cons (.int _) (ints_anyV r)
theorem way_mv {F G:Addr→Prop} {H H':Hp} {v:V} {w:Wy} (t:ThV F H v (wayD w)) (s:∀b xs,H b=some (.tup xs)→H' b=some (.tup xs)) (g:∀b xs,H b=some (.tup xs)→G b):ThV G H' v (wayD w):=by
 obtain⟨a,us,rfl,_,e,tu⟩:=th_tup (show ThV F H v (.tuple ([((w.1:Nat):Int),((w.2.1:Nat):Int),w.2.2].map PyData.int)) from t)
 exact .tup (g _ _ e) (s _ _ e) (ints_anyV tu)
section
variable {H H':Hp} {kvs:List (Key×V)} {kws:Kw}
theorem KvAt.mv (h:KvAt H kvs kws) (s:∀b xs,H b=some (.tup xs)→H' b=some (.tup xs)):KvAt H' kvs kws:=by
 induction h with
 | nil=>exact .nil
 | cons t _ ih=>exact .cons (way_mv t s fun _ _ _=>trivial) ih
theorem KvAt.len (h:KvAt H kvs kws):kvs.length=kws.length:=by
 induction h with
 | nil=>rfl
 | cons _ _ ih=>rw[List.length_cons,List.length_cons,ih]
theorem KvAt.keys (h:KvAt H kvs kws):kvs.map (·.1)=(keysW kws).map Sum.inl:=by
 induction h with
 | nil=>rfl
 | cons _ _ ih=>
  unfold keysW at ih ⊢
  rw[List.map_cons,List.map_cons,List.map_cons,ih]
theorem inl_eq {a b:Int}:((Sum.inl a:Key)=Sum.inl b)↔a=b:=⟨fun h=>Sum.inl.inj h,fun h=>by rw[h]⟩
theorem getW_cons (q:Int×Wy) (r:Kw) (k:Int):getW (q::r) k=if q.1=k then some q.2 else getW r k:=by
 unfold getW
 rw[List.find?_cons]
 by_cases e:q.1=k
 ·rw[decide_eq_true e,if_pos e];rfl
 ·rw[decide_eq_false e,if_neg e]
theorem KvAt.val (h:KvAt H kvs kws) (k:Int):(valV kvs (Sum.inl k:Key)=none∧getW kws k=none)∨∃v w,valV kvs (Sum.inl k:Key)=some v∧getW kws k=some w∧ThV TT0 H v (wayD w):=by
 induction h with
 | nil=>exact .inl ⟨rfl,rfl⟩
 | @cons k' v w kvs kws t _ ih=>
  rw[getW_cons]
  by_cases e:k'=k
  ·subst e
   rw[if_pos rfl,valV_pos (p:=((Sum.inl k':Key),v)) rfl]
   exact .inr ⟨v,w,rfl,rfl,t⟩
  ·rw[if_neg e,valV_neg (p:=((Sum.inl k':Key),v)) (fun z=>e (Sum.inl.inj z))]
   exact ih
theorem KvAt.map (h:KvAt H kvs kws) {k:Int} {v:V} {w:Wy} (t:ThV TT0 H v (wayD w)):KvAt H (kvs.map fun kv=>if kv.1=(Sum.inl k:Key) then (kv.1,v) else kv) (kws.map fun q=>if q.1=k then (q.1,w) else q):=by
 induction h with
 | nil=>exact .nil
 | @cons k' v' w' kvs kws t' _ ih=>
  rw[List.map_cons,List.map_cons]
  by_cases e:k'=k
  ·rw[if_pos (show (Sum.inl k':Key)=Sum.inl k by rw[e]),if_pos (show k'=k from e)]
   exact .cons t ih
  ·rw[if_neg (show ¬ (Sum.inl k':Key)=Sum.inl k from fun z=>e (Sum.inl.inj z)),if_neg (show ¬ k'=k from e)]
   exact .cons t' ih
theorem KvAt.snoc (h:KvAt H kvs kws) {k:Int} {v:V} {w:Wy} (t:ThV TT0 H v (wayD w)):KvAt H (kvs++[(Sum.inl k,v)]) (kws++[(k,w)]):=by
 induction h with
 | nil=>exact .cons t .nil
 | cons t' _ ih=>exact .cons t' ih
theorem KvAt.any (h:KvAt H kvs kws) (k:Int):(kvs.any fun kv=>decide (kv.1=(Sum.inl k:Key)))=(kws.any fun q=>decide (q.1=k)):=by
 induction h with
 | nil=>rfl
 | cons _ _ ih=>
  rw[List.any_cons,List.any_cons,ih]
  congr 1
  exact decide_eq_decide.mpr inl_eq
theorem KvAt.put (h:KvAt H kvs kws) {k:Int} {v:V} {w:Wy} (t:ThV TT0 H v (wayD w)):KvAt H (putK kvs (Sum.inl k:Key) v) (putW kws k w):=by
 unfold putK putW
 rw[h.any k]
 split
 ·exact h.map t
 ·exact h.snoc t
theorem KvAt.drop (h:KvAt H kvs kws) (k:Int):KvAt H (dropK kvs (Sum.inl k:Key)) (delW kws k):=by
 unfold dropK delW
 induction h with
 | nil=>exact .nil
 | @cons k' v w kvs kws t _ ih=>
  by_cases e:k'=k
  ·rw[List.filter_cons_of_neg (by simp [e]),List.filter_cons_of_neg (by simp [e])]
   exact ih
  ·rw[List.filter_cons_of_pos (by simp [e]),List.filter_cons_of_pos (by simp [e])]
   exact .cons t ih
end
def srt (ns:List Int):List Int:=ns.mergeSort (fun a b=>decide (a≤b))
theorem srt_perm (ns:List Int):(srt ns).Perm ns:=List.mergeSort_perm ns _
theorem srt_sorted (ns:List Int):(srt ns).Pairwise (·≤·):=by
 have:=List.pairwise_mergeSort (le:=fun a b:Int=>decide (a≤b)) (fun a b c h1 h2=>by simp at *;omega) (fun a b=>by simp;omega) ns
 exact this.imp fun h=>by simpa using h
theorem srt_uniq {ns ms:List Int} (p:ms.Perm ns) (h:ms.Pairwise (·≤·)):ms=srt ns:=(p.trans (srt_perm ns).symm).eq_of_pairwise (fun a b _ _ h1 h2=>by omega) h (srt_sorted ns)
def wsF (kws:Kw):List Wy:=(srt (keysW kws)).map fun k=>(getW kws k).getD (0,0,0)
structure WyOk (m:Nat) (w:Wy):Prop where
 st:w.1 < m
 en:w.2.1 < m
 lo:-1000000000000000000≤w.2.2
 hi:w.2.2≤1000000000000000000
structure KOk (m:Nat) (st:Int) (g:Tb) (kws:Kw):Prop where
 m1:1≤m
 m2:m≤12
 s0:0≤st
 s1:st≤100000000000000000000
 gt:TabOk m st g
 nd:(keysW kws).Nodup
 few:kws.length≤40
 way:∀q∈kws,(1≤q.1∧q.1≤1000000000000000000)∧WyOk m q.2
theorem getW_mem {kws:Kw} {k:Int} {w:Wy} (h:getW kws k=some w):(k,w)∈kws:=by
 unfold getW at h
 cases e:kws.find? fun q=>decide (q.1=k) with
 | none=>rw[e] at h;cases h
 | some q=>
  rw[e] at h
  cases h
  have h1:=List.find?_some e
  have h2:=List.mem_of_find?_eq_some e
  have h3:q.1=k:=by simpa using h1
  rw[←h3];exact h2
theorem getW_of {kws:Kw} {k:Int} (h:k∈keysW kws):∃w,getW kws k=some w:=by
 induction kws with
 | nil=>cases h
 | cons q r ih=>
  rw[getW_cons]
  by_cases e:q.1=k
  ·rw[if_pos e];exact⟨_,rfl⟩
  ·rw[if_neg e]
   rcases List.mem_cons.mp (show k∈q.1::keysW r from h) with z | z
   ·exact absurd z.symm e
   ·exact ih z
theorem KOk.land {m:Nat} {st:Int} {g:Tb} {kws:Kw} (o:KOk m st g kws):LandOk m (wsF kws):=by
 have key:∀w∈wsF kws,WyOk m w:=fun w hw=>by
  unfold wsF at hw
  obtain⟨k,hk,rfl⟩:=List.mem_map.mp hw
  obtain⟨w',hw'⟩:=getW_of ((srt_perm _).mem_iff.mp hk)
  rw[hw']
  exact (o.way _ (getW_mem hw')).2
 refine⟨o.m1,o.m2,?_,fun w hw=>(key w hw).st,fun w hw=>(key w hw).en,fun w hw=>(key w hw).lo,fun w hw=>(key w hw).hi⟩
 unfold wsF
 rw[List.length_map,(srt_perm _).length_eq]
 unfold keysW
 rw[List.length_map]
 exact o.few
def LowR (m:Nat) (st:Int) (g:Tb) (kws:Kw) (low:Tb):Prop:=∃t,Least m ((wsF kws).map turnW) st (lkF st g) t∧low=lkF st t
theorem LowR.uniq {m:Nat} {st:Int} {g:Tb} {kws:Kw} {a b:Tb} (h:LowR m st g kws a) (k:LowR m st g kws b):a=b:=by
 obtain⟨t,h1,rfl⟩:=h
 obtain⟨u,h2,rfl⟩:=k
 rw[h1.uniq h2]
theorem LowR.tab {m:Nat} {st:Int} {g:Tb} {kws:Kw} {a:Tb} (h:LowR m st g kws a):TabOk m st a:=by
 obtain⟨t,h1,rfl⟩:=h
 exact lk_tab h1.tab
structure Kst where
 m:Nat
 st:Int
 g:Tb
 kws:Kw
 low:Tb
def kfs (m:Nat) (st:Int) (g d l:Addr):List (Str×V):=[("many",.int ((m:Nat):Int)),("full",.int st),("wanted",.ref g),("laid",.ref d),("lowest",.ref l)]
theorem kfs_many {m:Nat} {st:Int} {g d l:Addr}:(kfs m st g d l).lookup ("many" : Str)=some (.int ((m:Nat):Int)):=by with_unfolding_all rfl
theorem kfs_full {m:Nat} {st:Int} {g d l:Addr}:(kfs m st g d l).lookup ("full" : Str)=some (.int st):=by with_unfolding_all rfl
theorem kfs_wanted {m:Nat} {st:Int} {g d l:Addr}:(kfs m st g d l).lookup ("wanted" : Str)=some (.ref g):=by with_unfolding_all rfl
theorem kfs_laid {m:Nat} {st:Int} {g d l:Addr}:(kfs m st g d l).lookup ("laid" : Str)=some (.ref d):=by with_unfolding_all rfl
theorem kfs_lowest {m:Nat} {st:Int} {g d l:Addr}:(kfs m st g d l).lookup ("lowest" : Str)=some (.ref l):=by with_unfolding_all rfl
theorem kfs_no {m:Nat} {st:Int} {g d l:Addr} {f:Str} (h:(f == "many" ||f == "full" ||f == "wanted" ||f == "laid" ||f == "lowest")=false):(kfs m st g d l).lookup f=none:=by
 simp only[Bool.or_eq_false_iff] at h
 obtain⟨⟨⟨⟨h1,h2⟩,h3⟩,h4⟩,h5⟩:=h
 unfold kfs
 rw[List.lookup_cons,h1,List.lookup_cons,h2,List.lookup_cons,h3,List.lookup_cons,h4,List.lookup_cons,h5]
 rfl
theorem put_lowest {m:Nat} {st:Int} {g d l l':Addr}:putF "lowest" (.ref l') (kfs m st g d l)=kfs m st g d l':=by with_unfolding_all rfl
theorem put_full {m:Nat} {st st':Int} {g d l:Addr}:putF "full" (.int st') (kfs m st g d l)=kfs m st' g d l:=by with_unfolding_all rfl
theorem put_wanted {m:Nat} {st:Int} {g g' d l:Addr}:putF "wanted" (.ref g') (kfs m st g d l)=kfs m st g' d l:=by with_unfolding_all rfl
structure KpAt (F:Addr→Prop) (C:Addr) (H:Hp) (p d:Addr) (k:Kst):Prop where
 ob:∃dx g l ug ul,H p=some (.ins C dx (kfs k.m k.st g d l))∧F g∧H g=some (.lst ug)∧ThVs TT0 H ug (tabL k.g)∧F l∧H l=some (.lst ul)∧ThVs TT0 H ul (tabL k.low)
 dc:∃kvs,H d=some (.dK kvs)∧KvAt H kvs k.kws
theorem KpAt.mv {F G:Addr→Prop} {C:Addr} {H H':Hp} {p d:Addr} {k:Kst} (h:KpAt F C H p d k) (s:∀b o,H b=some o→(∀xs,o=.lst xs→F b)→H' b=some o) (hF:∀b,F b→G b):KpAt G C H' p d k:=by
 obtain⟨⟨dx,g,l,ug,ul,e1,g1,e2,t2,g3,e3,t3⟩,kvs,e4,kv⟩:=h
 refine⟨⟨dx,g,l,ug,ul,s _ _ e1 (fun xs z=>by cases z),hF _ g1,s _ _ e2 (fun _ _=>g1),tab_any t2,hF _ g3,s _ _ e3 (fun _ _=>g3),tab_any t3⟩,kvs,s _ _ e4 (fun xs z=>by cases z),kv.mv fun b xs e=>s _ _ e (fun _ z=>by cases z)⟩
theorem mid_of {t u:DS} {D:DEnds} {ρ:List Sl} (M:List Sl→Prop) (h1:t { D with nx:=M } ρ) (h2:∀ρ',M ρ'→Go (u D) ρ'):dSeqG (dMid t) u D ρ:=⟨M,h1,h2⟩
def spLabT:DSp:=fun ds Q=>∃x:Int,ds=[.int x]∧1≤x∧x≤1000000000000000000∧Q (.bool true)
def spChgT:DSp:=fun ds Q=>∃x:Int,ds=[.int x]∧-1000000000000000000≤x∧x≤1000000000000000000∧Q (.bool true)
def spWayT:DSp:=fun ds Q=>∃(m:Nat) (w:Wy),ds=[.int (m:Nat),wayD w]∧WyOk m w∧Q (.bool true)
def spStoreT:DSp:=fun ds Q=>∃x:Int,ds=[.int x]∧0≤x∧x≤100000000000000000000∧Q (.bool true)
def spLevelP:DSp:=fun ds Q=>∃st x:Int,ds=[.int st,.int x]∧0≤x∧x≤st∧Q (.bool true)
def spTabP:DSp:=fun ds Q=>∃(t:Tb) (m:Nat) (st:Int),ds=[.int (m:Nat),.int st,.list (tabL t)]∧m≤900∧TabOk m st t∧Q (.bool true)
theorem bools_all {α:Type} (b:Bool):∀xs:List α,boolsD (xs.map fun _=>PyData.bool b)=some (xs.map fun _=>b)
 | []=>rfl
 | x::xs=>by
  show (boolsD (xs.map fun _=>PyData.bool b)).map (b::·)=_
  rw[bools_all b xs];rfl
theorem all_trueB {α:Type}:∀xs:List α,(xs.map fun _=>true).all id=true
 | []=>rfl
 | x::xs=>by
  show (true&&(xs.map fun _=>true).all id)=true
  rw[all_trueB xs];rfl
theorem mem_gt {t:Tb} {o:Option Int} (h:o∈t):∃p,gt t p=o:=by
 obtain⟨p,hp,e⟩:=List.mem_iff_getElem.mp h
 exact⟨p,by unfold gt;rw[List.getElem?_eq_getElem hp,e];rfl⟩
section
variable {P:Program} {w:World} {K:PySem.W.Frag} {mg:Str→Option Value} {base:Heap}
theorem ok_is_label (T:Txt K mg):FnOk P w K mg base CX0 2 T.f_is_label.a T.f_is_label.d ["thing"] (spD [.sh] spLabT):=by
 have G_is_whole:=@ok_is_whole P w K mg base T
 have b_is_whole:=T.f_is_whole.b
 refine fn_d T.f_is_label.F sc_is_label rfl (fun C cdv A outer s H E hr=>⟨_,(dss_one (ds_ret (pd_and (pd_call (pe_call G_is_whole (hr.mono (by decide)) rfl T.f_is_whole.m T.f_is_whole.F.kp b_is_whole .nil pass0 (da_v (pd_var (pv 0)) da_nil se_Name) (he:=se_Name) (hpl:=np_nil))) (pd_one (pd_chain op_le op_le pd_int (pd_var (pv 0)) (pd_op op_pow ok_pow pd_int pd_int)))))),fun ds Q hl h=>?_⟩)
 obtain⟨x,rfl,x0,x1,q⟩:=h
 decreasing_tactic
 refine⟨_,rfl,?_⟩
 rw[show wholeD (.int x)=true from rfl]
 decreasing_tactic
 rw[decide_eq_true x0]
 decreasing_tactic
 refine⟨⟨by decide,by decide,by decide⟩,?_⟩
 rw[decide_eq_true (show x≤10 ^ (18:Int).toNat from Int.le_trans x1 (by decide))]
 exact q
theorem ok_is_change (T:Txt K mg):FnOk P w K mg base CX0 2 T.f_is_change.a T.f_is_change.d ["thing"] (spD [.sh] spChgT):=by
 have G_is_whole:=@ok_is_whole P w K mg base T
 have b_is_whole:=T.f_is_whole.b
 refine fn_d T.f_is_change.F sc_is_change rfl (fun C cdv A outer s H E hr=>⟨_,(dss_one (ds_ret (pd_and (pd_call (pe_call G_is_whole (hr.mono (by decide)) rfl T.f_is_whole.m T.f_is_whole.F.kp b_is_whole .nil pass0 (da_v (pd_var (pv 0)) da_nil se_Name) (he:=se_Name) (hpl:=np_nil))) (pd_one (pd_chain op_le op_le (pd_neg (pd_op op_pow ok_pow pd_int pd_int)) (pd_var (pv 0)) (pd_op op_pow ok_pow pd_int pd_int)))))),fun ds Q hl h=>?_⟩)
 obtain⟨x,rfl,x0,x1,q⟩:=h
 decreasing_tactic
 refine⟨_,rfl,?_⟩
 rw[show wholeD (.int x)=true from rfl]
 decreasing_tactic
 refine⟨⟨by decide,by decide,by decide⟩,?_⟩
 rw[decide_eq_true (show -(10:Int) ^ (18:Int).toNat≤x from Int.le_trans (by decide) x0)]
 decreasing_tactic
 refine⟨⟨by decide,by decide,by decide⟩,?_⟩
 rw[decide_eq_true (show x≤10 ^ (18:Int).toNat from Int.le_trans x1 (by decide))]
 exact q
theorem ok_is_way (T:Txt K mg):FnOk P w K mg base CX0 3 T.f_is_way.a T.f_is_way.d ["many", "thing"] (spD [.sh,.sh] spWayT):=by
 have G_is_place:=@ok_is_place P w K mg base T
 have b_is_place:=T.f_is_place.b
 have G_is_change:=@ok_is_change P w K mg base T
 have b_is_change:=T.f_is_change.b
 refine fn_d T.f_is_way.F sc_is_way rfl (fun C cdv A outer s H E hr=>⟨_,(@dss_consG _ _ _ _ _ _ (@ds_mid _ _ _ _ (@ds_if _ _ _ _ _ _ _ _ _ (PW.pt (@pwd_or _ _ _ _ _ _ _ _ (pdt_not (pdt_val (pd_isiv ty_tuple (pe_callB call_isinst2 rfl T.n_isinstance bt_isinstance (pa_cons (pv 1) (pa_cons (pe_bltn (v:=V.ty "tuple") rfl T.n_tuple bt_tuple rfl) pa_nil se_Name) se_Name) (he:=se_Name) (hpl:=(np_cons se_Name np_nil)))))) (pwd_or1 (pdt_cmp (op_neD (units_of hr)) ok_eq (pd_lenv (pe_callB call_len_seq rfl T.n_len bt_len (pa_cons (pv 1) pa_nil se_Name) (he:=se_Name) (hpl:=np_nil))) pd_int (nomark _))))) (dss_one (ds_ret pd_bl)) dss_nil)) (@dss_one _ _ _ _ (@ds_ret _ _ _ _ _ (@pd_and _ _ _ _ _ _ _ _ (pd_call (pe_call G_is_place (hr.mono (by decide)) rfl T.f_is_place.m T.f_is_place.F.kp b_is_place .nil pass0 (da_v (pd_var (pv 0)) (da_v (pd_ixv (pv 1) (pd_gi (pe_glob (v:=V.int 0) rfl T.mg_START ⟨_,rfl⟩)) (fun _ _=>rfl)) da_nil se_Subscript) se_Name) (he:=se_Name) (hpl:=(np_cons se_Subscript np_nil)))) (@pd_and _ _ _ _ _ _ _ _ (pd_call (pe_call G_is_place (hr.mono (by decide)) rfl T.f_is_place.m T.f_is_place.F.kp b_is_place .nil pass0 (da_v (pd_var (pv 0)) (da_v (pd_ixv (pv 1) (pd_gi (pe_glob (v:=V.int 1) rfl T.mg_END ⟨_,rfl⟩)) (fun _ _=>rfl)) da_nil se_Subscript) se_Name) (he:=se_Name) (hpl:=(np_cons se_Subscript np_nil)))) (pd_one (pd_call (pe_call G_is_change (hr.mono (by decide)) rfl T.f_is_change.m T.f_is_change.F.kp b_is_change .nil pass0 (da_v (pd_ixv (pv 1) (pd_gi (pe_glob (v:=V.int 2) rfl T.mg_CHANGE ⟨_,rfl⟩)) (fun _ _=>rfl)) da_nil se_Subscript) (he:=se_Subscript) (hpl:=np_nil))))))))),fun ds Q hl h=>?_⟩)
 obtain⟨m,w,rfl,ow,q⟩:=h
 refine mid_of (fun ρ'=>ρ'=[Sl.sh (.int ((m:Nat):Int)),Sl.sh (wayD w)]) ?_ ?_
 ·decreasing_trivial
  refine⟨rfl,rfl,min0 _ _,?_⟩
  exact iteF rfl
 rintro ρ rfl
 refine go ?_
 decreasing_trivial
 have h1:=ow.st
 have h2:=ow.en
 refine⟨_,_,rfl,?_⟩
 rw[decide_eq_true (show (0:Int)≤((w.1:Nat):Int)∧((w.1:Nat):Int) < ((m:Nat):Int) by omega)]
 decreasing_trivial
 refine⟨_,_,rfl,?_⟩
 rw[decide_eq_true (show (0:Int)≤((w.2.1:Nat):Int)∧((w.2.1:Nat):Int) < ((m:Nat):Int) by omega)]
 decreasing_trivial
 exact⟨w.2.2,rfl,ow.lo,ow.hi,q⟩
theorem ok_is_store (T:Txt K mg):FnOk P w K mg base CX0 2 T.f_is_store.a T.f_is_store.d ["thing"] (spD [.sh] spStoreT):=by
 have G_is_whole:=@ok_is_whole P w K mg base T
 have b_is_whole:=T.f_is_whole.b
 refine fn_d T.f_is_store.F sc_is_store rfl (fun C cdv A outer s H E hr=>⟨_,(dss_one (ds_ret (pd_and (pd_call (pe_call G_is_whole (hr.mono (by decide)) rfl T.f_is_whole.m T.f_is_whole.F.kp b_is_whole .nil pass0 (da_v (pd_var (pv 0)) da_nil se_Name) (he:=se_Name) (hpl:=np_nil))) (pd_one (pd_chain op_le op_le pd_int (pd_var (pv 0)) (pd_op op_pow ok_pow pd_int pd_int)))))),fun ds Q hl h=>?_⟩)
 obtain⟨x,rfl,x0,x1,q⟩:=h
 decreasing_tactic
 refine⟨_,rfl,?_⟩
 rw[show wholeD (.int x)=true from rfl]
 decreasing_tactic
 rw[decide_eq_true x0]
 decreasing_tactic
 refine⟨⟨by decide,by decide,by decide⟩,?_⟩
 rw[decide_eq_true (show x≤10 ^ (20:Int).toNat from Int.le_trans x1 (by decide))]
 exact q
theorem ok_is_level (T:Txt K mg):FnOk P w K mg base CX0 2 T.f_is_level.a T.f_is_level.d ["store", "thing"] (spD [.sh,.sh] spLevelP):=by
 have G_is_whole:=@ok_is_whole P w K mg base T
 have b_is_whole:=T.f_is_whole.b
 refine fn_d T.f_is_level.F sc_is_level rfl (fun C cdv A outer s H E hr=>⟨_,(dss_one (ds_ret (pd_and (pd_call (pe_call G_is_whole (hr.mono (by decide)) rfl T.f_is_whole.m T.f_is_whole.F.kp b_is_whole .nil pass0 (da_v (pd_var (pv 1)) da_nil se_Name) (he:=se_Name) (hpl:=np_nil))) (pd_one (pd_chain op_le op_le pd_int (pd_var (pv 1)) (pd_var (pv 0))))))),fun ds Q hl h=>?_⟩)
 obtain⟨st,x,rfl,x0,x1,q⟩:=h
 decreasing_tactic
 refine⟨_,rfl,?_⟩
 rw[show wholeD (.int x)=true from rfl]
 decreasing_tactic
 rw[decide_eq_true x0]
 decreasing_tactic
 rw[decide_eq_true x1]
 exact q
theorem ok_is_table (T:Txt K mg):FnOk P w K mg base CX0 3 T.f_is_table.a T.f_is_table.d ["many", "store", "thing"] (spD [.sh,.sh,.sh] spTabP):=by
 have G_is_level:=@ok_is_level P w K mg base T
 have b_is_level:=T.f_is_level.b
 refine fn_d T.f_is_table.F sc_is_table rfl (fun C cdv A outer s H E hr=>⟨_,(@dss_consG _ _ _ _ _ _ (@ds_mid _ _ _ _ (@ds_if _ _ _ _ _ _ _ _ _ (PW.pt (@pwd_or _ _ _ _ _ _ _ _ (pdt_not (pdt_val (pd_isiv ty_list (pe_callB call_isinst2 rfl T.n_isinstance bt_isinstance (pa_cons (pv 2) (pa_cons (pe_bltn (v:=V.ty "list") rfl T.n_list bt_list rfl) pa_nil se_Name) se_Name) (he:=se_Name) (hpl:=(np_cons se_Name np_nil)))))) (pwd_or1 (pdt_cmp (op_neD (units_of hr)) ok_eq (pd_lenv (pe_callB call_len_seq rfl T.n_len bt_len (pa_cons (pv 2) pa_nil se_Name) (he:=se_Name) (hpl:=np_nil))) (pd_var (pv 0)) (nomark _))))) (dss_one (ds_ret pd_bl)) dss_nil)) (@dss_one _ _ _ _ (@ds_ret _ _ _ _ _ (@pd_cb _ _ _ _ _ _ cb_all (@pe_callB _ _ _ _ _ _ _ _ _ (call_all rfl) rfl T.n_all bt_all (@dv_cons _ _ _ _ _ _ (@pd_f _ _ _ _ (@pf_comp _ _ _ _ _ _ _ _ rfl (@pe_comp _ _ _ _ _ _ _ _ _ _ _ _ _ _ _ (CompSc.new (N:=["many", "store", "thing"]) (osc:=defScope s_is_table) (by decide +kernel)) rfl (di_var (pv 2)) (fun _=>dts_nil) (fun _=>(pd_or (pd_cmp op_isN ok_isN (pd_var (pv 3)) pd_non (nomark _)) (pd_one (pd_call (pe_call G_is_level (hr.mono (by decide)) rfl T.f_is_level.m T.f_is_level.F.kp b_is_level .nil pass0 (da_v (pd_var (pv 1)) (da_v (pd_var (pv 3)) da_nil se_Name) se_Name) (he:=se_Name) (hpl:=(np_cons se_Name np_nil))))))) (by rfl) (by rfl) (by intro _;rfl)))) dv_nil se_ListComp) (by decide) (by decide) se_ListComp np_nil))))),fun ds Q hl h=>?_⟩)
 obtain⟨t,m,st,rfl,hm,ht,q⟩:=h
 have hl:=ht.len
 refine mid_of (fun ρ'=>ρ'=[Sl.sh (.int ((m:Nat):Int)),Sl.sh (.int st),Sl.sh (.list (tabL t))]) ?_ ?_
 ·decreasing_trivial
  refine⟨rfl,rfl,min0 _ _,?_⟩
  rw[eqv_int,len_tab,hl,beq_self_eq_true]
  exact iteF rfl
 rintro ρ rfl
 refine go ?_
 array_mem_dec
 refine⟨⟨rfl,by rw[len_tab];omega⟩,?_⟩
 unfold tabL
 refine compM (f:=fun _=>.bool true) (fun o ho Q' q'=>?_) ?_
 ·cases o with
  | none=>
   decreasing_trivial
   exact q'
  | some x=>
   obtain⟨p,hp⟩:=mem_gt ho
   obtain⟨b0,b1⟩:=ht.bd p x hp
   decreasing_trivial
   exact⟨st,x,rfl,b0,b1,q'⟩
 ·rw[List.nil_append]
  unfold gBs
  decreasing_tactic
  rw[bools_all]
  decreasing_tactic
  rw[all_trueB]
  exact q
end
theorem KpAt.same {F:Addr→Prop} {C:Addr} {H H':Hp} {p d:Addr} {k:Kst} (h:KpAt F C H p d k) (s:Same H H'):KpAt F C H' p d k:=h.mv (fun b o e _=>s _ _ e) fun _ z=>z
def TL (H:Hp) (v:V) (b:Addr):Prop:=v=.ref b∨∃a xs,v=.ref a∧H a=some (.tup xs)∧V.ref b∈xs
def Apt (C:Addr) (H:Hp) (p d:Addr) (k:Kst) (v:V):Prop:=(∀a x y,v=.ref a→H a=some (.tup [.ref x,.ref y])→x≠y)∧KpAt (fun b=>¬ TL H v b) C H p d k
theorem KpAt.ex {F:Addr→Prop} {C:Addr} {H:Hp} {p d:Addr} {k:Kst} (h:KpAt F C H p d k):KpAt (fun b=>∃xs,H b=some (.lst xs)) C H p d k:=by
 obtain⟨⟨dx,g,l,ug,ul,e1,g1,e2,t2,g3,e3,t3⟩,z⟩:=h
 exact⟨⟨dx,g,l,ug,ul,e1,⟨_,e2⟩,e2,t2,⟨_,e3⟩,e3,t3⟩,z⟩
theorem kp_apt {G G':Addr→Prop} {C:Addr} {H:Hp} {p d:Addr} {k:Kst} (h:KpAt G C H p d k) (n:∀b xs,G b→H b=some (.lst xs)→G' b):KpAt G' C H p d k:=by
 obtain⟨⟨dx,g,l,ug,ul,e1,g1,e2,t2,g3,e3,t3⟩,z⟩:=h
 exact⟨⟨dx,g,l,ug,ul,e1,n _ _ g1 e2,e2,t2,n _ _ g3 e3,e3,t3⟩,z⟩
section
variable {G:Addr→Prop} {C:Addr} {H H0:Hp} {p d:Addr} {k:Kst} {a:Addr}
theorem apt_int {i:Int} (h:KpAt G C H p d k):Apt C H p d k (.int i):=⟨(fun a x y e _=>by cases e),kp_apt h fun b xs _ _ z=>by
 rcases z with z | ⟨_,_,z,_⟩ <;> cases z⟩
theorem apt_lst {xs:List V} (h:KpAt (fun b=>∃xs,H0 b=some (.lst xs)) C H p d k) (n:H0 a=none) (e:H a=some (.lst xs)):Apt C H p d k (.ref a):=⟨(fun b x y e1 e2=>by
 cases e1
 rw[e] at e2;cases e2),kp_apt h fun b xs g _ z=>by
 obtain⟨ys,g⟩:=g
 rcases z with z | ⟨_,_,z,z2,_⟩
 ·cases z
  rw[n] at g;cases g
 ·cases z
  rw[e] at z2;cases z2⟩
theorem apt_tup {i:Int} {l:Addr} (h:KpAt (fun b=>∃xs,H0 b=some (.lst xs)) C H p d k) (n:H0 a=none) (n2:H0 l=none) (e:H a=some (.tup [.int i,.ref l])):Apt C H p d k (.ref a):=⟨(fun b x y e1 e2=>by
 cases e1
 rw[e] at e2;cases e2),kp_apt h fun b xs g _ z=>by
 obtain⟨ys,g⟩:=g
 rcases z with z | ⟨_,_,z,z2,z3⟩
 ·cases z
  rw[n] at g;cases g
 ·cases z
  rw[e] at z2;cases z2
  rcases List.mem_cons.mp z3 with z | z
  ·cases z
  ·cases List.mem_singleton.mp z
   rw[n2] at g;cases g⟩
theorem apt_way {F:Addr→Prop} {v:V} {w:Wy} (h:KpAt G C H p d k) (t:ThV F H v (wayD w)):Apt C H p d k v:=by
 obtain⟨a,us,rfl,_,e,tu⟩:=th_tup (show ThV F H v (.tuple ([((w.1:Nat):Int),((w.2.1:Nat):Int),w.2.2].map PyData.int)) from t)
 have hu:∀{xs:List Int} {us:List V},ThVs F H us (xs.map PyData.int)→∀b,V.ref b∉us:=fun {xs}=>by
  induction xs with
  | nil=>intro us t b z;cases t;cases z
  | cons x xs ih=>
   intro us t b z
   cases t with
   | cons y r=>
    cases y
    rcases List.mem_cons.mp z with z | z
    ·cases z
    ·exact ih r b z
 refine⟨fun b x y e1 e2=>?_,kp_apt h fun b xs _ eb z=>?_⟩
 ·cases e1
  rw[e] at e2
  cases e2
  exact absurd List.mem_cons_self (hu tu x)
 ·rcases z with z | ⟨_,_,z,z2,z3⟩
  ·cases z
   rw[e] at eb;cases eb
  ·cases z
   rw[e] at z2;cases z2
   exact hu tu b z3
end
def spMt (C:Addr) (pre:Kst→List PyData→Prop) (post:Kst→List PyData→PyData→Kst→Prop):Sp:=fun vs H Q _=>∃(F:Addr→Prop) (p d:Addr) (k:Kst) (us:List V) (ds:List PyData),vs=.ref p::us∧(∀b,H b=none→F b)∧KpAt F C H p d k∧ThVs TT0 H us ds∧pre k ds∧
 ∀r v k' H',post k ds r k'→KpAt F C H' p d k'→ThV (NewS H) H' v r→(∀b o,H b=some o→b≠p→b≠d→H' b=some o)→Apt C H' p d k' v→Q v H'
def preLand (k:Kst) (ds:List PyData):Prop:=ds=[]∧(keysW k.kws).length < 64
def postLand (k:Kst) (_:List PyData) (r:PyData) (k':Kst):Prop:=r=landD k.m (wsF k.kws)∧k'=k
def preLow (k:Kst) (ds:List PyData):Prop:=ds=[]
def postLow (k:Kst) (_:List PyData) (r:PyData) (k':Kst):Prop:=r=.list (tabL k.low)∧k'=k
def movD (a b:Tb):PyData:=.tuple [.list (numL (blwF b a)),.list (numL (blwF a b))]
def Movd (k:Kst) (low:Tb) (r:PyData) (k':Kst):Prop:=∃b,LowR k.m k.st k.g k.kws b∧r=movD low b∧k'={ k with low:=b }
def preMov (k:Kst) (ds:List PyData):Prop:=ds=[]∧KOk k.m k.st k.g k.kws∧k.low.length=k.m
def postMov (k:Kst) (_:List PyData) (r:PyData) (k':Kst):Prop:=Movd k k.low r k'
section
variable {P:Program} {w:World} {K:PySem.W.Frag} {mg:Str→Option Value} {base:Heap}
theorem ok_m_land (T:Txt K mg):FnOk P w K mg base CX0 1 T.a_m_land T.d_m_land ["self"] (spMt T.c_Keeper preLand postLand):=by
 refine T.F_m_land.ok sc_m_land (fun vs H Q E h=>?_) (fun cdv A outer s H vs Q E hr h=>?_)
 ·obtain⟨F,p,d,k,us,ds,rfl,_,_,tus,⟨rfl,_⟩,_⟩:=h
  cases tus;rfl
 ·obtain⟨F,p,d,k,us,ds,rfl,hF,kp,tus,⟨rfl,hk⟩,told⟩:=h
  cases tus
  have kp0:=kp
  obtain⟨⟨dx,g,l,ug,ul,e1,g1,e2,t2,g3,e3,t3⟩,kvs,e4,kv⟩:=kp
  refine⟨_,(pss_one (ps_ret (pe_tup (pa_cons (pe_fld (pv 0) rfl) (pa_cons (pe_comp (CompSc.new (N:=["self"]) (osc:=defScope s_m_land) (by decide +kernel)) rfl (pi_list (pe_callB (call_sortedK rfl) rfl T.n_sorted bt_sorted (pa_cons (pe_fld (pv 0) rfl) pa_nil se_Attribute) (he:=se_Attribute) (hpl:=np_nil))) (fun _=>pts_nil) (fun _=>(pe_dget (u1 (units_of hr)) (pe_fld (pv 0) rfl) (pv 1) (fun _ _=>rfl)))) pa_nil se_ListComp) se_Attribute)))),?_⟩
  refine⟨_,rfl,p,_,dx,_,_,rfl,e1,T.cl_Keeper,T.na_many,kfs_many,?_⟩
  refine⟨_,rfl,p,_,dx,_,_,rfl,e1,T.cl_Keeper,T.na_laid,kfs_laid,d,kvs,_,rfl,e4,kv.keys,hk,fun l1 ms hl1 hp hs=>?_⟩
  have ems:=srt_uniq hp hs
  subst ems
  obtain⟨H1,hH1⟩:∃H1,H1=upd H l1 (.lst ((srt (keysW k.kws)).map V.int)):=⟨_,rfl⟩
  rw[←hH1]
  have s1:Same H H1:=by rw[hH1];exact Same.upd hl1
  have el1:H1 l1=some (.lst ((srt (keysW k.kws)).map V.int)):=by rw[hH1];exact upd_same
  have lsr:(srt (keysW k.kws)).length < 64:=by rw[(srt_perm _).length_eq];exact hk
  refine⟨l1,rfl,⟨_,SqL.of el1⟩,?_⟩
  refine comp_list (xs:=(srt (keysW k.kws)).map V.int) (fun i ys Hn=>Hn=H1∧ThVs (NewS H) H1 ys (((wsF k.kws).take i).map wayD)) ?_ ⟨rfl,.nil⟩ ?_ ?_ ?_
  ·rw[List.length_map,sizeLine_eq];omega
  ·rintro i ys Hn hi ⟨rfl,h2⟩
   refine⟨?_,SqL.of el1⟩
   rw[h2.len,List.length_map,List.length_take]
   omega
  ·rintro i x ys Hn hx ⟨rfl,h2⟩ ca
   rw[List.getElem?_map] at hx
   obtain⟨n,hn,rfl⟩:=Option.map_eq_some_iff.mp hx
   obtain⟨w0,hw0⟩:=getW_of ((srt_perm _).mem_iff.mp (List.mem_of_getElem? hn))
   have hwi:(wsF k.kws)[i]?=some w0:=by
    unfold wsF
    rw[List.getElem?_map,hn,Option.map_some,hw0];rfl
   rcases kv.val n with ⟨_,z⟩ | ⟨v0,w1,hv,hw1,tv⟩
   ·rw[hw0] at z;cases z
   rw[hw0] at hw1
   cases hw1
   unfold tTrue
   refine iteT ⟨_,rfl,p,_,dx,_,_,rfl,s1 _ _ e1,T.cl_Keeper,T.na_laid,kfs_laid,_,rfl,d,v0,rfl,by rw[←hv];exact DGet.k (k:=Sum.inl n) (s1 _ _ e4),rfl,?_⟩
   rw[List.take_add_one,hwi,List.map_append]
   exact h2.append (.cons (way_mv tv (fun b xs e=>s1 _ _ e) fun b xs e=>.inr ⟨xs,e⟩) .nil)
  rintro ys Hn ⟨rfl,h2⟩ l2 hl2
  have lw:(wsF k.kws).length=(srt (keysW k.kws)).length:=by unfold wsF;rw[List.length_map]
  rw[List.length_map,←lw,List.take_length] at h2
  refine⟨by show 2≤sizeLine;decide,fun r hr'=>?_⟩
  have s2:Same Hn (upd Hn l2 (.lst ys)):=Same.upd hl2
  have s3:Same (upd Hn l2 (.lst ys)) _:=Same.upd (o:=.tup [.int ((k.m:Nat):Int),.ref l2]) hr'
  have s13:=(s1.tr s2).tr s3
  refine told _ _ k _ ⟨rfl,rfl⟩ (kp0.same s13) (.tup (.inl ((s1.tr s2).early hr')) upd_same (.cons (.int _) (.cons (.lst (.inl (s1.early hl2)) (s3 _ _ upd_same) ((h2.keep s2).keep s3)) .nil))) (fun b o e _ _=>s13 _ _ e) (apt_tup (kp0.ex.same s13) ((s1.tr s2).early hr') (s1.early hl2) upd_same)
theorem ok_m_least (T:Txt K mg):FnOk P w K mg base CX0 1 T.a_m_least T.d_m_least ["self"] (spMt T.c_Keeper preLow postLow):=by
 refine T.F_m_least.ok sc_m_least (fun vs H Q E h=>?_) (fun cdv A outer s H vs Q E hr h=>?_)
 ·obtain⟨F,p,d,k,us,ds,rfl,_,_,tus,rfl,_⟩:=h
  cases tus;rfl
 ·obtain⟨F,p,d,k,us,ds,rfl,hF,kp,tus,rfl,told⟩:=h
  cases tus
  have kp0:=kp
  obtain⟨⟨dx,g,l,ug,ul,e1,g1,e2,t2,g3,e3,t3⟩,kvs,e4,kv⟩:=kp
  refine⟨_,(pss_one (ps_ret (pe_callTy call_list_of rfl T.n_list bt_list (pa_cons (pe_fld (pv 0) rfl) pa_nil se_Attribute) (he:=se_Attribute) (hpl:=np_nil)))),?_⟩
  refine⟨_,rfl,p,_,dx,_,_,rfl,e1,T.cl_Keeper,T.na_lowest,kfs_lowest,l,ul,rfl,.inl (SqL.of e3),fun l2 hl2=>?_⟩
  exact told _ _ k _ ⟨rfl,rfl⟩ (kp0.same (Same.upd hl2)) (.lst (.inl hl2) upd_same (tab_any t3)) (fun b o e _ _=>Same.upd hl2 _ _ e) (apt_lst (kp0.ex.same (Same.upd hl2)) hl2 upd_same)
end
theorem kp_mem {F:Addr→Prop} {C:Addr} {H:Hp} {p d:Addr} {k:Kst} (h:KpAt F C H p d k) {b:Addr} {xs:List V} (e:H b=some (.lst xs)):b≠p∧b≠d:=by
 obtain⟨⟨dx,g,l,ug,ul,e1,_⟩,kvs,e4,_⟩:=h
 exact⟨(fun z=>by rw[z,e1] at e;cases e),fun z=>by rw[z,e4] at e;cases e⟩
theorem kp_tup {F:Addr→Prop} {C:Addr} {H:Hp} {p d:Addr} {k:Kst} (h:KpAt F C H p d k) {b:Addr} {xs:List V} (e:H b=some (.tup xs)):b≠p∧b≠d:=by
 obtain⟨⟨dx,g,l,ug,ul,e1,_⟩,kvs,e4,_⟩:=h
 exact⟨(fun z=>by rw[z,e1] at e;cases e),fun z=>by rw[z,e4] at e;cases e⟩
theorem kp_pd {F:Addr→Prop} {C:Addr} {H:Hp} {p d:Addr} {k:Kst} (h:KpAt F C H p d k):p≠d∧H p≠none∧H d≠none:=by
 obtain⟨⟨dx,g,l,ug,ul,e1,_⟩,kvs,e4,_⟩:=h
 exact⟨(fun z=>by rw[z,e4] at e1;cases e1),(fun z=>by rw[z] at e1;cases e1),fun z=>by rw[z] at e4;cases e4⟩
section
variable {P:Program} {w:World} {K:PySem.W.Frag} {mg:Str→Option Value} {base:Heap}
theorem ok_m_moved (T:Txt K mg):FnOk P w K mg base CX0 10 T.a_m_moved T.d_m_moved ["self"] (spMt T.c_Keeper preMov postMov):=by
 have G_m_land:=@ok_m_land P w K mg base T
 have b_m_land:=bd_m_land T
 have G_least:=@ok_least P w K mg base T
 have b_least:=T.f_least.b
 have G_places_below:=@ok_places_below P w K mg base T
 have b_places_below:=T.f_places_below.b
 refine T.F_m_moved.ok sc_m_moved (fun vs H Q E h=>?_) (fun cdv A outer s H vs Q E hr h=>?_)
 ·obtain⟨F,p,d,k,us,ds,rfl,_,_,tus,⟨rfl,_⟩,_⟩:=h
  cases tus;rfl
 ·obtain⟨F,p,d,k,us,ds,rfl,hF,kp,tus,⟨rfl,ok,hll⟩,told⟩:=h
  cases tus
  have kp0:=kp
  obtain⟨⟨dx,g,l,ug,ul,e1,g1,e2,t2,g3,e3,t3⟩,kvs,e4,kv⟩:=kp
  have fk:=ok.few
  have m2:=ok.m2
  have s1k:=ok.s1
  have lk:(keysW k.kws).length < 64:=by unfold keysW;rw[List.length_map];omega
  refine⟨_,(pss_cons (ps_set (i:=1) sc_m_moved.nd rfl (Or.inl rfl) (pe_fld (pv 0) rfl))
   (pss_cons (ps_fld (pv 0) (pe_call G_least (hr.mono (by decide)) rfl T.al_least_least T.f_least.F.kp b_least .nil pass0 (pa_cons (pe_meth0 (pv 0) T.cl_Keeper T.me_m_land G_m_land (hr.mono (by decide)) b_m_land .nil pass0) (pa_cons (pe_fld (pv 0) rfl) (pa_cons (pe_fld (pv 0) rfl) pa_nil se_Attribute) se_Attribute) se_Call) (he:=se_Call) (hpl:=(np_cons se_Attribute (np_cons se_Attribute np_nil)))) rfl)
   (pss_one (ps_ret (pe_tup (pa_cons (pe_call G_places_below (hr.mono (by decide)) rfl T.f_places_below.m T.f_places_below.F.kp b_places_below .nil pass0 (pa_cons (pe_fld (pv 0) rfl) (pa_cons (pv 1) pa_nil se_Name) se_Attribute) (he:=se_Attribute) (hpl:=(np_cons se_Name np_nil))) (pa_cons (pe_call G_places_below (hr.mono (by decide)) rfl T.f_places_below.m T.f_places_below.F.kp b_places_below .nil pass0 (pa_cons (pv 1) (pa_cons (pe_fld (pv 0) rfl) pa_nil se_Attribute) se_Name) (he:=se_Name) (hpl:=(np_cons se_Attribute np_nil))) pa_nil se_Call) se_Call)))))),?_⟩
  refine⟨_,rfl,p,_,dx,_,_,rfl,e1,T.cl_Keeper,T.na_lowest,kfs_lowest,?_⟩
  refine⟨_,rfl,p,dx,_,rfl,e1,kfs_no (by decide +kernel),F,p,d,k,[],[],rfl,hF,kp0,.nil,⟨rfl,lk⟩,fun r v k' H1 po kp1 tv fr _=>?_⟩
  obtain⟨rfl,rfl⟩:=po
  have kp1':=kp1
  obtain⟨⟨dx1,g',l',ug',ul',f1,gg1,f2,tt2,gg3,f3,tt3⟩,kvs',f4,kv'⟩:=kp1
  have n3:=kp_mem kp0 e3
  have e3':=fr _ _ e3 n3.1 n3.2
  refine⟨_,rfl,p,_,dx1,_,_,rfl,f1,T.cl_Keeper,T.na_full,kfs_full,_,rfl,p,_,dx1,_,_,rfl,f1,T.cl_Keeper,T.na_wanted,kfs_wanted,?_⟩
  refine⟨[landD k'.m (wsF k'.kws),.int k'.st,.list (tabL k'.g)],(fun d=>∃t,Least k'.m ((wsF k'.kws).map turnW) k'.st (lkF k'.st k'.g) t∧d=.list (tabL (lkF k'.st t))),.cons tv.any (.cons (.int _) (.cons (.lst trivial f2 tt2) .nil)),⟨k'.m,wsF k'.kws,k'.st,k'.g,rfl,ok.land,ok.s0,by omega,ok.gt,fun t ht=>⟨t,ht,rfl⟩⟩,fun d' v2 H2 hd' t2' s2=>?_⟩
  obtain⟨t,ht,rfl⟩:=hd'
  obtain⟨ln,un,rfl,gn,en,tn⟩:=th_lst t2'
  have lnn:H1 ln=none:=NewS_lst s2 gn en
  refine⟨_,rfl,p,_,dx1,_,rfl,s2 _ _ f1,T.cl_Keeper,T.na_lowest,by show 5 < 1000;decide,?_⟩
  rw[put_lowest]
  obtain⟨H3,hH3⟩:∃H3,H3=upd H2 p (.ins T.c_Keeper dx1 (kfs k'.m k'.st g' d ln)):=⟨_,rfl⟩
  rw[←hH3]
  have f3':∀b o,H2 b=some o→b≠p→H3 b=some o:=fun b o e n=>by rw[hH3,upd_ne n];exact e
  have pd:=kp_pd kp1'
  have np:∀{b:Addr} {xs:List V},H2 b=some (.lst xs)→H3 b=some (.lst xs):=fun {b xs} e=>f3' _ _ e fun z=>by rw[z,s2 _ _ f1] at e;cases e
  have lb:LowR k'.m k'.st k'.g k'.kws (lkF k'.st t):=⟨t,ht,rfl⟩
  have kpF:KpAt F T.c_Keeper H3 p d { k' with low:=lkF k'.st t }:=by
   refine⟨⟨dx1,g',ln,ug',un,by rw[hH3];exact upd_same,gg1,np (s2 _ _ f2),tab_any tt2,hF _ ?_,np en,tab_any tn⟩,kvs',f3' _ _ (s2 _ _ f4) pd.1.symm,kv'.mv fun b xs e=>f3' _ _ (s2 _ _ e) (kp_tup kp1' e).1⟩
   cases z:H ln with
   | none=>rfl
   | some o=>
    by_cases c1:ln=p
    ·rw[c1,s2 _ _ f1] at en;cases en
    ·by_cases c2:ln=d
     ·rw[c2,s2 _ _ f4] at en;cases en
     ·rw[fr _ _ z c1 c2] at lnn;cases lnn
  have eH3p:H3 p=some (.ins T.c_Keeper dx1 (kfs k'.m k'.st g' d ln)):=by rw[hH3];exact upd_same
  have lt:=lb.tab.len
  refine⟨_,rfl,p,_,dx1,_,_,rfl,eH3p,T.cl_Keeper,T.na_lowest,kfs_lowest,_,rfl,[.list (tabL (lkF k'.st t)),.list (tabL k'.low)],(fun d=>d=.list (numL (blwF (lkF k'.st t) k'.low))),.cons (.lst trivial (np en) (tab_any tn)) (.cons (.lst trivial (np (s2 _ _ e3')) (tab_any t3)) .nil),⟨_,_,rfl,by rw[lt,hll],by omega,rfl⟩,fun d' v4 H4 hd' t4 s4=>?_⟩
  subst hd'
  refine⟨_,rfl,_,rfl,p,_,dx1,_,_,rfl,s4 _ _ eH3p,T.cl_Keeper,T.na_lowest,kfs_lowest,[.list (tabL k'.low),.list (tabL (lkF k'.st t))],(fun d=>d=.list (numL (blwF k'.low (lkF k'.st t)))),.cons (.lst trivial (s4 _ _ (np (s2 _ _ e3'))) (tab_any t3)) (.cons (.lst trivial (s4 _ _ (np en)) (tab_any tn)) .nil),⟨_,_,rfl,by rw[lt,hll],by omega,rfl⟩,fun d' v5 H5 hd' t5 s5=>?_⟩
  subst hd'
  refine⟨by show 2≤sizeLine;decide,fun rr hrr=>?_⟩
  have s6:Same H5 (upd H5 rr (.tup [v4,v5])):=Same.upd hrr
  have s36:=(s4.tr s5).tr s6
  have fr3:∀b o,H b=some o→b≠p→b≠d→H3 b=some o:=fun b o e n1 n2=>f3' _ _ (s2 _ _ (fr _ _ e n1 n2)) n1
  have new3:∀b,NewS H3 b→NewS H b:=fun b hb=>by
   rcases hb with hb | ⟨xs,hb⟩
   ·cases z:H b with
    | none=>exact .inl z
    | some o=>
     by_cases c1:b=p
     ·rw[c1,eH3p] at hb;cases hb
     ·by_cases c2:b=d
      ·rw[c2,f3' _ _ (s2 _ _ f4) pd.1.symm] at hb;cases hb
      ·rw[fr3 _ _ z c1 c2] at hb;cases hb
   ·cases z:H b with
    | none=>exact .inl z
    | some o=>
     by_cases c1:b=p
     ·rw[c1,eH3p] at hb;cases hb
     ·by_cases c2:b=d
      ·rw[c2,f3' _ _ (s2 _ _ f4) pd.1.symm] at hb;cases hb
      ·have:=fr3 _ _ z c1 c2
       rw[hb] at this
       cases this
       exact .inr ⟨xs,z⟩
  refine told _ _ _ _ ⟨lkF k'.st t,lb,rfl,rfl⟩ (kpF.same s36) (.tup (new3 _ (.inl ((s4.tr s5).early hrr))) upd_same (.cons (((t4.mv fun b o z e=>⟨new3 _ z,e⟩).keep s5).keep s6) (.cons ((t5.mv fun b o z e=>⟨new3 _ (NewS_early s4 z),e⟩).keep s6) .nil))) (fun b o e n1 n2=>s36 _ _ (fr3 _ _ e n1 n2)) ⟨fun a x y z1 z2=>?_,kp_apt (kpF.ex.same s36) fun b xs g _ z=>?_⟩
  ·cases z1
   rw[upd_same] at z2
   cases z2
   obtain⟨_,_,ex,_,ex1,_⟩:=th_lst t4
   cases ex
   obtain⟨_,_,ey,gy,ey1,_⟩:=th_lst t5
   cases ey
   have:=NewS_lst s5 gy ey1
   intro z
   rw[←z,ex1] at this
   cases this
  ·obtain⟨ys,g⟩:=g
   rcases z with z | ⟨_,_,z,z2,z3⟩
   ·cases z
    rw[(s4.tr s5).early hrr] at g;cases g
   ·cases z
    rw[upd_same] at z2
    cases z2
    rcases List.mem_cons.mp z3 with z | z
    ·obtain⟨_,_,ex,gx,ex1,_⟩:=th_lst t4
     rw[←z] at ex
     cases ex
     rw[NewS_lst s4 gx ex1] at g;cases g
    ·have z:=List.mem_singleton.mp z
     obtain⟨_,_,ey,gy,ey1,_⟩:=th_lst t5
     rw[←z] at ey
     cases ey
     have:=NewS_lst s5 gy ey1
     rw[s4 _ _ g] at this;cases this
end
inductive Deed
 | lay (x:Int) (w:Wy)
 | lift (x:Int)
 | turn (x c:Int)
 | refill (s:Int)
 | aim (g:Tb)
def Deed.args:Deed→List PyData
 | .lay x w=>[.int x,.int ((w.1:Nat):Int),.int ((w.2.1:Nat):Int),.int w.2.2]
 | .lift x=>[.int x]
 | .turn x c=>[.int x,.int c]
 | .refill s=>[.int s]
 | .aim g=>[.list (tabL g)]
def trnW (kws:Kw) (x c:Int):Wy:=(((getW kws x).getD (0,0,0)).1,((getW kws x).getD (0,0,0)).2.1,c)
def aftK (k:Kst):Deed→Kst
 | .lay x w=>{ k with kws:=putW k.kws x w }
 | .lift x=>{ k with kws:=delW k.kws x }
 | .turn x c=>{ k with kws:=putW k.kws x (trnW k.kws x c) }
 | .refill s=>{ k with st:=s }
 | .aim g=>{ k with g:=g }
def LabOk (x:Int):Prop:=1≤x∧x≤1000000000000000000
def DeedOk (k:Kst):Deed→Prop
 | .lay x w=>LabOk x∧getW k.kws x=none∧WyOk k.m w∧k.kws.length < 40
 | .lift x=>LabOk x∧∃w,getW k.kws x=some w
 | .turn x c=>(LabOk x∧∃w,getW k.kws x=some w)∧-1000000000000000000≤c∧c≤1000000000000000000
 | .refill s=>(0≤s∧s≤100000000000000000000)∧TabOk k.m s k.g
 | .aim g=>TabOk k.m k.st g
theorem putW_new {kws:Kw} {x:Int} {w:Wy} (h:getW kws x=none):putW kws x w=kws++[(x,w)]:=by
 unfold putW
 rw[if_neg]
 intro z
 rw[List.any_eq_true] at z
 obtain⟨q,hq,e⟩:=z
 have e:q.1=x:=by simpa using e
 obtain⟨w',hw'⟩:=getW_of (kws:=kws) (k:=x) (by unfold keysW;exact List.mem_map.mpr ⟨q,hq,e⟩)
 rw[h] at hw';cases hw'
theorem putW_old {kws:Kw} {x:Int} {w w0:Wy} (h:getW kws x=some w0):putW kws x w=kws.map fun q=>if q.1=x then (q.1,w) else q:=by
 unfold putW
 rw[if_pos]
 rw[List.any_eq_true]
 exact⟨_,getW_mem h,by simp⟩
theorem keys_put_old {kws:Kw} {x:Int} {w w0:Wy} (h:getW kws x=some w0):keysW (putW kws x w)=keysW kws:=by
 rw[putW_old h]
 unfold keysW
 rw[List.map_map]
 refine List.map_congr_left fun q _=>?_
 show (if q.1=x then (q.1,w) else q).1=q.1
 split <;> rfl
theorem aft_ok {k:Kst} (o:KOk k.m k.st k.g k.kws):∀{dd:Deed},DeedOk k dd→KOk (aftK k dd).m (aftK k dd).st (aftK k dd).g (aftK k dd).kws
 | .lay x w,⟨lx,hn,hw,hl⟩=>by
  show KOk k.m k.st k.g (putW k.kws x w)
  rw[putW_new hn]
  refine { o with nd:=?_,few:=by rw[List.length_append,List.length_singleton];omega,way:=fun q hq=>?_ }
  ·unfold keysW
   rw[List.map_append]
   refine List.nodup_append.mpr ⟨o.nd,by simp,fun a ha b hb z=>?_⟩
   rw[List.mem_singleton.mp (show b∈[x] from hb)] at z
   obtain⟨w',hw'⟩:=getW_of (kws:=k.kws) (k:=x) (z▸ha)
   rw[hn] at hw';cases hw'
  ·rcases List.mem_append.mp hq with h | h
   ·exact o.way q h
   ·rw[List.mem_singleton.mp h];exact⟨lx,hw⟩
 | .lift x,_=>by
  show KOk k.m k.st k.g (delW k.kws x)
  unfold delW
  refine { o with nd:=?_,few:=Nat.le_trans (List.length_filter_le _ _) o.few,way:=fun q hq=>o.way q (List.mem_filter.mp hq).1 }
  exact List.Nodup.sublist (List.Sublist.map _ List.filter_sublist) o.nd
 | .turn x c,⟨⟨lx,w0,hw0⟩,c0,c1⟩=>by
  show KOk k.m k.st k.g (putW k.kws x (trnW k.kws x c))
  have wo:=(o.way _ (getW_mem hw0)).2
  have ht:trnW k.kws x c=(w0.1,w0.2.1,c):=by unfold trnW;rw[hw0];rfl
  refine { o with nd:=by rw[keys_put_old hw0];exact o.nd,few:=?_,way:=fun q hq=>?_ }
  ·rw[putW_old hw0,List.length_map];exact o.few
  ·rw[putW_old hw0] at hq
   obtain⟨q',hq',rfl⟩:=List.mem_map.mp hq
   split
   ·rename_i e
    refine⟨(o.way q' hq').1,?_⟩
    rw[ht]
    exact⟨wo.st,wo.en,c0,c1⟩
   ·exact o.way q' hq'
 | .refill s,⟨⟨s0,s1⟩,ht⟩=>{ o with s0:=s0,s1:=s1,gt:=ht }
 | .aim g,ht=>{ o with gt:=ht }
def preD (D:Deed→Prop) (k:Kst) (ds:List PyData):Prop:=∃dd,D dd∧ds=dd.args∧KOk k.m k.st k.g k.kws∧k.low.length=k.m∧DeedOk k dd
def postD (D:Deed→Prop) (k:Kst) (ds:List PyData) (r:PyData) (k':Kst):Prop:=∃dd,D dd∧ds=dd.args∧Movd (aftK k dd) k.low r k'
abbrev isLay (dd:Deed):Prop:=∃x w,dd=.lay x w
abbrev isLift (dd:Deed):Prop:=∃x,dd=.lift x
abbrev isTurn (dd:Deed):Prop:=∃x c,dd=.turn x c
abbrev isRefill (dd:Deed):Prop:=∃s,dd=.refill s
abbrev isAim (dd:Deed):Prop:=∃g,dd=.aim g
def preFnd (k:Kst) (ds:List PyData):Prop:=∃x w,ds=[.int x]∧LabOk x∧getW k.kws x=some w
def postFnd (k:Kst) (ds:List PyData) (r:PyData) (k':Kst):Prop:=(∃x w,ds=[.int x]∧getW k.kws x=some w∧r=wayD w)∧k'=k
theorem ths1' {F:Addr→Prop} {H:Hp} {vs:List V} {d:PyData} (t:ThVs F H vs [d]):∃v,vs=[v]∧ThV F H v d:=by
 cases t with
 | cons x t=>cases t;exact⟨_,rfl,x⟩
theorem ths4' {F:Addr→Prop} {H:Hp} {vs:List V} {d1 d2 d3 d4:PyData} (t:ThVs F H vs [d1,d2,d3,d4]):∃v1 v2 v3 v4,vs=[v1,v2,v3,v4]∧ThV F H v1 d1∧ThV F H v2 d2∧ThV F H v3 d3∧ThV F H v4 d4:=by
 cases t with
 | cons x1 t=>
 cases t with
 | cons x2 t=>
 obtain⟨v3,v4,rfl,t3,t4⟩:=ths2 t
 exact⟨_,_,v3,v4,rfl,x1,x2,t3,t4⟩
section
variable {P:Program} {w:World} {K:PySem.W.Frag} {mg:Str→Option Value} {base:Heap}
theorem ok_m_found (T:Txt K mg):FnOk P w K mg base CX0 3 T.a_m_found T.d_m_found ["self", "label"] (spMt T.c_Keeper preFnd postFnd):=by
 have G_is_label:=@ok_is_label P w K mg base T
 have b_is_label:=T.f_is_label.b
 refine T.F_m_found.ok sc_m_found (fun vs H Q E h=>?_) (fun cdv A outer s H vs Q E hr h=>?_)
 ·obtain⟨F,p,d,k,us,ds,rfl,_,_,tus,⟨x,w,rfl,_⟩,_⟩:=h
  obtain⟨v,rfl,_⟩:=ths1' tus
  rfl
 ·obtain⟨F,p,d,k,us,ds,rfl,hF,kp,tus,⟨x,w0,rfl,lx,hw⟩,told⟩:=h
  obtain⟨v,rfl,tx⟩:=ths1' tus
  cases tx
  have kp0:=kp
  obtain⟨⟨dx,g,l,ug,ul,e1,g1,e2,t2,g3,e3,t3⟩,kvs,e4,kv⟩:=kp
  rcases kv.val x with ⟨_,z⟩ | ⟨v0,w1,hv,hw1,tv⟩
  ·rw[hw] at z;cases z
  rw[hw] at hw1
  cases hw1
  refine⟨_,(pss_cons (ps_mid (ps_if (PW.pt (pw_or (pt_not (pt_val (pe_call G_is_label (hr.mono (by decide)) rfl T.f_is_label.m T.f_is_label.F.kp b_is_label .nil pass0 (pa_cons (pv 1) pa_nil se_Name) (he:=se_Name) (hpl:=np_nil)))) (pw_or1 (pt_cmp (pc_dnotin (u1 (units_of hr)) (pv 1) (pe_fld (pv 0) rfl))))))
   (pss_one ps_no)
   pss_nil))
   (pss_one (ps_ret (pe_dget (u1 (units_of hr)) (pe_fld (pv 0) rfl) (pv 1) (fun _ _=>rfl))))),?_⟩
  refine⟨fun σ' H'=>σ'=[some (.ref p),some (.int x)]∧Same H H',?_,?_⟩
  ·refine⟨_,rfl,callT (E:=E0) (fun d=>d=.bool true) (.cons (.int _) .nil) ⟨x,rfl,lx.1,lx.2,rfl⟩ fun d' v1 H1 hd t1 s1=>?_⟩
   subst hd
   cases t1
   refine⟨_,rfl,iteF ⟨_,rfl,_,rfl,p,_,dx,_,_,rfl,s1 _ _ e1,T.cl_Keeper,T.na_laid,kfs_laid,d,_,rfl,DGet.k (k:=Sum.inl x) (s1 _ _ e4),_,rfl,?_⟩⟩
   rw[hv]
   exact iteF ⟨rfl,s1⟩
  rintro σ' H1 ⟨rfl,s1⟩
  refine⟨_,rfl,p,_,dx,_,_,rfl,s1 _ _ e1,T.cl_Keeper,T.na_laid,kfs_laid,_,rfl,d,v0,rfl,by rw[←hv];exact DGet.k (k:=Sum.inl x) (s1 _ _ e4),?_⟩
  exact told _ _ k _ ⟨⟨x,w0,rfl,hw,rfl⟩,rfl⟩ (kp0.same s1) (way_mv tv (fun b xs e=>s1 _ _ e) fun b xs e=>.inr ⟨xs,e⟩) (fun b o e _ _=>s1 _ _ e) (apt_way (kp0.same s1) (way_mv (G:=TT0) tv (fun b xs e=>s1 _ _ e) fun _ _ _=>trivial))
theorem ok_m_lay (T:Txt K mg):FnOk P w K mg base CX0 11 T.a_m_lay T.d_m_lay ["self", "label", "start", "end", "change"] (spMt T.c_Keeper (preD isLay) (postD isLay)):=by
 have G_is_label:=@ok_is_label P w K mg base T
 have b_is_label:=T.f_is_label.b
 have G_is_way:=@ok_is_way P w K mg base T
 have b_is_way:=T.f_is_way.b
 have G_m_moved:=@ok_m_moved P w K mg base T
 have b_m_moved:=bd_m_moved T
 refine T.F_m_lay.ok sc_m_lay (fun vs H Q E h=>?_) (fun cdv A outer s H vs Q E hr h=>?_)
 ·obtain⟨F,p,d,k,us,ds,rfl,_,_,tus,⟨dd,⟨x,w,rfl⟩,rfl,_⟩,_⟩:=h
  rw[List.length_cons,tus.len];rfl
 ·obtain⟨F,p,d,k,us,ds,rfl,hF,kp,tus,⟨dd,⟨x,w0,rfl⟩,rfl,ok,hll,dok⟩,told⟩:=h
  obtain⟨lx,hn,ow,hlen⟩:=id dok
  obtain⟨v1,v2,v3,v4,rfl,t1,t2',t3',t4⟩:=ths4' tus
  cases t1
  cases t2'
  cases t3'
  cases t4
  have kp0:=kp
  obtain⟨⟨dx,g,l,ug,ul,e1,g1,e2,t2,g3,e3,t3⟩,kvs,e4,kv⟩:=kp
  have pd:=kp_pd kp0
  rcases kv.val x with ⟨hv,_⟩ | ⟨v0,w1,hv,hw1,tv⟩
  rotate_left
  ·rw[hn] at hw1;cases hw1
  refine⟨_,(pss_cons (ps_mid (ps_if (pt_not (pt_val (pe_call G_is_label (hr.mono (by decide)) rfl T.f_is_label.m T.f_is_label.F.kp b_is_label .nil pass0 (pa_cons (pv 1) pa_nil se_Name) (he:=se_Name) (hpl:=np_nil))))
   (pss_one ps_no)
   pss_nil))
   (pss_cons (ps_mid (ps_if (pt_cmp (pc_din (u1 (units_of hr)) (pv 1) (pe_fld (pv 0) rfl)))
   (pss_one ps_no)
   pss_nil))
   (pss_cons (ps_mid (ps_if (pt_not (pt_val (pe_call G_is_way (hr.mono (by decide)) rfl T.f_is_way.m T.f_is_way.F.kp b_is_way .nil pass0 (pa_cons (pe_fld (pv 0) rfl) (pa_cons (pe_tup (pa_cons (pv 2) (pa_cons (pv 3) (pa_cons (pv 4) pa_nil se_Name) se_Name) se_Name)) pa_nil se_Tuple) se_Attribute) (he:=se_Attribute) (hpl:=(np_cons se_Tuple np_nil)))))
   (pss_one ps_no)
   pss_nil))
   (pss_cons (ps_mid (ps_if (pt_cmpR op_ge (pe_callB call_lenD rfl T.n_len bt_len (pa_cons (pe_fld (pv 0) rfl) pa_nil se_Attribute) (he:=se_Attribute) (hpl:=np_nil)) (pe_glob (v:=V.int 40) rfl T.mg_MOST_WAYS ⟨_,rfl⟩) (nomark _))
   (pss_one ps_no)
   pss_nil))
   (pss_cons (ps_dput (u1 (units_of hr)) (pe_fld (pv 0) rfl) (pv 1) (pe_tup (pa_cons (pv 2) (pa_cons (pv 3) (pa_cons (pv 4) pa_nil se_Name) se_Name) se_Name)) rfl)
   (pss_one (ps_ret (pe_meth0 (pv 0) T.cl_Keeper T.me_m_moved G_m_moved (hr.mono (by decide)) b_m_moved .nil pass0)))))))),?_⟩
  refine⟨fun σ' H'=>σ'=[some (.ref p),some (.int x),some (.int ((w0.1:Nat):Int)),some (.int ((w0.2.1:Nat):Int)),some (.int w0.2.2)]∧Same H H',?_,?_⟩
  ·refine⟨_,rfl,callT (E:=E0) (fun d=>d=.bool true) (.cons (.int _) .nil) ⟨x,rfl,lx.1,lx.2,rfl⟩ fun d' v1 H1 hd t1 s1=>?_⟩
   subst hd
   cases t1
   exact⟨_,rfl,iteF ⟨rfl,s1⟩⟩
  rintro σ' H1 ⟨rfl,s1⟩
  refine⟨fun σ' H'=>σ'=[some (.ref p),some (.int x),some (.int ((w0.1:Nat):Int)),some (.int ((w0.2.1:Nat):Int)),some (.int w0.2.2)]∧Same H H',?_,?_⟩
  ·refine⟨_,rfl,_,rfl,p,_,dx,_,_,rfl,s1 _ _ e1,T.cl_Keeper,T.na_laid,kfs_laid,d,_,rfl,DGet.k (k:=Sum.inl x) (s1 _ _ e4),_,rfl,?_⟩
   rw[hv]
   exact iteF ⟨rfl,s1⟩
  clear s1
  rintro σ' H1 ⟨rfl,s1⟩
  refine⟨fun σ' H'=>σ'=[some (.ref p),some (.int x),some (.int ((w0.1:Nat):Int)),some (.int ((w0.2.1:Nat):Int)),some (.int w0.2.2)]∧Same H H',?_,?_⟩
  ·refine⟨_,rfl,p,_,dx,_,_,rfl,s1 _ _ e1,T.cl_Keeper,T.na_many,kfs_many,_,rfl,_,rfl,_,rfl,by show 3≤sizeLine;decide,fun t ht=>?_⟩
   have s2:=s1.tr (Same.upd (o:=.tup [.int ((w0.1:Nat):Int),.int ((w0.2.1:Nat):Int),.int w0.2.2]) ht)
   refine callT (E:=E0) (fun d=>d=.bool true) (.cons (.int _) (.cons (.tup trivial upd_same (.cons (.int _) (.cons (.int _) (.cons (.int _) .nil)))) .nil)) ⟨k.m,w0,rfl,ow,rfl⟩ fun d' v1 H3 hd t3 s3=>?_
   subst hd
   cases t3
   exact⟨_,rfl,iteF ⟨rfl,s2.tr s3⟩⟩
  clear s1
  rintro σ' H1 ⟨rfl,s1⟩
  refine⟨fun σ' H'=>σ'=[some (.ref p),some (.int x),some (.int ((w0.1:Nat):Int)),some (.int ((w0.2.1:Nat):Int)),some (.int w0.2.2)]∧Same H H',?_,?_⟩
  ·refine⟨_,rfl,p,_,dx,_,_,rfl,s1 _ _ e1,T.cl_Keeper,T.na_laid,kfs_laid,d,kvs,rfl,s1 _ _ e4,_,_,rfl,rfl,_,rfl,?_⟩
   rw[kv.len,decide_eq_false (show ¬ (40:Int)≤((k.kws.length:Nat):Int) by omega)]
   exact iteF ⟨rfl,s1⟩
  clear s1
  rintro σ' H1 ⟨rfl,s1⟩
  refine⟨_,rfl,_,rfl,_,rfl,by show 3≤sizeLine;decide,fun t ht=>?_⟩
  obtain⟨H2,hH2⟩:∃H2,H2=upd H1 t (.tup [.int ((w0.1:Nat):Int),.int ((w0.2.1:Nat):Int),.int w0.2.2]):=⟨_,rfl⟩
  rw[←hH2]
  have s12:Same H1 H2:=by rw[hH2];exact Same.upd ht
  have s2:=s1.tr s12
  have tw:ThV TT0 H2 (.ref t) (wayD w0):=.tup trivial (by rw[hH2];exact upd_same) (.cons (.int _) (.cons (.int _) (.cons (.int _) .nil)))
  clear hH2
  refine⟨_,rfl,p,_,dx,_,_,rfl,s2 _ _ e1,T.cl_Keeper,T.na_laid,kfs_laid,_,rfl,d,_,rfl,DPut.k (k:=Sum.inl x) (s2 _ _ e4) (by rw[kv.len,sizeLine_eq];omega),?_⟩
  obtain⟨H3,hH3⟩:∃H3,H3=upd H2 d (.dK (putK kvs (Sum.inl x:Key) (.ref t))):=⟨_,rfl⟩
  rw[←hH3]
  have f3:∀b o,H2 b=some o→b≠d→H3 b=some o:=fun b o e n=>by rw[hH3,upd_ne n];exact e
  have kp2:=kp0.same s2
  have kp3:KpAt F T.c_Keeper H3 p d (aftK k (.lay x w0)):=by
   have nl:∀{b:Addr} {xs:List V},H2 b=some (.lst xs)→H3 b=some (.lst xs):=fun e=>f3 _ _ e (kp_mem kp2 e).2
   exact⟨⟨dx,g,l,ug,ul,f3 _ _ (s2 _ _ e1) pd.1,g1,nl (s2 _ _ e2),tab_any t2,g3,nl (s2 _ _ e3),tab_any t3⟩,_,by rw[hH3];exact upd_same,((kv.mv fun b xs e=>s2 _ _ e).put tw).mv fun b xs e=>f3 _ _ e (kp_tup kp2 e).2⟩
  have e1':=f3 _ _ (s2 _ _ e1) pd.1
  have bk:∀b,H3 b=none→H b=none:=fun b hb=>by
   cases z:H b with
   | none=>rfl
   | some o=>
    by_cases c:b=d
    ·rw[c,hH3,upd_same] at hb;cases hb
    ·rw[f3 _ _ (s2 _ _ z) c] at hb;cases hb
  refine⟨_,rfl,p,dx,_,rfl,e1',kfs_no (by decide +kernel),F,p,d,aftK k (.lay x w0),[],[],rfl,fun b hb=>hF _ (bk b hb),kp3,.nil,⟨rfl,aft_ok ok dok,hll⟩,fun r v k' H4 po kp4 tv fr ap=>?_⟩
  refine told r v k' H4 ⟨_,⟨x,w0,rfl⟩,rfl,po⟩ kp4 (tv.mv fun b o z e=>⟨?_,e⟩) (fun b o e n1 n2=>fr _ _ (f3 _ _ (s2 _ _ e) n2) n1 n2) ap
  rcases z with z | ⟨xs,z⟩
  ·exact .inl (bk b z)
  ·cases y:H b with
   | none=>exact .inl y
   | some o'=>
    by_cases c:b=d
    ·rw[c,hH3,upd_same] at z;cases z
    ·have:=f3 _ _ (s2 _ _ y) c
     rw[z] at this
     cases this
     exact .inr ⟨xs,y⟩
end
theorem no_pd {H H3:Hp} {p d:Addr} {op od:HO} (hp:H3 p=some op) (hd:H3 d=some od) (f:∀b o,H b=some o→b≠p→b≠d→H3 b=some o) {b:Addr} (z:H3 b=none):H b=none:=by
 cases y:H b with
 | none=>rfl
 | some o=>
  by_cases c1:b=p
  ·rw[c1,hp] at z;cases z
  ·by_cases c2:b=d
   ·rw[c2,hd] at z;cases z
   ·rw[f _ _ y c1 c2] at z;cases z
theorem new_pd {H H3:Hp} {C dx p d:Addr} {fs:List (Str×V)} {kvs:List (Key×V)} (hp:H3 p=some (.ins C dx fs)) (hd:H3 d=some (.dK kvs)) (f:∀b o,H b=some o→b≠p→b≠d→H3 b=some o) {b:Addr} (z:NewS H3 b):NewS H b:=by
 rcases z with z | ⟨xs,z⟩
 ·exact .inl (no_pd hp hd f z)
 ·cases y:H b with
  | none=>exact .inl y
  | some o=>
   by_cases c1:b=p
   ·rw[c1,hp] at z;cases z
   ·by_cases c2:b=d
    ·rw[c2,hd] at z;cases z
    ·have:=f _ _ y c1 c2
     rw[z] at this
     cases this
     exact .inr ⟨xs,y⟩
section
variable {P:Program} {w:World} {K:PySem.W.Frag} {mg:Str→Option Value} {base:Heap}
theorem ok_m_lift (T:Txt K mg):FnOk P w K mg base CX0 11 T.a_m_lift T.d_m_lift ["self", "label"] (spMt T.c_Keeper (preD isLift) (postD isLift)):=by
 have G_m_moved:=@ok_m_moved P w K mg base T
 have b_m_moved:=bd_m_moved T
 have G_m_found:=@ok_m_found P w K mg base T
 have b_m_found:=bd_m_found T
 refine T.F_m_lift.ok sc_m_lift (fun vs H Q E h=>?_) (fun cdv A outer s H vs Q E hr h=>?_)
 ·obtain⟨F,p,d,k,us,ds,rfl,_,_,tus,⟨dd,⟨x,rfl⟩,rfl,_⟩,_⟩:=h
  rw[List.length_cons,tus.len];rfl
 ·obtain⟨F,p,d,k,us,ds,rfl,hF,kp,tus,⟨dd,⟨x,rfl⟩,rfl,ok,hll,dok⟩,told⟩:=h
  obtain⟨lx,w0,hw⟩:=id dok
  obtain⟨v1,rfl,t1⟩:=ths1' tus
  cases t1
  have kp0:=kp
  obtain⟨⟨dx,g,l,ug,ul,e1,g1,e2,t2,g3,e3,t3⟩,kvs,e4,kv⟩:=kp
  have pd:=kp_pd kp0
  refine⟨_,(pss_cons (ps_expr (pe_meth (pv 0) T.cl_Keeper T.me_m_found G_m_found (hr.mono (by decide)) b_m_found .nil pass0 (pa_cons (pv 1) pa_nil se_Name) (hst:=se_Name) (hpl:=np_nil)))
   (pss_cons (ps_expr (pe_dpop1 (pe_fld (pv 0) rfl) (pv 1) ⟨rfl,rfl,rfl,rfl⟩))
   (pss_one (ps_ret (pe_meth0 (pv 0) T.cl_Keeper T.me_m_moved G_m_moved (hr.mono (by decide)) b_m_moved .nil pass0))))),?_⟩
  refine⟨_,rfl,p,dx,_,rfl,e1,kfs_no (by decide +kernel),_,rfl,F,p,d,k,[.int x],[.int x],rfl,hF,kp0,.cons (.int _) .nil,⟨x,w0,rfl,lx,hw⟩,fun r v k' H1 po kp1 tv fr _=>?_⟩
  obtain⟨_,rfl⟩:=po
  have kp1':=kp1
  obtain⟨⟨dx1,g',l',ug',ul',f1,gg1,f2,tt2,gg3,f3,tt3⟩,kvs',f4,kv'⟩:=kp1
  rcases kv'.val x with ⟨_,z⟩ | ⟨v0,w1,hv,hw1,tv'⟩
  ·rw[hw] at z;cases z
  refine⟨_,rfl,p,_,dx1,_,_,rfl,f1,T.cl_Keeper,T.na_laid,kfs_laid,d,rfl,.inl ⟨kvs',.inl f4⟩,_,rfl,kvs',Sum.inl x,v0,f4,rfl,hv,?_⟩
  obtain⟨H3,hH3⟩:∃H3,H3=upd H1 d (.dK (dropK kvs' (Sum.inl x:Key))):=⟨_,rfl⟩
  rw[←hH3]
  have h3:∀b o,H1 b=some o→b≠d→H3 b=some o:=fun b o e n=>by rw[hH3,upd_ne n];exact e
  have ed:H3 d=some (.dK (dropK kvs' (Sum.inl x:Key))):=by rw[hH3];exact upd_same
  have kp3:KpAt F T.c_Keeper H3 p d (aftK k' (.lift x)):=by
   have nl:∀{b:Addr} {xs:List V},H1 b=some (.lst xs)→H3 b=some (.lst xs):=fun e=>h3 _ _ e (kp_mem kp1' e).2
   exact⟨⟨dx1,g',l',ug',ul',h3 _ _ f1 pd.1,gg1,nl f2,tab_any tt2,gg3,nl f3,tab_any tt3⟩,_,ed,(kv'.drop x).mv fun b xs e=>h3 _ _ e (kp_tup kp1' e).2⟩
  have fH:∀b o,H b=some o→b≠p→b≠d→H3 b=some o:=fun b o e n1 n2=>h3 _ _ (fr _ _ e n1 n2) n2
  have pH3:=h3 _ _ f1 pd.1
  have newF:∀b,NewS H3 b→NewS H b:=fun b z=>new_pd pH3 ed fH z
  have noF:∀b,H3 b=none→H b=none:=fun b z=>no_pd pH3 ed fH z
  refine⟨_,rfl,p,dx1,_,rfl,pH3,kfs_no (by decide +kernel),F,p,d,aftK k' (.lift x),[],[],rfl,fun b hb=>hF _ (noF b hb),kp3,.nil,⟨rfl,aft_ok ok dok,hll⟩,fun r v k2 H4 po kp4 tv fr4 ap=>?_⟩
  exact told r v k2 H4 ⟨_,⟨x,rfl⟩,rfl,po⟩ kp4 (tv.mv fun b o z e=>⟨newF b z,e⟩) (fun b o e n1 n2=>fr4 _ _ (fH _ _ e n1 n2) n1 n2) ap
theorem ok_m_turn (T:Txt K mg):FnOk P w K mg base CX0 11 T.a_m_turn T.d_m_turn ["self", "label", "change"] (spMt T.c_Keeper (preD isTurn) (postD isTurn)):=by
 have G_is_change:=@ok_is_change P w K mg base T
 have b_is_change:=T.f_is_change.b
 have G_m_moved:=@ok_m_moved P w K mg base T
 have b_m_moved:=bd_m_moved T
 have G_m_found:=@ok_m_found P w K mg base T
 have b_m_found:=bd_m_found T
 refine T.F_m_turn.ok sc_m_turn (fun vs H Q E h=>?_) (fun cdv A outer s H vs Q E hr h=>?_)
 ·obtain⟨F,p,d,k,us,ds,rfl,_,_,tus,⟨dd,⟨x,c,rfl⟩,rfl,_⟩,_⟩:=h
  rw[List.length_cons,tus.len];rfl
 ·obtain⟨F,p,d,k,us,ds,rfl,hF,kp,tus,⟨dd,⟨x,c,rfl⟩,rfl,ok,hll,dok⟩,told⟩:=h
  obtain⟨⟨lx,w0,hw⟩,c0,c1⟩:=id dok
  obtain⟨v1,v2,rfl,t1,t2'⟩:=ths2 tus
  cases t1
  cases t2'
  have kp0:=kp
  obtain⟨⟨dx,g,l,ug,ul,e1,g1,e2,t2,g3,e3,t3⟩,kvs,e4,kv⟩:=kp
  have pd:=kp_pd kp0
  refine⟨_,(pss_cons (ps_set (i:=3) sc_m_turn.nd rfl (Or.inl rfl) (pe_meth (pv 0) T.cl_Keeper T.me_m_found G_m_found (hr.mono (by decide)) b_m_found .nil pass0 (pa_cons (pv 1) pa_nil se_Name) (hst:=se_Name) (hpl:=np_nil)))
   (pss_cons (ps_mid (ps_if (pt_not (pt_val (pe_call G_is_change (hr.mono (by decide)) rfl T.f_is_change.m T.f_is_change.F.kp b_is_change .nil pass0 (pa_cons (pv 2) pa_nil se_Name) (he:=se_Name) (hpl:=np_nil))))
   (pss_one ps_no)
   pss_nil))
   (pss_cons (ps_dput (u1 (units_of hr)) (pe_fld (pv 0) rfl) (pv 1) (pe_tup (pa_cons (pe_ix ix_seq (pv 3) (pe_glob (v:=V.int 0) rfl T.mg_START ⟨_,rfl⟩) (fun _ _=>rfl)) (pa_cons (pe_ix ix_seq (pv 3) (pe_glob (v:=V.int 1) rfl T.mg_END ⟨_,rfl⟩) (fun _ _=>rfl)) (pa_cons (pv 2) pa_nil se_Name) se_Subscript) se_Subscript)) rfl)
   (pss_one (ps_ret (pe_meth0 (pv 0) T.cl_Keeper T.me_m_moved G_m_moved (hr.mono (by decide)) b_m_moved .nil pass0)))))),?_⟩
  refine⟨_,rfl,p,dx,_,rfl,e1,kfs_no (by decide +kernel),_,rfl,F,p,d,k,[.int x],[.int x],rfl,hF,kp0,.cons (.int _) .nil,⟨x,w0,rfl,lx,hw⟩,fun r v k' H1 po kp1 tv fr _=>?_⟩
  obtain⟨⟨x',w0',ex,hw',rfl⟩,rfl⟩:=po
  cases ex
  rw[hw] at hw'
  cases hw'
  obtain⟨tw,utw,rfl,gtw,etw,ttw⟩:=th_tup (show ThV (NewS H) H1 v (.tuple ([((w0.1:Nat):Int),((w0.2.1:Nat):Int),w0.2.2].map PyData.int)) from tv)
  cases ttw with
  | @cons y1 _ _ _ ty1 ttw=>
  cases ttw with
  | @cons y2 _ _ _ ty2 ttw=>
  cases ttw with
  | @cons y3 _ _ _ ty3 ttw=>
  cases ttw
  cases ty1
  cases ty2
  cases ty3
  have kp1':=kp1
  obtain⟨⟨dx1,g',l',ug',ul',f1,gg1,f2,tt2,gg3,f3,tt3⟩,kvs',f4,kv'⟩:=kp1
  refine⟨fun σ' H'=>σ'=[some (.ref p),some (.int x),some (.int c),some (.ref tw)]∧Same H1 H',?_,?_⟩
  ·refine⟨_,rfl,callT (E:=E0) (fun d=>d=.bool true) (.cons (.int _) .nil) ⟨c,rfl,c0,c1,rfl⟩ fun d' v1 H2 hd t1 s1=>?_⟩
   subst hd
   cases t1
   exact⟨_,rfl,iteF ⟨rfl,s1⟩⟩
  rintro σ' H2 ⟨rfl,s2⟩
  refine⟨_,rfl,.inr (.inl ⟨tw,_,0,_,rfl,rfl,SqT.of (s2 _ _ etw),rfl,_,rfl,.inr (.inl ⟨tw,_,1,_,rfl,rfl,SqT.of (s2 _ _ etw),rfl,_,rfl,by show 3≤sizeLine;decide,fun t ht=>?_⟩)⟩)⟩
  obtain⟨H2',hH2⟩:∃H2',H2'=upd H2 t (.tup [.int ((w0.1:Nat):Int),.int ((w0.2.1:Nat):Int),.int c]):=⟨_,rfl⟩
  rw[←hH2]
  have s12:Same H1 H2':=s2.tr (by rw[hH2];exact Same.upd ht)
  have etr:trnW k'.kws x c=(w0.1,w0.2.1,c):=by unfold trnW;rw[hw];rfl
  have twD:ThV TT0 H2' (.ref t) (wayD (trnW k'.kws x c)):=by
   rw[etr]
   exact .tup trivial (by rw[hH2];exact upd_same) (.cons (.int _) (.cons (.int _) (.cons (.int _) .nil)))
  clear hH2
  refine⟨_,rfl,p,_,dx1,_,_,rfl,s12 _ _ f1,T.cl_Keeper,T.na_laid,kfs_laid,_,rfl,d,_,rfl,DPut.k (k:=Sum.inl x) (s12 _ _ f4) (by rw[kv'.len,sizeLine_eq];have:=ok.few;omega),?_⟩
  obtain⟨H3,hH3⟩:∃H3,H3=upd H2' d (.dK (putK kvs' (Sum.inl x:Key) (.ref t))):=⟨_,rfl⟩
  rw[←hH3]
  have h3:∀b o,H2' b=some o→b≠d→H3 b=some o:=fun b o e n=>by rw[hH3,upd_ne n];exact e
  have ed:H3 d=some (.dK (putK kvs' (Sum.inl x:Key) (.ref t))):=by rw[hH3];exact upd_same
  have kp2:=kp1'.same s12
  have kp3:KpAt F T.c_Keeper H3 p d (aftK k' (.turn x c)):=by
   have nl:∀{b:Addr} {xs:List V},H2' b=some (.lst xs)→H3 b=some (.lst xs):=fun e=>h3 _ _ e (kp_mem kp2 e).2
   exact⟨⟨dx1,g',l',ug',ul',h3 _ _ (s12 _ _ f1) pd.1,gg1,nl (s12 _ _ f2),tab_any tt2,gg3,nl (s12 _ _ f3),tab_any tt3⟩,_,ed,((kv'.mv fun b xs e=>s12 _ _ e).put twD).mv fun b xs e=>h3 _ _ e (kp_tup kp2 e).2⟩
  have fH:∀b o,H b=some o→b≠p→b≠d→H3 b=some o:=fun b o e n1 n2=>h3 _ _ (s12 _ _ (fr _ _ e n1 n2)) n2
  have pH3:=h3 _ _ (s12 _ _ f1) pd.1
  have newF:∀b,NewS H3 b→NewS H b:=fun b z=>new_pd pH3 ed fH z
  have noF:∀b,H3 b=none→H b=none:=fun b z=>no_pd pH3 ed fH z
  refine⟨_,rfl,p,dx1,_,rfl,pH3,kfs_no (by decide +kernel),F,p,d,aftK k' (.turn x c),[],[],rfl,fun b hb=>hF _ (noF b hb),kp3,.nil,⟨rfl,aft_ok ok dok,hll⟩,fun r v k2 H4 po kp4 tv fr4 ap=>?_⟩
  exact told r v k2 H4 ⟨_,⟨x,c,rfl⟩,rfl,po⟩ kp4 (tv.mv fun b o z e=>⟨newF b z,e⟩) (fun b o e n1 n2=>fr4 _ _ (fH _ _ e n1 n2) n1 n2) ap
theorem ok_m_refill (T:Txt K mg):FnOk P w K mg base CX0 11 T.a_m_refill T.d_m_refill ["self", "store"] (spMt T.c_Keeper (preD isRefill) (postD isRefill)):=by
 have G_is_store:=@ok_is_store P w K mg base T
 have b_is_store:=T.f_is_store.b
 have G_is_table:=@ok_is_table P w K mg base T
 have b_is_table:=T.f_is_table.b
 have G_m_moved:=@ok_m_moved P w K mg base T
 have b_m_moved:=bd_m_moved T
 refine T.F_m_refill.ok sc_m_refill (fun vs H Q E h=>?_) (fun cdv A outer s H vs Q E hr h=>?_)
 ·obtain⟨F,p,d,k,us,ds,rfl,_,_,tus,⟨dd,⟨x,rfl⟩,rfl,_⟩,_⟩:=h
  rw[List.length_cons,tus.len];rfl
 ·obtain⟨F,p,d,k,us,ds,rfl,hF,kp,tus,⟨dd,⟨x,rfl⟩,rfl,ok,hll,dok⟩,told⟩:=h
  obtain⟨⟨x0,x1⟩,htab⟩:=id dok
  obtain⟨v1,rfl,t1⟩:=ths1' tus
  cases t1
  have m2:=ok.m2
  have kp0:=kp
  obtain⟨⟨dx,g,l,ug,ul,e1,g1,e2,t2,g3,e3,t3⟩,kvs,e4,kv⟩:=kp
  have pd:=kp_pd kp0
  refine⟨_,(pss_cons (ps_mid (ps_if (PW.pt (pw_or (pt_not (pt_val (pe_call G_is_store (hr.mono (by decide)) rfl T.f_is_store.m T.f_is_store.F.kp b_is_store .nil pass0 (pa_cons (pv 1) pa_nil se_Name) (he:=se_Name) (hpl:=np_nil)))) (pw_or1 (pt_not (pt_val (pe_call G_is_table (hr.mono (by decide)) rfl T.f_is_table.m T.f_is_table.F.kp b_is_table .nil pass0 (pa_cons (pe_fld (pv 0) rfl) (pa_cons (pv 1) (pa_cons (pe_fld (pv 0) rfl) pa_nil se_Attribute) se_Name) se_Attribute) (he:=se_Attribute) (hpl:=(np_cons se_Name (np_cons se_Attribute np_nil)))))))))
   (pss_one ps_no)
   pss_nil))
   (pss_cons (ps_fld (pv 0) (pv 1) rfl)
   (pss_one (ps_ret (pe_meth0 (pv 0) T.cl_Keeper T.me_m_moved G_m_moved (hr.mono (by decide)) b_m_moved .nil pass0))))),?_⟩
  refine⟨fun σ' H'=>σ'=[some (.ref p),some (.int x)]∧Same H H',?_,?_⟩
  ·refine⟨_,rfl,callT (E:=E0) (fun d=>d=.bool true) (.cons (.int _) .nil) ⟨x,rfl,x0,x1,rfl⟩ fun d' v1 H1 hd t1 s1=>?_⟩
   subst hd
   cases t1
   refine⟨_,rfl,iteF ⟨_,rfl,p,_,dx,_,_,rfl,s1 _ _ e1,T.cl_Keeper,T.na_many,kfs_many,_,rfl,_,rfl,p,_,dx,_,_,rfl,s1 _ _ e1,T.cl_Keeper,T.na_wanted,kfs_wanted,callT (E:=E0) (fun d=>d=.bool true) (.cons (.int _) (.cons (.int _) (.cons (.lst trivial (s1 _ _ e2) (tab_any t2)) .nil))) ⟨k.g,k.m,x,rfl,by omega,htab,rfl⟩ fun d' v1 H2 hd t1 s2=>?_⟩⟩
   subst hd
   cases t1
   exact⟨_,rfl,iteF ⟨rfl,s1.tr s2⟩⟩
  rintro σ' H1 ⟨rfl,s1⟩
  refine⟨_,rfl,_,rfl,p,_,dx,_,rfl,s1 _ _ e1,T.cl_Keeper,T.na_full,by show 5 < 1000;decide,?_⟩
  rw[put_full]
  obtain⟨H3,hH3⟩:∃H3,H3=upd H1 p (.ins T.c_Keeper dx (kfs k.m x g d l)):=⟨_,rfl⟩
  rw[←hH3]
  have h3:∀b o,H1 b=some o→b≠p→H3 b=some o:=fun b o e n=>by rw[hH3,upd_ne n];exact e
  have pH3:H3 p=some (.ins T.c_Keeper dx (kfs k.m x g d l)):=by rw[hH3];exact upd_same
  have kp1:=kp0.same s1
  have ed:=h3 _ _ (s1 _ _ e4) pd.1.symm
  have kp3:KpAt F T.c_Keeper H3 p d (aftK k (.refill x)):=by
   have nl:∀{b:Addr} {xs:List V},H1 b=some (.lst xs)→H3 b=some (.lst xs):=fun e=>h3 _ _ e (kp_mem kp1 e).1
   exact⟨⟨dx,g,l,ug,ul,pH3,g1,nl (s1 _ _ e2),tab_any t2,g3,nl (s1 _ _ e3),tab_any t3⟩,_,ed,kv.mv fun b xs e=>h3 _ _ (s1 _ _ e) (kp_tup kp1 (s1 _ _ e)).1⟩
  have fH:∀b o,H b=some o→b≠p→b≠d→H3 b=some o:=fun b o e n1 n2=>h3 _ _ (s1 _ _ e) n1
  have newF:∀b,NewS H3 b→NewS H b:=fun b z=>new_pd pH3 ed fH z
  have noF:∀b,H3 b=none→H b=none:=fun b z=>no_pd pH3 ed fH z
  refine⟨_,rfl,p,dx,_,rfl,pH3,kfs_no (by decide +kernel),F,p,d,aftK k (.refill x),[],[],rfl,fun b hb=>hF _ (noF b hb),kp3,.nil,⟨rfl,aft_ok ok dok,hll⟩,fun r v k2 H4 po kp4 tv fr4 ap=>?_⟩
  exact told r v k2 H4 ⟨_,⟨x,rfl⟩,rfl,po⟩ kp4 (tv.mv fun b o z e=>⟨newF b z,e⟩) (fun b o e n1 n2=>fr4 _ _ (fH _ _ e n1 n2) n1 n2) ap
theorem ok_m_aim (T:Txt K mg):FnOk P w K mg base CX0 11 T.a_m_aim T.d_m_aim ["self", "goal"] (spMt T.c_Keeper (preD isAim) (postD isAim)):=by
 have G_is_table:=@ok_is_table P w K mg base T
 have b_is_table:=T.f_is_table.b
 have G_m_moved:=@ok_m_moved P w K mg base T
 have b_m_moved:=bd_m_moved T
 refine T.F_m_aim.ok sc_m_aim (fun vs H Q E h=>?_) (fun cdv A outer s H vs Q E hr h=>?_)
 ·obtain⟨F,p,d,k,us,ds,rfl,_,_,tus,⟨dd,⟨x,rfl⟩,rfl,_⟩,_⟩:=h
  rw[List.length_cons,tus.len];rfl
 ·obtain⟨F,p,d,k,us,ds,rfl,hF,kp,tus,⟨dd,⟨x,rfl⟩,rfl,ok,hll,dok⟩,told⟩:=h
  have htab:TabOk k.m k.st x:=dok
  obtain⟨v1,rfl,t1⟩:=ths1' tus
  obtain⟨ag,uag,rfl,_,eag,tag⟩:=th_lst t1
  have m2:=ok.m2
  have kp0:=kp
  obtain⟨⟨dx,g,l,ug,ul,e1,g1,e2,t2,g3,e3,t3⟩,kvs,e4,kv⟩:=kp
  have pd:=kp_pd kp0
  refine⟨_,(pss_cons (ps_mid (ps_if (pt_not (pt_val (pe_call G_is_table (hr.mono (by decide)) rfl T.f_is_table.m T.f_is_table.F.kp b_is_table .nil pass0 (pa_cons (pe_fld (pv 0) rfl) (pa_cons (pe_fld (pv 0) rfl) (pa_cons (pv 1) pa_nil se_Name) se_Attribute) se_Attribute) (he:=se_Attribute) (hpl:=(np_cons se_Attribute (np_cons se_Name np_nil))))))
   (pss_one ps_no)
   pss_nil))
   (pss_cons (ps_fld (pv 0) (pe_callTy call_list_of rfl T.n_list bt_list (pa_cons (pv 1) pa_nil se_Name) (he:=se_Name) (hpl:=np_nil)) rfl)
   (pss_one (ps_ret (pe_meth0 (pv 0) T.cl_Keeper T.me_m_moved G_m_moved (hr.mono (by decide)) b_m_moved .nil pass0))))),?_⟩
  refine⟨fun σ' H'=>σ'=[some (.ref p),some (.ref ag)]∧Same H H',?_,?_⟩
  ·refine⟨_,rfl,p,_,dx,_,_,rfl,e1,T.cl_Keeper,T.na_many,kfs_many,_,rfl,p,_,dx,_,_,rfl,e1,T.cl_Keeper,T.na_full,kfs_full,_,rfl,callT (E:=E0) (fun d=>d=.bool true) (.cons (.int _) (.cons (.int _) (.cons (.lst trivial eag tag) .nil))) ⟨x,k.m,k.st,rfl,by omega,htab,rfl⟩ fun d' v1 H2 hd t1 s2=>?_⟩
   subst hd
   cases t1
   exact⟨_,rfl,iteF ⟨rfl,s2⟩⟩
  rintro σ' H1 ⟨rfl,s1⟩
  refine⟨_,rfl,ag,uag,rfl,.inl (SqL.of (s1 _ _ eag)),fun ln hln=>?_⟩
  obtain⟨H2,hH2⟩:∃H2,H2=upd H1 ln (.lst uag):=⟨_,rfl⟩
  rw[←hH2]
  have s2:Same H H2:=s1.tr (by rw[hH2];exact Same.upd hln)
  have eln:H2 ln=some (.lst uag):=by rw[hH2];exact upd_same
  clear hH2
  refine⟨_,rfl,p,_,dx,_,rfl,s2 _ _ e1,T.cl_Keeper,T.na_wanted,by show 5 < 1000;decide,?_⟩
  rw[put_wanted]
  obtain⟨H3,hH3⟩:∃H3,H3=upd H2 p (.ins T.c_Keeper dx (kfs k.m k.st ln d l)):=⟨_,rfl⟩
  rw[←hH3]
  have h3:∀b o,H2 b=some o→b≠p→H3 b=some o:=fun b o e n=>by rw[hH3,upd_ne n];exact e
  have pH3:H3 p=some (.ins T.c_Keeper dx (kfs k.m k.st ln d l)):=by rw[hH3];exact upd_same
  have kp2:=kp0.same s2
  have ed:=h3 _ _ (s2 _ _ e4) pd.1.symm
  have kp3:KpAt F T.c_Keeper H3 p d (aftK k (.aim x)):=by
   have nl:∀{b:Addr} {xs:List V},H2 b=some (.lst xs)→H3 b=some (.lst xs):=fun e=>h3 _ _ e (kp_mem kp2 e).1
   exact⟨⟨dx,ln,l,uag,ul,pH3,hF _ (s1.early hln),nl eln,tab_any tag,g3,nl (s2 _ _ e3),tab_any t3⟩,_,ed,kv.mv fun b xs e=>h3 _ _ (s2 _ _ e) (kp_tup kp2 (s2 _ _ e)).1⟩
  have fH:∀b o,H b=some o→b≠p→b≠d→H3 b=some o:=fun b o e n1 n2=>h3 _ _ (s2 _ _ e) n1
  have newF:∀b,NewS H3 b→NewS H b:=fun b z=>new_pd pH3 ed fH z
  have noF:∀b,H3 b=none→H b=none:=fun b z=>no_pd pH3 ed fH z
  refine⟨_,rfl,p,dx,_,rfl,pH3,kfs_no (by decide +kernel),F,p,d,aftK k (.aim x),[],[],rfl,fun b hb=>hF _ (noF b hb),kp3,.nil,⟨rfl,aft_ok ok dok,hll⟩,fun r v k2 H4 po kp4 tv fr4 ap=>?_⟩
  exact told r v k2 H4 ⟨_,⟨x,rfl⟩,rfl,po⟩ kp4 (tv.mv fun b o z e=>⟨newF b z,e⟩) (fun b o e n1 n2=>fr4 _ _ (fH _ _ e n1 n2) n1 n2) ap
end
def spInit (C:Addr):Sp:=fun vs H Q _=>∃(p dx:Addr) (m:Nat) (st:Int) (g:Tb) (vg:V),vs=[.ref p,.int ((m:Nat):Int),.int st,vg]∧H p=some (.ins C dx [])∧ThV TT0 H vg (.list (tabL g))∧KOk m st g []∧
 ∀d low H',LowR m st g [] low→H d=none→KpAt (fun b=>H b=none) C H' p d ⟨m,st,g,[],low⟩→(∀b o,H b=some o→b≠p→H' b=some o)→Q .non H'
def kf1 (m:Nat):List (Str×V):=[("many",.int ((m:Nat):Int))]
def kf2 (m:Nat) (st:Int):List (Str×V):=[("many",.int ((m:Nat):Int)),("full",.int st)]
def kf3 (m:Nat) (st:Int) (g:Addr):List (Str×V):=[("many",.int ((m:Nat):Int)),("full",.int st),("wanted",.ref g)]
def kf4 (m:Nat) (st:Int) (g d:Addr):List (Str×V):=[("many",.int ((m:Nat):Int)),("full",.int st),("wanted",.ref g),("laid",.ref d)]
theorem put1 {m:Nat}:putF "many" (.int ((m:Nat):Int)) []=kf1 m:=rfl
theorem put2f {m:Nat} {st:Int}:putF "full" (.int st) (kf1 m)=kf2 m st:=by with_unfolding_all rfl
theorem put3f {m:Nat} {st:Int} {g:Addr}:putF "wanted" (.ref g) (kf2 m st)=kf3 m st g:=by with_unfolding_all rfl
theorem put4f {m:Nat} {st:Int} {g d:Addr}:putF "laid" (.ref d) (kf3 m st g)=kf4 m st g d:=by with_unfolding_all rfl
theorem put5f {m:Nat} {st:Int} {g d l:Addr}:putF "lowest" (.ref l) (kf4 m st g d)=kfs m st g d l:=by with_unfolding_all rfl
theorem wsF_nil:wsF []=[]:=by unfold wsF srt keysW;rw[List.map_nil,List.mergeSort_nil];rfl
section
variable {P:Program} {w:World} {K:PySem.W.Frag} {mg:Str→Option Value} {base:Heap}
theorem ok_m_init (T:Txt K mg):FnOk P w K mg base CX0 10 T.a_m_init T.d_m_init ["self", "many", "store", "goal"] (spInit T.c_Keeper):=by
 have G_least:=@ok_least P w K mg base T
 have b_least:=T.f_least.b
 refine T.F_m_init.ok sc_m_init (fun vs H Q E h=>?_) (fun cdv A outer s H vs Q E hr h=>?_)
 ·obtain⟨p,dx,m,st,g,vg,rfl,_⟩:=h
  rfl
 ·obtain⟨p,dx,m,st,g,vg,rfl,ep,tg,ok,told⟩:=h
  obtain⟨ag,ug,rfl,_,eg,tug⟩:=th_lst tg
  have m2:=ok.m2
  have s1k:=ok.s1
  refine⟨_,(pss_cons (ps_fld (pv 0) (pv 1) rfl)
   (pss_cons (ps_fld (pv 0) (pv 2) rfl)
   (pss_cons (ps_fld (pv 0) (pe_callTy call_list_of rfl T.n_list bt_list (pa_cons (pv 3) pa_nil se_Name) (he:=se_Name) (hpl:=np_nil)) rfl)
   (pss_cons (ps_fld (pv 0) pe_dnewK rfl)
   (pss_one (ps_fld (pv 0) (pe_call G_least (hr.mono (by decide)) rfl T.al_least_least T.f_least.F.kp b_least .nil pass0 (pa_cons (pe_tup (pa_cons (pv 1) (pa_cons (pe_lst pa_nil) pa_nil se_List) se_Name)) (pa_cons (pv 2) (pa_cons (pv 3) pa_nil se_Name) se_Name) se_Tuple) (he:=se_Tuple) (hpl:=(np_cons se_Name (np_cons se_Name np_nil)))) rfl)))))),?_⟩
  refine⟨_,rfl,_,rfl,p,_,dx,_,rfl,ep,T.cl_Keeper,T.na_many,by show 0 < 1000;decide,?_⟩
  rw[put1]
  obtain⟨H1,hH1⟩:∃H1,H1=upd H p (.ins T.c_Keeper dx (kf1 m)):=⟨_,rfl⟩
  rw[←hH1]
  have p1:H1 p=some (.ins T.c_Keeper dx (kf1 m)):=by rw[hH1];exact upd_same
  have f1:∀b o,H b=some o→b≠p→H1 b=some o:=fun b o e n=>by rw[hH1,upd_ne n];exact e
  clear hH1
  refine⟨_,rfl,_,rfl,p,_,dx,_,rfl,p1,T.cl_Keeper,T.na_full,by show 1 < 1000;decide,?_⟩
  rw[put2f]
  obtain⟨H2,hH2⟩:∃H2,H2=upd H1 p (.ins T.c_Keeper dx (kf2 m st)):=⟨_,rfl⟩
  rw[←hH2]
  have p2:H2 p=some (.ins T.c_Keeper dx (kf2 m st)):=by rw[hH2];exact upd_same
  have f2:∀b o,H b=some o→b≠p→H2 b=some o:=fun b o e n=>by rw[hH2,upd_ne n];exact f1 _ _ e n
  clear hH2
  have npg:ag≠p:=fun z=>by rw[z,ep] at eg;cases eg
  refine⟨_,rfl,ag,ug,rfl,.inl (SqL.of (f2 _ _ eg npg)),fun l2 hl2=>?_⟩
  have n2:l2≠p:=fun z=>by rw[z,p2] at hl2;cases hl2
  refine⟨_,rfl,p,_,dx,_,rfl,by rw[upd_ne n2.symm];exact p2,T.cl_Keeper,T.na_wanted,by show 2 < 1000;decide,?_⟩
  rw[put3f]
  obtain⟨H3,hH3⟩:∃H3,H3=upd (upd H2 l2 (.lst ug)) p (.ins T.c_Keeper dx (kf3 m st l2)):=⟨_,rfl⟩
  rw[←hH3]
  have p3:H3 p=some (.ins T.c_Keeper dx (kf3 m st l2)):=by rw[hH3];exact upd_same
  have g3:H3 l2=some (.lst ug):=by rw[hH3,upd_ne n2];exact upd_same
  have f3:∀b o,H b=some o→b≠p→H3 b=some o:=fun b o e n=>by rw[hH3,upd_ne n];exact Same.upd hl2 _ _ (f2 _ _ e n)
  have l2n:H l2=none:=by
   cases z:H l2 with
   | none=>rfl
   | some o=>rw[f2 _ _ z n2] at hl2;cases hl2
  clear hH3
  intro d hd
  have nd:d≠p:=fun z=>by rw[z,p3] at hd;cases hd
  refine⟨_,rfl,p,_,dx,_,rfl,by rw[upd_ne nd.symm];exact p3,T.cl_Keeper,T.na_laid,by show 3 < 1000;decide,?_⟩
  rw[put4f]
  obtain⟨H4,hH4⟩:∃H4,H4=upd (upd H3 d (.dK [])) p (.ins T.c_Keeper dx (kf4 m st l2 d)):=⟨_,rfl⟩
  rw[←hH4]
  have p4:H4 p=some (.ins T.c_Keeper dx (kf4 m st l2 d)):=by rw[hH4];exact upd_same
  have d4:H4 d=some (.dK []):=by rw[hH4,upd_ne nd];exact upd_same
  have f34:∀b o,H3 b=some o→b≠p→H4 b=some o:=fun b o e n=>by rw[hH4,upd_ne n];exact Same.upd hd _ _ e
  have f4:∀b o,H b=some o→b≠p→H4 b=some o:=fun b o e n=>f34 _ _ (f3 _ _ e n) n
  have dn:H d=none:=by
   cases z:H d with
   | none=>rfl
   | some o=>rw[f3 _ _ z nd] at hd;cases hd
  clear hH4
  refine⟨_,rfl,by show 0≤sizeLine;decide,fun l5 hl5=>⟨by show 2≤sizeLine;decide,fun t6 ht6=>?_⟩⟩
  have s5:Same H4 (upd H4 l5 (.lst [])):=Same.upd hl5
  have s6:=s5.tr (Same.upd (o:=.tup [.int ((m:Nat):Int),.ref l5]) ht6)
  obtain⟨H6,hH6⟩:∃H6,H6=upd (upd H4 l5 (.lst [])) t6 (.tup [.int ((m:Nat):Int),.ref l5]):=⟨_,rfl⟩
  rw[←hH6] at s6 ⊢
  have tl:ThV TT0 H6 (.ref t6) (landD m (wsF [])):=by
   have e5:H6 l5=some (.lst []):=by rw[hH6];exact Same.upd ht6 _ _ upd_same
   rw[wsF_nil]
   exact .tup trivial (by rw[hH6];exact upd_same) (.cons (.int _) (.cons (.lst trivial e5 .nil) .nil))
  clear hH6
  refine⟨_,rfl,_,rfl,[landD m (wsF []),.int st,.list (tabL g)],(fun d=>∃t,Least m ((wsF []).map turnW) st (lkF st g) t∧d=.list (tabL (lkF st t))),.cons tl (.cons (.int _) (.cons (.lst trivial (s6 _ _ (f4 _ _ eg npg)) (tab_any tug)) .nil)),⟨m,wsF [],st,g,rfl,ok.land,ok.s0,by omega,ok.gt,fun t ht=>⟨t,ht,rfl⟩⟩,fun d' v7 H7 hd' t7 s7=>?_⟩
  obtain⟨t,ht,rfl⟩:=hd'
  obtain⟨ln,un,rfl,gn,en,tn⟩:=th_lst t7
  have lnn:H6 ln=none:=NewS_lst s7 gn en
  have s67:=s6.tr s7
  refine⟨_,rfl,p,_,dx,_,rfl,s67 _ _ p4,T.cl_Keeper,T.na_lowest,by show 4 < 1000;decide,?_⟩
  rw[put5f]
  have nln:ln≠p:=fun z=>by rw[z,s6 _ _ p4] at lnn;cases lnn
  have hln:H ln=none:=by
   cases z:H ln with
   | none=>rfl
   | some o=>rw[s6 _ _ (f4 _ _ z nln)] at lnn;cases lnn
  have f8:∀b o,H7 b=some o→b≠p→upd H7 p (.ins T.c_Keeper dx (kfs m st l2 d ln)) b=some o:=fun b o e n=>by rw[upd_ne n];exact e
  exact told d (lkF st t) _ ⟨t,ht,rfl⟩ dn ⟨⟨dx,l2,ln,ug,un,upd_same,l2n,f8 _ _ (s67 _ _ (f34 _ _ g3 n2)) n2,tab_any tug,hln,f8 _ _ en nln,tab_any tn⟩,[],f8 _ _ (s67 _ _ d4) nd,.nil⟩ fun b o e n=>f8 _ _ (s67 _ _ (f4 _ _ e n)) n
end
def spChangeD:DSp:=fun ds Q=>∃(d:PyData) (sc:Int),ds=[d,.int sc]∧0≤sc∧sc≤1000000000000000000∧∀r:Int,-sc≤r→r≤sc→Q (.int r)
def spTableD:DSp:=fun ds Q=>∃(d:PyData) (m:Nat) (st:Int),ds=[d,.int (m:Nat),.int st]∧m≤12∧0≤st∧st≤1000000000000000000000∧∀t,TabOk m st t→Q (.list (tabL t))
def ODs (st:Int) (d:PyData):Prop:=∃o:Option Int,d=oD o∧∀x,o=some x→0≤x∧x≤st
theorem ods_tab {st:Int}:∀{ds:List PyData},(∀d∈ds,ODs st d)→∃t:Tb,ds=tabL t∧TabOk ds.length st t
 | [],_=>⟨[],rfl,rfl,fun p x e=>by rw[gt_out (Nat.zero_le _)] at e;cases e⟩
 | d::ds,h=>by
  obtain⟨t,rfl,ht⟩:=ods_tab (ds:=ds) fun e he=>h e (List.mem_cons_of_mem _ he)
  obtain⟨o,rfl,ho⟩:=h d List.mem_cons_self
  refine⟨o::t,rfl,⟨by rw[List.length_cons,List.length_cons,len_tab],fun p x e=>?_⟩⟩
  cases p with
  | zero=>exact ho x e
  | succ p=>exact ht.bd p x e
theorem lt2 {r:Int} (h0:0≤r) (h1:r < 2):r=0∨r=1:=by omega
section
variable {P:Program} {w:World} {K:PySem.W.Frag} {mg:Str→Option Value} {base:Heap}
theorem ok_change (T:Txt K mg):FnOk P w K mg base CX0 4 T.f_change.a T.f_change.d ["_law_hand_here", "_law_scale"] (spD [.hd,.sh] spChangeD):=by
 have G_draw:=@ok_drawD P w K mg base T
 have b_draw:=T.f_draw.b
 refine fn_d T.f_change.F sc_change rfl (fun C cdv A outer s H E hr=>⟨_,(dss_one (ds_ret (pd_op op_sub ok_sub (pd_call (pe_call G_draw (hr.mono (by decide)) rfl T.f_draw.m T.f_draw.F.kp b_draw .nil pass0 (da_s (pv 0) (da_v (pd_op op_add ok_add (pd_op op_mul ok_mul pd_int (pd_var (pv 1))) pd_int) da_nil se_BinOp) se_Name) (he:=se_Name) (hpl:=(np_cons se_BinOp np_nil)))) (pd_var (pv 1))))),fun ds Q hl h=>?_⟩)
 obtain⟨d,sc,rfl,s0,s1,q⟩:=h
 decreasing_tactic
 refine⟨rfl,.inl ⟨by decide,by decide⟩,2 * sc + 1,rfl,by omega,by omega,fun r r0 r1=>?_⟩
 decreasing_tactic
 exact q _ (by omega) (by omega)
theorem ok_table (T:Txt K mg):FnOk P w K mg base CX0 4 T.f_table.a T.f_table.d ["_law_hand_here", "_law_many", "_law_store"] (spD [.hd,.sh,.sh] spTableD):=by
 have G_draw:=@ok_drawD P w K mg base T
 have b_draw:=T.f_draw.b
 refine fn_d T.f_table.F sc_table rfl (fun C cdv A outer s H E hr=>⟨_,(@dss_cons _ _ _ _ _ _ (ds_set (ps_set (i:=3) sc_table.nd rfl (Or.inr rfl) (pd_op op_add ok_add pd_int (pd_op op_mul ok_mul pd_int (pd_call (pe_call G_draw (hr.mono (by decide)) rfl T.f_draw.m T.f_draw.F.kp b_draw .nil pass0 (da_s (pv 0) (da_v pd_int da_nil se_Constant) se_Name) (he:=se_Name) (hpl:=(np_cons se_Constant np_nil)))))))) (@dss_one _ _ _ _ (@ds_ret _ _ _ _ _ (@pd_f _ _ _ _ (@pf_comp _ _ _ _ _ _ _ _ rfl (@pe_comp _ _ _ _ _ _ _ _ _ _ _ _ _ _ _ (CompSc.new (N:=["_law_hand_here", "_law_many", "_law_store", "_law_rare"]) (osc:=defScope s_table) (by decide +kernel)) rfl (di_rng1 (pi_range1 rfl T.n_range (dv_cons (pd_var (pv 1)) dv_nil se_Name))) (fun _=>dts_nil) (fun _=>(@pd_ix _ _ _ _ _ _ _ (pd_f (pf_lst (dv_cons (pd_call (pe_call G_draw (hr.mono (by decide)) rfl T.f_draw.m T.f_draw.F.kp b_draw .nil pass0 (da_s (pv 0) (da_v (pd_op op_add ok_add (pd_var (pv 2)) pd_int) da_nil se_BinOp) se_Name) (he:=se_Name) (hpl:=(np_cons se_BinOp np_nil)))) (dv_cons pd_non dv_nil se_Constant) se_Call))) (pd_cb cb_int (pe_callTy call_int1 rfl T.n_int bt_int (dv_cons (pd_cmp op_gt ok_gt (pd_call (pe_call G_draw (hr.mono (by decide)) rfl T.f_draw.m T.f_draw.F.kp b_draw .nil pass0 (da_s (pv 0) (da_v (pd_var (pv 3)) da_nil se_Name) se_Name) (he:=se_Name) (hpl:=(np_cons se_Name np_nil)))) pd_int (nomark _)) dv_nil se_Compare) (he:=se_Compare) (hpl:=np_nil))) (fun _ _=>rfl))) (by rfl) (by rfl) (by intro _;rfl))))))),fun ds Q hl h=>?_⟩)
 obtain⟨d,m,st,rfl,m2,s0,s1,q⟩:=h
 decreasing_tactic
 refine⟨rfl,_,rfl,by decide,by decide,fun r r0 r1=>?_⟩
 array_mem_dec
 refine⟨.inl ⟨by decide,by decide⟩,⟨by omega,by omega⟩,⟨rfl,by unfold rngD;rw[List.length_map,List.length_range];omega⟩,?_⟩
 refine compN (R:=ODs st) (fun x hx Q' q'=>?_) fun ds hl2 hR=>?_
 ·decreasing_tactic
  refine⟨rfl,_,rfl,by omega,by omega,fun u u0 u1=>?_⟩
  decreasing_tactic
  refine⟨by decide,rfl,_,rfl,by omega,by omega,fun v v0 v1=>?_⟩
  decreasing_tactic
  cases decide (0 < v) with
  | true=>
   exact q' _ ⟨none,rfl,fun x e=>nomatch e⟩
  | false=>
   exact q' _ ⟨some u,rfl,fun x e=>by cases e;exact⟨u0,by omega⟩⟩
 ·obtain⟨t,e,ht⟩:=ods_tab hR
  rw[List.nil_append,e]
  have hlen:ds.length=m:=by rw[hl2];unfold rngD;rw[List.length_map,List.length_range];simp
  rw[hlen] at ht
  exact q t ht
end
def lessB (a b:Option Int):Bool:=match a,b with
 | none,_=>false
 | some _,none=>true
 | some x,some y=>decide (x < y)
theorem less_wit (a b:Option Int):lessB a b=!witB b a:=by
 cases a with
 | none=>cases b <;> rfl
 | some x=>
  cases b with
  | none=>rfl
  | some y=>
   show decide (x < y)=!decide (y≤x)
   by_cases h:x < y
   ·rw[decide_eq_true h,decide_eq_false (by omega)];rfl
   ·rw[decide_eq_false h,decide_eq_true (show y≤x by omega)];rfl
def spLessB:DSp:=fun ds Q=>∃a b:Option Int,ds=[oD a,oD b]∧Q (.bool (lessB a b))
def spMovL:DSp:=fun ds Q=>∃a b:Tb,ds=[.list (tabL a),.list (tabL b)]∧a.length=b.length∧a.length≤900∧Q (movD a b)
theorem blw_less (t o:Tb):blwF t o=(List.range t.length).filter fun p=>lessB (gt t p) (gt o p):=by
 unfold blwF
 congr 1
 funext p
 exact (less_wit _ _).symm
section
variable {P:Program} {w:World} {K:PySem.W.Frag} {mg:Str→Option Value} {base:Heap}
theorem ok_less (T:Txt K mg):FnOk P w K mg base CX0 1 T.f_less.a T.f_less.d ["_law_one", "_law_other"] (spD [.sh,.sh] spLessB):=by
 refine fn_d T.f_less.F sc_less rfl (fun C cdv A outer s H E hr=>⟨_,(dss_cons (ds_if (pdt_cmp op_isN ok_isN (pd_var (pv 0)) pd_non (nomark _))
   (dss_one (ds_ret pd_bl))
   dss_nil)
   (dss_one (ds_ret (pd_or (pd_cmp op_isN ok_isN (pd_var (pv 1)) pd_non (nomark _)) (pd_one (pd_cmp op_lt ok_lt (pd_var (pv 0)) (pd_var (pv 1)) (nomark _))))))),fun ds Q hl h=>?_⟩)
 obtain⟨a,b,rfl,q⟩:=h
 cases a with
 | none=>
  decreasing_trivial
  exact q
 | some x=>
  cases b with
  | none=>
   decreasing_trivial
   exact q
  | some y=>
   decreasing_trivial
   exact q
theorem ok_moved (T:Txt K mg):FnOk P w K mg base CX0 2 T.f_moved.a T.f_moved.d ["_law_old", "_law_new"] (spD [.sh,.sh] spMovL):=by
 have G_less:=@ok_less P w K mg base T
 have b_less:=T.f_less.b
 refine fn_d T.f_moved.F sc_moved rfl (fun C cdv A outer s H E hr=>⟨_,(@dss_consG _ _ _ _ _ _ (@ds_setC _ _ _ _ _ _ _ _ _ rfl (@ps_setC _ _ _ _ _ _ _ _ _ _ _ _ _ 2 _ _ _ _ _ sc_moved.nd rfl (Or.inl rfl) (CompSc.new (N:=["_law_old", "_law_new", "_law_fell"]) (osc:=defScope s_moved) (by decide +kernel)) rfl (di_rng1 (pi_range1 rfl T.n_range (dv_cons (pd_lenv (pe_callB call_len_seq rfl T.n_len bt_len (pa_cons (pv 0) pa_nil se_Name) (he:=se_Name) (hpl:=np_nil))) dv_nil se_Call))) (fun _=>(pts_one (pdt_val (pd_call (pe_call G_less (hr.mono (by decide)) rfl T.f_less.m T.f_less.F.kp b_less .nil pass0 (da_v (pd_ixv (pv 1) (pd_var (pv 3)) (fun _ _=>rfl)) (da_v (pd_ixv (pv 0) (pd_var (pv 3)) (fun _ _=>rfl)) da_nil se_Subscript) se_Subscript) (he:=se_Subscript) (hpl:=(np_cons se_Subscript np_nil))))))) (fun _=>(pd_var (pv 3))) (by rfl) (by first | exact .inl rfl | exact .inr rfl | assumption) (by rfl) (by rfl) (by intro _;rfl))) (@dss_one _ _ _ _ (@ds_ret _ _ _ _ _ (@pd_tup _ _ _ _ _ _ (@dv_cons _ _ _ _ _ _ (pd_var (pv 2)) (@dv_cons _ _ _ _ _ _ (@pd_f _ _ _ _ (@pf_comp _ _ _ _ _ _ _ _ rfl (@pe_comp _ _ _ _ _ _ _ _ _ _ _ _ _ _ _ (CompSc.new (N:=["_law_old", "_law_new", "_law_fell"]) (osc:=defScope s_moved) (by decide +kernel)) rfl (di_rng1 (pi_range1 rfl T.n_range (dv_cons (pd_lenv (pe_callB call_len_seq rfl T.n_len bt_len (pa_cons (pv 0) pa_nil se_Name) (he:=se_Name) (hpl:=np_nil))) dv_nil se_Call))) (fun _=>(pts_one (pdt_val (pd_call (pe_call G_less (hr.mono (by decide)) rfl T.f_less.m T.f_less.F.kp b_less .nil pass0 (da_v (pd_ixv (pv 0) (pd_var (pv 3)) (fun _ _=>rfl)) (da_v (pd_ixv (pv 1) (pd_var (pv 3)) (fun _ _=>rfl)) da_nil se_Subscript) se_Subscript) (he:=se_Subscript) (hpl:=(np_cons se_Subscript np_nil))))))) (fun _=>(pd_var (pv 3))) (by rfl) (by rfl) (by intro _;rfl)))) dv_nil se_ListComp) se_Name))))),fun ds Q hl h=>?_⟩)
 obtain⟨a,b,rfl,hl,hm,q⟩:=h
 have q2:Q (.tuple [.list (numL ((List.range a.length).filter fun p=>lessB (gt b p) (gt a p))),.list (numL ((List.range a.length).filter fun p=>lessB (gt a p) (gt b p)))]):=by
  unfold movD at q
  rw[blw_less,blw_less,←hl] at q
  exact q
 array_get_dec
 rw[len_tab]
 refine⟨⟨by omega,by omega⟩,⟨rfl,by unfold rngD;rw[List.length_map,List.length_range];omega⟩,?_⟩
 unfold rngD
 rw[show ((a.length:Nat):Int).toNat=a.length by simp]
 refine compF (p:=fun i=>lessB (gt b i) (gt a i)) (f:=fun i=>.int (0 + ((i:Nat):Int))) (fun i hi Q' q'=>?_) (fun i hi _ Q' q'=>?_) ?_
 ·have hi':=List.mem_range.mp hi
  decreasing_tactic
  rw[show (0:Int) + ((i:Nat):Int)=((i:Nat):Int) by omega] at q' ⊢
  rw[tab_at (by omega)]
  decreasing_tactic
  rw[tab_at hi']
  decreasing_tactic
  exact⟨_,_,rfl,q'⟩
 ·exact q'
 rw[List.nil_append]
 refine go ?_
 array_get_dec
 rw[len_tab]
 refine⟨⟨by omega,by omega⟩,⟨rfl,by unfold rngD;rw[List.length_map,List.length_range];omega⟩,?_⟩
 unfold rngD
 rw[show ((a.length:Nat):Int).toNat=a.length by simp]
 refine compF (p:=fun i=>lessB (gt a i) (gt b i)) (f:=fun i=>.int (0 + ((i:Nat):Int))) (fun i hi Q' q'=>?_) (fun i hi _ Q' q'=>?_) ?_
 ·have hi':=List.mem_range.mp hi
  decreasing_tactic
  rw[show (0:Int) + ((i:Nat):Int)=((i:Nat):Int) by omega] at q' ⊢
  rw[tab_at hi']
  decreasing_tactic
  rw[tab_at (by omega)]
  decreasing_tactic
  exact⟨_,_,rfl,q'⟩
 ·exact q'
 rw[List.nil_append]
 refine⟨by decide,?_⟩
 have ez:∀l:List Nat,l.map (fun i=>PyData.int (0 + ((i:Nat):Int)))=numL l:=fun l=>by
  unfold numL
  refine List.map_congr_left fun i _=>?_
  rw[Int.zero_add]
 rw[ez,ez]
 exact q2
end
def Deed.word:Deed→Str
 | .lay _ _=> "lay"
 | .lift _=> "lift"
 | .turn _ _=> "turn"
 | .refill _=> "refill"
 | .aim _=> "aim"
def deedD (dd:Deed):PyData:=.tuple [.str dd.word,.list dd.args]
def spDo (C:Addr):Sp:=fun vs H Q _=>∃(F:Addr→Prop) (p d:Addr) (k:Kst) (vd:V) (dd:Deed),vs=[.ref p,vd]∧(∀b,H b=none→F b)∧KpAt F C H p d k∧ThV TT0 H vd (deedD dd)∧KOk k.m k.st k.g k.kws∧k.low.length=k.m∧DeedOk k dd∧
 ∀r v k' H',Movd (aftK k dd) k.low r k'→KpAt F C H' p d k'→ThV (NewS H) H' v r→(∀b o,H b=some o→b≠p→b≠d→H' b=some o)→Apt C H' p d k' v→Q v H'
theorem ths4 {F:Addr→Prop} {H:Hp} {vs:List V} {d1 d2 d3 d4:PyData} (t:ThVs F H vs [d1,d2,d3,d4]):∃v1 v2 v3 v4,vs=[v1,v2,v3,v4]∧ThV F H v1 d1∧ThV F H v2 d2∧ThV F H v3 d3∧ThV F H v4 d4:=by
 cases t with
 | cons x1 t=>
 cases t with
 | cons x2 t=>
 obtain⟨v3,v4,rfl,t3,t4⟩:=ths2 t
 exact⟨_,_,v3,v4,rfl,x1,x2,t3,t4⟩
theorem tabI:∀{a b:Tb},tabL a=tabL b→a=b
 | [],[],_=>rfl
 | [],_::_,h=>by cases h
 | _::_,[],h=>by cases h
 | x::a,y::b,h=>by
  injection h with h1 h2
  have e:x=y:=by
   cases x with
   | none=>cases y with
    | none=>rfl
    | some _=>cases h1
   | some u=>cases y with
    | none=>cases h1
    | some v=>cases h1;rfl
  rw[e,tabI h2]
theorem lay_inj {x x':Int} {w w':Wy} (h:Deed.args (.lay x w)=Deed.args (.lay x' w')):x=x'∧w=w':=by
 obtain⟨a,b,c⟩:=w
 obtain⟨a',b',c'⟩:=w'
 injection h with h1 h
 injection h with h2 h
 injection h with h3 h
 injection h with h4 h
 have h1:=PyData.int.inj h1
 have h2:((a:Nat):Int)=((a':Nat):Int):=PyData.int.inj h2
 have h3:((b:Nat):Int)=((b':Nat):Int):=PyData.int.inj h3
 have h4:c=c':=PyData.int.inj h4
 have h2:a=a':=by omega
 have h3:b=b':=by omega
 exact⟨h1,by rw[h2,h3,h4]⟩
section
variable {P:Program} {w:World} {K:PySem.W.Frag} {mg:Str→Option Value} {base:Heap}
theorem ok_do (T:Txt K mg):FnOk P w K mg base CX0 12 T.f_do.a T.f_do.d ["_law_keeper", "_law_deed_here"] (spDo T.c_Keeper):=by
 have G_m_lay:=@ok_m_lay P w K mg base T
 have b_m_lay:=bd_m_lay T
 have G_m_lift:=@ok_m_lift P w K mg base T
 have b_m_lift:=bd_m_lift T
 have G_m_turn:=@ok_m_turn P w K mg base T
 have b_m_turn:=bd_m_turn T
 have G_m_refill:=@ok_m_refill P w K mg base T
 have b_m_refill:=bd_m_refill T
 have G_m_aim:=@ok_m_aim P w K mg base T
 have b_m_aim:=bd_m_aim T
 refine T.f_do.F.ok sc_do (fun vs H Q E h=>?_) (fun cdv A outer s H vs Q E hr h=>?_)
 ·obtain⟨F,p,d,k,vd,dd,rfl,_⟩:=h
  rfl
 ·obtain⟨F,p,d,k,vd,dd,rfl,hF,kp,tvd,ok,hll,dok,told⟩:=h
  obtain⟨ad,ud,rfl,_,ed,tud⟩:=th_tup tvd
  obtain⟨v1,v2,rfl,t1,t2⟩:=ths2 tud
  obtain⟨al,ul,rfl,_,el,tul⟩:=th_lst t2
  have kp0:=kp
  obtain⟨⟨dx,g,l,ug,ul0,e1,g1,e2,t2',g3,e3,t3⟩,kvs,e4,kv⟩:=kp
  refine⟨_,(pss_cons (ps_asg (pv 1) (pg_tup (n:=2) rfl (pgs_cons (pg_name (i:=2) sc_do.nd rfl (Or.inl rfl)) (pgs_cons (pg_name (i:=3) sc_do.nd rfl (Or.inl rfl)) pgs_nil))))
   (pss_cons (ps_mid (ps_if (pt_cmpR op_eq (pv 2) pe_str (nomark _))
   (pss_one (ps_ret (pe_meth (pv 0) T.cl_Keeper T.me_m_lay G_m_lay (hr.mono (by decide)) b_m_lay .nil pass0 (pa_cons (pe_ix ix_list (pv 3) pe_int (fun _ _=>rfl)) (pa_cons (pe_ix ix_list (pv 3) pe_int (fun _ _=>rfl)) (pa_cons (pe_ix ix_list (pv 3) pe_int (fun _ _=>rfl)) (pa_cons (pe_ix ix_list (pv 3) pe_int (fun _ _=>rfl)) pa_nil se_Subscript) se_Subscript) se_Subscript) se_Subscript) (hst:=se_Subscript) (hpl:=(np_cons se_Subscript (np_cons se_Subscript (np_cons se_Subscript np_nil)))))))
   pss_nil))
   (pss_cons (ps_mid (ps_if (pt_cmpR op_eq (pv 2) pe_str (nomark _))
   (pss_one (ps_ret (pe_meth (pv 0) T.cl_Keeper T.me_m_lift G_m_lift (hr.mono (by decide)) b_m_lift .nil pass0 (pa_cons (pe_ix ix_list (pv 3) pe_int (fun _ _=>rfl)) pa_nil se_Subscript) (hst:=se_Subscript) (hpl:=np_nil))))
   pss_nil))
   (pss_cons (ps_mid (ps_if (pt_cmpR op_eq (pv 2) pe_str (nomark _))
   (pss_one (ps_ret (pe_meth (pv 0) T.cl_Keeper T.me_m_turn G_m_turn (hr.mono (by decide)) b_m_turn .nil pass0 (pa_cons (pe_ix ix_list (pv 3) pe_int (fun _ _=>rfl)) (pa_cons (pe_ix ix_list (pv 3) pe_int (fun _ _=>rfl)) pa_nil se_Subscript) se_Subscript) (hst:=se_Subscript) (hpl:=(np_cons se_Subscript np_nil)))))
   pss_nil))
   (pss_cons (ps_mid (ps_if (pt_cmpR op_eq (pv 2) pe_str (nomark _))
   (pss_one (ps_ret (pe_meth (pv 0) T.cl_Keeper T.me_m_refill G_m_refill (hr.mono (by decide)) b_m_refill .nil pass0 (pa_cons (pe_ix ix_list (pv 3) pe_int (fun _ _=>rfl)) pa_nil se_Subscript) (hst:=se_Subscript) (hpl:=np_nil))))
   pss_nil))
   (pss_one (ps_ret (pe_meth (pv 0) T.cl_Keeper T.me_m_aim G_m_aim (hr.mono (by decide)) b_m_aim .nil pass0 (pa_cons (pe_ix ix_list (pv 3) pe_int (fun _ _=>rfl)) pa_nil se_Subscript) (hst:=se_Subscript) (hpl:=np_nil))))))))),?_⟩
  refine⟨_,rfl,ad,_,rfl,SqT.of ed,rfl,_,_,rfl,_,_,rfl,rfl,?_⟩
  cases dd with
  | lay x w0=>
   have t1:ThV TT0 H v1 (.str "lay"):=t1
   cases t1
   have tul0:=tul
   obtain⟨u1,u2,u3,u4,rfl,_,_,_,_⟩:=ths4 tul
   refine⟨fun _ _=>False,?_,fun _ _ z=>z.elim⟩
   refine⟨_,rfl,rfl,_,rfl,?_⟩
   rw[show decide (V.str "lay" = V.str "lay")=true from decide_eq_true rfl]
   refine iteT ?_
   refine⟨_,rfl,p,dx,_,rfl,e1,kfs_no (by decide +kernel),_,rfl,al,_,_,_,rfl,rfl,SqL.of el,rfl,_,rfl,al,_,_,_,rfl,rfl,SqL.of el,rfl,_,rfl,al,_,_,_,rfl,rfl,SqL.of el,rfl,_,rfl,al,_,_,_,rfl,rfl,SqL.of el,rfl,F,p,d,k,_,_,rfl,hF,kp0,tul0,⟨_,⟨x,w0,rfl⟩,rfl,ok,hll,dok⟩,fun r v k' H1 po kp1 tv fr ap=>?_⟩
   obtain⟨dd',h1,h2,po⟩:=po
   obtain⟨x',w',rfl⟩:=h1
   obtain⟨rfl,rfl⟩:=lay_inj h2
   exact told r v k' H1 po kp1 tv fr ap
  | lift x=>
   have t1:ThV TT0 H v1 (.str "lift"):=t1
   cases t1
   have tul0:=tul
   obtain⟨u1,rfl,_⟩:=ths1' tul
   refine⟨fun σ' H'=>σ'=[some (.ref p),some (.ref ad),some (.str "lift"),some (.ref al)]∧H=H',?_,?_⟩
   ·refine⟨_,rfl,rfl,_,rfl,?_⟩
    rw[show decide (V.str "lift" = V.str "lay")=false from decide_eq_false (by decide)]
    exact iteF ⟨rfl,rfl⟩
   rintro σ' _ ⟨rfl,rfl⟩
   refine⟨fun _ _=>False,?_,fun _ _ z=>z.elim⟩
   refine⟨_,rfl,rfl,_,rfl,?_⟩
   rw[show decide (V.str "lift" = V.str "lift")=true from decide_eq_true rfl]
   refine iteT ?_
   refine⟨_,rfl,p,dx,_,rfl,e1,kfs_no (by decide +kernel),_,rfl,al,_,_,_,rfl,rfl,SqL.of el,rfl,F,p,d,k,_,_,rfl,hF,kp0,tul0,⟨_,⟨x,rfl⟩,rfl,ok,hll,dok⟩,fun r v k' H1 po kp1 tv fr ap=>?_⟩
   obtain⟨dd',h1,h2,po⟩:=po
   obtain⟨x',rfl⟩:=h1
   cases h2
   exact told r v k' H1 po kp1 tv fr ap
  | turn x c=>
   have t1:ThV TT0 H v1 (.str "turn"):=t1
   cases t1
   have tul0:=tul
   obtain⟨u1,u2,rfl,_,_⟩:=ths2 tul
   refine⟨fun σ' H'=>σ'=[some (.ref p),some (.ref ad),some (.str "turn"),some (.ref al)]∧H=H',?_,?_⟩
   ·refine⟨_,rfl,rfl,_,rfl,?_⟩
    rw[show decide (V.str "turn" = V.str "lay")=false from decide_eq_false (by decide)]
    exact iteF ⟨rfl,rfl⟩
   rintro σ' _ ⟨rfl,rfl⟩
   refine⟨fun σ' H'=>σ'=[some (.ref p),some (.ref ad),some (.str "turn"),some (.ref al)]∧H=H',?_,?_⟩
   ·refine⟨_,rfl,rfl,_,rfl,?_⟩
    rw[show decide (V.str "turn" = V.str "lift")=false from decide_eq_false (by decide)]
    exact iteF ⟨rfl,rfl⟩
   rintro σ' _ ⟨rfl,rfl⟩
   refine⟨fun _ _=>False,?_,fun _ _ z=>z.elim⟩
   refine⟨_,rfl,rfl,_,rfl,?_⟩
   rw[show decide (V.str "turn" = V.str "turn")=true from decide_eq_true rfl]
   refine iteT ?_
   refine⟨_,rfl,p,dx,_,rfl,e1,kfs_no (by decide +kernel),_,rfl,al,_,_,_,rfl,rfl,SqL.of el,rfl,_,rfl,al,_,_,_,rfl,rfl,SqL.of el,rfl,F,p,d,k,_,_,rfl,hF,kp0,tul0,⟨_,⟨x,c,rfl⟩,rfl,ok,hll,dok⟩,fun r v k' H1 po kp1 tv fr ap=>?_⟩
   obtain⟨dd',h1,h2,po⟩:=po
   obtain⟨x',c',rfl⟩:=h1
   cases h2
   exact told r v k' H1 po kp1 tv fr ap
  | refill x=>
   have t1:ThV TT0 H v1 (.str "refill"):=t1
   cases t1
   have tul0:=tul
   obtain⟨u1,rfl,_⟩:=ths1' tul
   refine⟨fun σ' H'=>σ'=[some (.ref p),some (.ref ad),some (.str "refill"),some (.ref al)]∧H=H',?_,?_⟩
   ·refine⟨_,rfl,rfl,_,rfl,?_⟩
    rw[show decide (V.str "refill" = V.str "lay")=false from decide_eq_false (by decide)]
    exact iteF ⟨rfl,rfl⟩
   rintro σ' _ ⟨rfl,rfl⟩
   refine⟨fun σ' H'=>σ'=[some (.ref p),some (.ref ad),some (.str "refill"),some (.ref al)]∧H=H',?_,?_⟩
   ·refine⟨_,rfl,rfl,_,rfl,?_⟩
    rw[show decide (V.str "refill" = V.str "lift")=false from decide_eq_false (by decide)]
    exact iteF ⟨rfl,rfl⟩
   rintro σ' _ ⟨rfl,rfl⟩
   refine⟨fun σ' H'=>σ'=[some (.ref p),some (.ref ad),some (.str "refill"),some (.ref al)]∧H=H',?_,?_⟩
   ·refine⟨_,rfl,rfl,_,rfl,?_⟩
    rw[show decide (V.str "refill" = V.str "turn")=false from decide_eq_false (by decide)]
    exact iteF ⟨rfl,rfl⟩
   rintro σ' _ ⟨rfl,rfl⟩
   refine⟨fun _ _=>False,?_,fun _ _ z=>z.elim⟩
   refine⟨_,rfl,rfl,_,rfl,?_⟩
   rw[show decide (V.str "refill" = V.str "refill")=true from decide_eq_true rfl]
   refine iteT ?_
   refine⟨_,rfl,p,dx,_,rfl,e1,kfs_no (by decide +kernel),_,rfl,al,_,_,_,rfl,rfl,SqL.of el,rfl,F,p,d,k,_,_,rfl,hF,kp0,tul0,⟨_,⟨x,rfl⟩,rfl,ok,hll,dok⟩,fun r v k' H1 po kp1 tv fr ap=>?_⟩
   obtain⟨dd',h1,h2,po⟩:=po
   obtain⟨x',rfl⟩:=h1
   cases h2
   exact told r v k' H1 po kp1 tv fr ap
  | aim x=>
   have t1:ThV TT0 H v1 (.str "aim"):=t1
   cases t1
   have tul0:=tul
   obtain⟨u1,rfl,_⟩:=ths1' tul
   refine⟨fun σ' H'=>σ'=[some (.ref p),some (.ref ad),some (.str "aim"),some (.ref al)]∧H=H',?_,?_⟩
   ·refine⟨_,rfl,rfl,_,rfl,?_⟩
    rw[show decide (V.str "aim" = V.str "lay")=false from decide_eq_false (by decide)]
    exact iteF ⟨rfl,rfl⟩
   rintro σ' _ ⟨rfl,rfl⟩
   refine⟨fun σ' H'=>σ'=[some (.ref p),some (.ref ad),some (.str "aim"),some (.ref al)]∧H=H',?_,?_⟩
   ·refine⟨_,rfl,rfl,_,rfl,?_⟩
    rw[show decide (V.str "aim" = V.str "lift")=false from decide_eq_false (by decide)]
    exact iteF ⟨rfl,rfl⟩
   rintro σ' _ ⟨rfl,rfl⟩
   refine⟨fun σ' H'=>σ'=[some (.ref p),some (.ref ad),some (.str "aim"),some (.ref al)]∧H=H',?_,?_⟩
   ·refine⟨_,rfl,rfl,_,rfl,?_⟩
    rw[show decide (V.str "aim" = V.str "turn")=false from decide_eq_false (by decide)]
    exact iteF ⟨rfl,rfl⟩
   rintro σ' _ ⟨rfl,rfl⟩
   refine⟨fun σ' H'=>σ'=[some (.ref p),some (.ref ad),some (.str "aim"),some (.ref al)]∧H=H',?_,?_⟩
   ·refine⟨_,rfl,rfl,_,rfl,?_⟩
    rw[show decide (V.str "aim" = V.str "refill")=false from decide_eq_false (by decide)]
    exact iteF ⟨rfl,rfl⟩
   rintro σ' _ ⟨rfl,rfl⟩
   refine⟨_,rfl,p,dx,_,rfl,e1,kfs_no (by decide +kernel),_,rfl,al,_,_,_,rfl,rfl,SqL.of el,rfl,F,p,d,k,_,_,rfl,hF,kp0,tul0,⟨_,⟨x,rfl⟩,rfl,ok,hll,dok⟩,fun r v k' H1 po kp1 tv fr ap=>?_⟩
   obtain⟨dd',h1,h2,po⟩:=po
   obtain⟨x',rfl⟩:=h1
   cases tabI (PyData.list.inj (List.cons.inj h2).1)
   exact told r v k' H1 po kp1 tv fr ap
end
structure StAt (F:Addr→Prop) (H:Hp) (a dc:Addr) (m:Nat) (st:Int) (g:Tb) (kws:Kw):Prop where
 ob:∃gl ug,H a=some (.lst [.int ((m:Nat):Int),.int st,.ref gl,.ref dc])∧F a∧F gl∧H gl=some (.lst ug)∧ThVs TT0 H ug (tabL g)
 dc:∃kvs,H dc=some (.dK kvs)∧KvAt H kvs kws
theorem StAt.mv {F G:Addr→Prop} {H H':Hp} {a dc:Addr} {m:Nat} {st:Int} {g:Tb} {kws:Kw} (h:StAt F H a dc m st g kws) (s:∀b o,H b=some o→(∀xs,o=.lst xs→F b)→(∀kvs,o=.dK kvs→b=dc)→H' b=some o) (hF:∀b,F b→G b):StAt G H' a dc m st g kws:=by
 obtain⟨⟨gl,ug,e1,f1,f2,e2,t2⟩,kvs,e3,kv⟩:=h
 exact⟨⟨gl,ug,s _ _ e1 (fun _ _=>f1) (fun _ z=>by cases z),hF _ f1,hF _ f2,s _ _ e2 (fun _ _=>f2) (fun _ z=>by cases z),tab_any t2⟩,kvs,s _ _ e3 (fun _ z=>by cases z) (fun _ _=>rfl),kv.mv fun b xs e=>s _ _ e (fun _ z=>by cases z) (fun _ z=>by cases z)⟩
def spState:Sp:=fun vs H Q _=>∃(m:Nat) (st:Int) (g:Tb) (vg:V),vs=[.int ((m:Nat):Int),.int st,vg]∧ThV TT0 H vg (.list (tabL g))∧∀a dc H',StAt (fun b=>H b=none) H' a dc m st g []→H dc=none→Same H H'→Q (.ref a) H'
def spAfter:Sp:=fun vs H Q _=>∃(F:Addr→Prop) (a dc:Addr) (k:Kst) (vd:V) (dd:Deed),vs=[.ref a,vd]∧StAt F H a dc k.m k.st k.g k.kws∧k.kws.length < 50∧ThV TT0 H vd (deedD dd)∧DeedOk k dd∧
 ∀a' dc' H',StAt (fun b=>H b=none) H' a' dc' (aftK k dd).m (aftK k dd).st (aftK k dd).g (aftK k dd).kws→H dc'=none→Same H H'→Q (.ref a') H'
theorem ths3' {F:Addr→Prop} {H:Hp} {vs:List V} {d1 d2 d3:PyData} (t:ThVs F H vs [d1,d2,d3]):∃v1 v2 v3,vs=[v1,v2,v3]∧ThV F H v1 d1∧ThV F H v2 d2∧ThV F H v3 d3:=by
 cases t with
 | cons x1 t=>
 obtain⟨v2,v3,rfl,t2,t3⟩:=ths2 t
 exact⟨_,v2,v3,rfl,x1,t2,t3⟩
section
variable {P:Program} {w:World} {K:PySem.W.Frag} {mg:Str→Option Value} {base:Heap}
theorem ok_state (T:Txt K mg):FnOk P w K mg base CX0 1 T.f_state.a T.f_state.d ["_law_many", "_law_store", "_law_goal"] spState:=by
 refine T.f_state.F.ok sc_state (fun vs H Q E h=>?_) (fun cdv A outer s H vs Q E hr h=>?_)
 ·obtain⟨m,st,g,vg,rfl,_⟩:=h
  rfl
 ·obtain⟨m,st,g,vg,rfl,tg,told⟩:=h
  obtain⟨ag,ug,rfl,_,eg,tug⟩:=th_lst tg
  refine⟨_,(pss_one (ps_ret (pe_lst (pa_cons (pv 0) (pa_cons (pv 1) (pa_cons (pe_callTy call_list_of rfl T.n_list bt_list (pa_cons (pv 2) pa_nil se_Name) (he:=se_Name) (hpl:=np_nil)) (pa_cons pe_dnewK pa_nil se_Dict) se_Call) se_Name) se_Name)))),?_⟩
  try dsimp only[cxOf,Cx.nox]
  refine⟨_,rfl,_,rfl,_,rfl,ag,ug,rfl,.inl (SqL.of eg),fun l hl=>?_⟩
  intro d hd
  refine⟨by show 4≤sizeLine;decide,fun a ha=>?_⟩
  have s1:Same H _:=Same.upd (o:=.lst ug) hl
  have s2:=Same.upd (o:=.dK []) hd
  have s3:=Same.upd (o:=.lst [.int ((m:Nat):Int),.int st,.ref l,.ref d]) ha
  have s12:=s1.tr s2
  exact told a d _ ⟨⟨l,ug,upd_same,s12.early ha,hl,s3 _ _ (s2 _ _ upd_same),tab_any tug⟩,[],s3 _ _ upd_same,.nil⟩ (s1.early hd) (s12.tr s3)
theorem ok_after (T:Txt K mg):FnOk P w K mg base CX0 1 T.f_after.a T.f_after.d ["_law_state_here", "_law_deed_here"] spAfter:=by
 refine T.f_after.F.ok sc_after (fun vs H Q E h=>?_) (fun cdv A outer s H vs Q E hr h=>?_)
 ·obtain⟨F,a,dc,k,vd,dd,rfl,_⟩:=h
  rfl
 ·obtain⟨F,a,dc,k,vd,dd,rfl,sa,few,tvd,dok,told⟩:=h
  obtain⟨ad,ud,rfl,_,ed,tud⟩:=th_tup tvd
  obtain⟨v1,v2,rfl,t1,t2⟩:=ths2 tud
  obtain⟨al,ul,rfl,_,el,tul⟩:=th_lst t2
  obtain⟨⟨gl,ug,e1,f1,f2,e2,t2'⟩,kvs,e3,kv⟩:=sa
  refine⟨_,(pss_cons (ps_asg (pv 1) (pg_tup (n:=2) rfl (pgs_cons (pg_name (i:=2) sc_after.nd rfl (Or.inl rfl)) (pgs_cons (pg_name (i:=3) sc_after.nd rfl (Or.inl rfl)) pgs_nil))))
   (pss_cons (ps_set (i:=4) sc_after.nd rfl (Or.inl rfl) (pe_callTy call_dictK rfl T.n_dict bt_dict (pa_cons (pe_ix ix_list (pv 0) pe_int (fun _ _=>rfl)) pa_nil se_Subscript) (he:=se_Subscript) (hpl:=np_nil)))
   (pss_cons (ps_set (i:=5) sc_after.nd rfl (Or.inl rfl) (pe_lst (pa_cons (pe_ix ix_list (pv 0) pe_int (fun _ _=>rfl)) (pa_cons (pe_ix ix_list (pv 0) pe_int (fun _ _=>rfl)) (pa_cons (pe_callTy call_list_of rfl T.n_list bt_list (pa_cons (pe_ix ix_list (pv 0) pe_int (fun _ _=>rfl)) pa_nil se_Subscript) (he:=se_Subscript) (hpl:=np_nil)) (pa_cons (pv 4) pa_nil se_Name) se_Call) se_Subscript) se_Subscript)))
   (pss_cons (ps_mid (ps_if (pt_cmpR op_eq (pv 2) pe_str (nomark _))
   (pss_one (ps_dput (u1 (units_of hr)) (pv 4) (pe_ix ix_list (pv 3) pe_int (fun _ _=>rfl)) (pe_tup (pa_cons (pe_ix ix_list (pv 3) pe_int (fun _ _=>rfl)) (pa_cons (pe_ix ix_list (pv 3) pe_int (fun _ _=>rfl)) (pa_cons (pe_ix ix_list (pv 3) pe_int (fun _ _=>rfl)) pa_nil se_Subscript) se_Subscript) se_Subscript)) rfl))
   pss_nil))
   (pss_cons (ps_mid (ps_if (pt_cmpR op_eq (pv 2) pe_str (nomark _))
   (pss_one (ps_expr (pe_dpop1 (pv 4) (pe_ix ix_list (pv 3) pe_int (fun _ _=>rfl)) ⟨rfl,rfl,rfl,rfl⟩)))
   pss_nil))
   (pss_cons (ps_mid (ps_if (pt_cmpR op_eq (pv 2) pe_str (nomark _))
   (pss_one (ps_dput (u1 (units_of hr)) (pv 4) (pe_ix ix_list (pv 3) pe_int (fun _ _=>rfl)) (pe_tup (pa_cons (pe_ix ix_seq (pe_dget (u1 (units_of hr)) (pv 4) (pe_ix ix_list (pv 3) pe_int (fun _ _=>rfl)) (fun _ _=>rfl)) pe_int (fun _ _=>rfl)) (pa_cons (pe_ix ix_seq (pe_dget (u1 (units_of hr)) (pv 4) (pe_ix ix_list (pv 3) pe_int (fun _ _=>rfl)) (fun _ _=>rfl)) pe_int (fun _ _=>rfl)) (pa_cons (pe_ix ix_list (pv 3) pe_int (fun _ _=>rfl)) pa_nil se_Subscript) se_Subscript) se_Subscript)) rfl))
   pss_nil))
   (pss_cons (ps_mid (ps_if (pt_cmpR op_eq (pv 2) pe_str (nomark _))
   (pss_one (ps_asg (pe_ix ix_list (pv 3) pe_int (fun _ _=>rfl)) (pg_sub (pv 5) pe_int set_list)))
   pss_nil))
   (pss_cons (ps_mid (ps_if (pt_cmpR op_eq (pv 2) pe_str (nomark _))
   (pss_one (ps_asg (pe_callTy call_list_of rfl T.n_list bt_list (pa_cons (pe_ix ix_list (pv 3) pe_int (fun _ _=>rfl)) pa_nil se_Subscript) (he:=se_Subscript) (hpl:=np_nil)) (pg_sub (pv 5) pe_int set_list)))
   pss_nil))
   (pss_one (ps_ret (pv 5))))))))))),?_⟩
  try dsimp only[cxOf,Cx.nox]
  refine⟨_,rfl,ad,_,rfl,SqT.of ed,rfl,_,_,rfl,_,_,rfl,rfl,?_⟩
  have dn0:True:=trivial
  refine⟨_,rfl,a,_,_,_,rfl,rfl,SqL.of e1,rfl,dc,kvs,rfl,e3,fun dn hdn=>?_⟩
  have s1:=Same.upd (o:=.dK kvs) hdn
  refine⟨_,rfl,a,_,_,_,rfl,rfl,SqL.of (s1 _ _ e1),rfl,_,rfl,a,_,_,_,rfl,rfl,SqL.of (s1 _ _ e1),rfl,_,rfl,a,_,_,_,rfl,rfl,SqL.of (s1 _ _ e1),rfl,gl,ug,rfl,.inl (SqL.of (s1 _ _ e2)),fun l hl=>?_⟩
  have s2:=Same.upd (o:=.lst ug) hl
  refine⟨_,rfl,by show 4≤sizeLine;decide,fun aa haa=>?_⟩
  have s3:=Same.upd (o:=.lst [.int ((k.m:Nat):Int),.int k.st,.ref l,.ref dn]) haa
  have s12:=s1.tr s2
  have sH:=s12.tr s3
  obtain⟨H3,hH3⟩:∃H3,H3=upd (upd (upd H dn (.dK kvs)) l (.lst ug)) aa (.lst [.int ((k.m:Nat):Int),.int k.st,.ref l,.ref dn]):=⟨_,rfl⟩
  rw[←hH3] at sH ⊢
  have eaa:H3 aa=some (.lst [.int ((k.m:Nat):Int),.int k.st,.ref l,.ref dn]):=by rw[hH3];exact upd_same
  have el1:H3 l=some (.lst ug):=by rw[hH3];exact s3 _ _ upd_same
  have edn:H3 dn=some (.dK kvs):=by rw[hH3];exact s3 _ _ (s2 _ _ upd_same)
  have aan:=s12.early haa
  have ln:=s1.early hl
  have el3:=sH _ _ el
  have kv3:=kv.mv (H':=H3) fun b xs e=>sH _ _ e
  have nal:aa≠dn:=fun z=>by rw[z,edn] at eaa;cases eaa
  have nld:l≠dn:=fun z=>by rw[z,edn] at el1;cases el1
  have nlaa:l≠aa:=fun z=>by rw[←z,upd_same] at haa;cases haa
  clear hH3 s1 s2 s3 s12 haa hl
  have wfin:∀(H5:Hp) (kvs':List (Key×V)) (kws':Kw),Same H3 H5→KvAt H5 kvs' kws'→Same H (upd H5 dn (.dK kvs'))∧StAt (fun b=>H b=none) (upd H5 dn (.dK kvs')) aa dn k.m k.st k.g kws':=fun H5 kvs' kws' s5 h4=>by
   have f:∀b o,H5 b=some o→b≠dn→upd H5 dn (.dK kvs') b=some o:=fun b o e n=>by rw[upd_ne n];exact e
   refine⟨fun b o e=>f _ _ (s5 _ _ (sH _ _ e)) (fun z=>by rw[z,hdn] at e;cases e),⟨l,ug,f _ _ (s5 _ _ eaa) nal,aan,ln,f _ _ (s5 _ _ el1) nld,tab_any t2'⟩,kvs',upd_same,h4.mv fun b xs e=>f _ _ e fun z=>?_⟩
   rw[z,s5 _ _ edn] at e;cases e
  cases dd with
  | lay x w0=>
   have t1:ThV TT0 H v1 (.str "lay"):=t1
   cases t1
   obtain⟨u1,u2,u3,u4,rfl,c1,c2,c3,c4⟩:=ths4 tul
   cases c1
   cases c2
   cases c3
   cases c4
   refine⟨fun σ' H'=>σ'=[some (.ref a),some (.ref ad),some (.str "lay"),some (.ref al),some (.ref dn),some (.ref aa)]∧Same H H'∧StAt (fun b=>H b=none) H' aa dn k.m k.st k.g (putW k.kws x w0),?_,?_⟩
   ·refine⟨_,rfl,rfl,_,rfl,?_⟩
    rw[show decide (V.str "lay" = V.str "lay")=true from decide_eq_true rfl]
    refine iteT ?_
    refine⟨_,rfl,al,_,_,_,rfl,rfl,SqL.of el3,rfl,_,rfl,al,_,_,_,rfl,rfl,SqL.of el3,rfl,_,rfl,al,_,_,_,rfl,rfl,SqL.of el3,rfl,by show 3≤sizeLine;decide,fun t ht=>?_⟩
    have s4:=Same.upd (o:=.tup [.int ((w0.1:Nat):Int),.int ((w0.2.1:Nat):Int),.int w0.2.2]) ht
    refine⟨_,rfl,_,rfl,al,_,_,_,rfl,rfl,SqL.of (s4 _ _ el3),rfl,dn,_,rfl,DPut.k (k:=Sum.inl x) (s4 _ _ edn) (by rw[kv.len,sizeLine_eq];omega),rfl,?_⟩
    exact wfin _ _ _ s4 ((kv3.mv fun b xs e=>s4 _ _ e).put (.tup trivial upd_same (.cons (.int _) (.cons (.int _) (.cons (.int _) .nil)))))
   rintro σ' H4 ⟨rfl,sH4,fin⟩
   refine⟨fun σ' H'=>σ'=[some (.ref a),some (.ref ad),some (.str "lay"),some (.ref al),some (.ref dn),some (.ref aa)]∧H4=H',?_,?_⟩
   ·refine⟨_,rfl,rfl,_,rfl,?_⟩
    rw[show decide (V.str "lay" = V.str "lift")=false from decide_eq_false (by decide)]
    exact iteF ⟨rfl,rfl⟩
   rintro σ' _ ⟨rfl,rfl⟩
   refine⟨fun σ' H'=>σ'=[some (.ref a),some (.ref ad),some (.str "lay"),some (.ref al),some (.ref dn),some (.ref aa)]∧H4=H',?_,?_⟩
   ·refine⟨_,rfl,rfl,_,rfl,?_⟩
    rw[show decide (V.str "lay" = V.str "turn")=false from decide_eq_false (by decide)]
    exact iteF ⟨rfl,rfl⟩
   rintro σ' _ ⟨rfl,rfl⟩
   refine⟨fun σ' H'=>σ'=[some (.ref a),some (.ref ad),some (.str "lay"),some (.ref al),some (.ref dn),some (.ref aa)]∧H4=H',?_,?_⟩
   ·refine⟨_,rfl,rfl,_,rfl,?_⟩
    rw[show decide (V.str "lay" = V.str "refill")=false from decide_eq_false (by decide)]
    exact iteF ⟨rfl,rfl⟩
   rintro σ' _ ⟨rfl,rfl⟩
   refine⟨fun σ' H'=>σ'=[some (.ref a),some (.ref ad),some (.str "lay"),some (.ref al),some (.ref dn),some (.ref aa)]∧H4=H',?_,?_⟩
   ·refine⟨_,rfl,rfl,_,rfl,?_⟩
    rw[show decide (V.str "lay" = V.str "aim")=false from decide_eq_false (by decide)]
    exact iteF ⟨rfl,rfl⟩
   rintro σ' _ ⟨rfl,rfl⟩
   exact⟨_,rfl,told aa dn H4 fin hdn sH4⟩
  | lift x=>
   have t1:ThV TT0 H v1 (.str "lift"):=t1
   cases t1
   obtain⟨u1,rfl,c1⟩:=ths1' tul
   cases c1
   obtain⟨lx,w0,hw⟩:=id dok
   obtain⟨v0,w1,hv,hw1,tv⟩:∃v w,valV kvs (Sum.inl x:Key)=some v∧getW k.kws x=some w∧ThV TT0 H3 v (wayD w):=by
    rcases kv3.val x with ⟨_,z⟩ | h
    ·rw[hw] at z;cases z
    ·exact h
   refine⟨fun σ' H'=>σ'=[some (.ref a),some (.ref ad),some (.str "lift"),some (.ref al),some (.ref dn),some (.ref aa)]∧H3=H',?_,?_⟩
   ·refine⟨_,rfl,rfl,_,rfl,?_⟩
    rw[show decide (V.str "lift" = V.str "lay")=false from decide_eq_false (by decide)]
    exact iteF ⟨rfl,rfl⟩
   rintro σ' _ ⟨rfl,rfl⟩
   refine⟨fun σ' H'=>σ'=[some (.ref a),some (.ref ad),some (.str "lift"),some (.ref al),some (.ref dn),some (.ref aa)]∧Same H H'∧StAt (fun b=>H b=none) H' aa dn k.m k.st k.g (delW k.kws x),?_,?_⟩
   ·refine⟨_,rfl,rfl,_,rfl,?_⟩
    rw[show decide (V.str "lift" = V.str "lift")=true from decide_eq_true rfl]
    refine iteT ?_
    refine⟨_,rfl,dn,rfl,.inl ⟨kvs,.inl edn⟩,_,rfl,al,_,_,_,rfl,rfl,SqL.of el3,rfl,kvs,Sum.inl x,v0,edn,rfl,hv,rfl,?_⟩
    exact wfin _ _ _ (Same.refl _) (kv3.drop x)
   rintro σ' H4 ⟨rfl,sH4,fin⟩
   refine⟨fun σ' H'=>σ'=[some (.ref a),some (.ref ad),some (.str "lift"),some (.ref al),some (.ref dn),some (.ref aa)]∧H4=H',?_,?_⟩
   ·refine⟨_,rfl,rfl,_,rfl,?_⟩
    rw[show decide (V.str "lift" = V.str "turn")=false from decide_eq_false (by decide)]
    exact iteF ⟨rfl,rfl⟩
   rintro σ' _ ⟨rfl,rfl⟩
   refine⟨fun σ' H'=>σ'=[some (.ref a),some (.ref ad),some (.str "lift"),some (.ref al),some (.ref dn),some (.ref aa)]∧H4=H',?_,?_⟩
   ·refine⟨_,rfl,rfl,_,rfl,?_⟩
    rw[show decide (V.str "lift" = V.str "refill")=false from decide_eq_false (by decide)]
    exact iteF ⟨rfl,rfl⟩
   rintro σ' _ ⟨rfl,rfl⟩
   refine⟨fun σ' H'=>σ'=[some (.ref a),some (.ref ad),some (.str "lift"),some (.ref al),some (.ref dn),some (.ref aa)]∧H4=H',?_,?_⟩
   ·refine⟨_,rfl,rfl,_,rfl,?_⟩
    rw[show decide (V.str "lift" = V.str "aim")=false from decide_eq_false (by decide)]
    exact iteF ⟨rfl,rfl⟩
   rintro σ' _ ⟨rfl,rfl⟩
   exact⟨_,rfl,told aa dn H4 fin hdn sH4⟩
  | turn x c=>
   have t1:ThV TT0 H v1 (.str "turn"):=t1
   cases t1
   obtain⟨u1,u2,rfl,c1,c2⟩:=ths2 tul
   cases c1
   cases c2
   obtain⟨⟨lx,w0,hw⟩,_⟩:=id dok
   obtain⟨v0,w1,hv,hw1,tv⟩:∃v w,valV kvs (Sum.inl x:Key)=some v∧getW k.kws x=some w∧ThV TT0 H3 v (wayD w):=by
    rcases kv3.val x with ⟨_,z⟩ | h
    ·rw[hw] at z;cases z
    ·exact h
   obtain⟨tw,utw,rfl,gtw,etw,ttw⟩:=th_tup (show ThV TT0 H3 v0 (.tuple ([((w1.1:Nat):Int),((w1.2.1:Nat):Int),w1.2.2].map PyData.int)) from tv)
   obtain⟨y1,y2,y3,rfl,ty1,ty2,ty3⟩:=ths3' ttw
   cases ty1
   cases ty2
   cases ty3
   refine⟨fun σ' H'=>σ'=[some (.ref a),some (.ref ad),some (.str "turn"),some (.ref al),some (.ref dn),some (.ref aa)]∧H3=H',?_,?_⟩
   ·refine⟨_,rfl,rfl,_,rfl,?_⟩
    rw[show decide (V.str "turn" = V.str "lay")=false from decide_eq_false (by decide)]
    exact iteF ⟨rfl,rfl⟩
   rintro σ' _ ⟨rfl,rfl⟩
   refine⟨fun σ' H'=>σ'=[some (.ref a),some (.ref ad),some (.str "turn"),some (.ref al),some (.ref dn),some (.ref aa)]∧H3=H',?_,?_⟩
   ·refine⟨_,rfl,rfl,_,rfl,?_⟩
    rw[show decide (V.str "turn" = V.str "lift")=false from decide_eq_false (by decide)]
    exact iteF ⟨rfl,rfl⟩
   rintro σ' _ ⟨rfl,rfl⟩
   refine⟨fun σ' H'=>σ'=[some (.ref a),some (.ref ad),some (.str "turn"),some (.ref al),some (.ref dn),some (.ref aa)]∧Same H H'∧StAt (fun b=>H b=none) H' aa dn k.m k.st k.g (putW k.kws x (trnW k.kws x c)),?_,?_⟩
   ·refine⟨_,rfl,rfl,_,rfl,?_⟩
    rw[show decide (V.str "turn" = V.str "turn")=true from decide_eq_true rfl]
    refine iteT ?_
    refine⟨_,rfl,_,rfl,al,_,_,_,rfl,rfl,SqL.of el3,rfl,dn,_,rfl,by rw[←hv];exact DGet.k (k:=Sum.inl x) edn,.inr (.inl ⟨tw,_,0,_,rfl,rfl,SqT.of etw,rfl,?_⟩)⟩
    refine⟨_,rfl,_,rfl,al,_,_,_,rfl,rfl,SqL.of el3,rfl,dn,_,rfl,by rw[←hv];exact DGet.k (k:=Sum.inl x) edn,.inr (.inl ⟨tw,_,1,_,rfl,rfl,SqT.of etw,rfl,?_⟩)⟩
    refine⟨_,rfl,al,_,_,_,rfl,rfl,SqL.of el3,rfl,by show 3≤sizeLine;decide,fun t ht=>?_⟩
    have s4:=Same.upd (o:=.tup [.int ((w1.1:Nat):Int),.int ((w1.2.1:Nat):Int),.int c]) ht
    refine⟨_,rfl,_,rfl,al,_,_,_,rfl,rfl,SqL.of (s4 _ _ el3),rfl,dn,_,rfl,DPut.k (k:=Sum.inl x) (s4 _ _ edn) (by rw[kv.len,sizeLine_eq];omega),rfl,?_⟩
    have ht':trnW k.kws x c=(w1.1,w1.2.1,c):=by unfold trnW;rw[hw1];rfl
    rw[ht']
    exact wfin _ _ _ s4 ((kv3.mv fun b xs e=>s4 _ _ e).put (.tup trivial upd_same (.cons (.int _) (.cons (.int _) (.cons (.int _) .nil)))))
   rintro σ' H4 ⟨rfl,sH4,fin⟩
   refine⟨fun σ' H'=>σ'=[some (.ref a),some (.ref ad),some (.str "turn"),some (.ref al),some (.ref dn),some (.ref aa)]∧H4=H',?_,?_⟩
   ·refine⟨_,rfl,rfl,_,rfl,?_⟩
    rw[show decide (V.str "turn" = V.str "refill")=false from decide_eq_false (by decide)]
    exact iteF ⟨rfl,rfl⟩
   rintro σ' _ ⟨rfl,rfl⟩
   refine⟨fun σ' H'=>σ'=[some (.ref a),some (.ref ad),some (.str "turn"),some (.ref al),some (.ref dn),some (.ref aa)]∧H4=H',?_,?_⟩
   ·refine⟨_,rfl,rfl,_,rfl,?_⟩
    rw[show decide (V.str "turn" = V.str "aim")=false from decide_eq_false (by decide)]
    exact iteF ⟨rfl,rfl⟩
   rintro σ' _ ⟨rfl,rfl⟩
   exact⟨_,rfl,told aa dn H4 fin hdn sH4⟩
  | refill x=>
   have t1:ThV TT0 H v1 (.str "refill"):=t1
   cases t1
   obtain⟨u1,rfl,c1⟩:=ths1' tul
   cases c1
   refine⟨fun σ' H'=>σ'=[some (.ref a),some (.ref ad),some (.str "refill"),some (.ref al),some (.ref dn),some (.ref aa)]∧H3=H',?_,?_⟩
   ·refine⟨_,rfl,rfl,_,rfl,?_⟩
    rw[show decide (V.str "refill" = V.str "lay")=false from decide_eq_false (by decide)]
    exact iteF ⟨rfl,rfl⟩
   rintro σ' _ ⟨rfl,rfl⟩
   refine⟨fun σ' H'=>σ'=[some (.ref a),some (.ref ad),some (.str "refill"),some (.ref al),some (.ref dn),some (.ref aa)]∧H3=H',?_,?_⟩
   ·refine⟨_,rfl,rfl,_,rfl,?_⟩
    rw[show decide (V.str "refill" = V.str "lift")=false from decide_eq_false (by decide)]
    exact iteF ⟨rfl,rfl⟩
   rintro σ' _ ⟨rfl,rfl⟩
   refine⟨fun σ' H'=>σ'=[some (.ref a),some (.ref ad),some (.str "refill"),some (.ref al),some (.ref dn),some (.ref aa)]∧H3=H',?_,?_⟩
   ·refine⟨_,rfl,rfl,_,rfl,?_⟩
    rw[show decide (V.str "refill" = V.str "turn")=false from decide_eq_false (by decide)]
    exact iteF ⟨rfl,rfl⟩
   rintro σ' _ ⟨rfl,rfl⟩
   refine⟨fun σ' H'=>σ'=[some (.ref a),some (.ref ad),some (.str "refill"),some (.ref al),some (.ref dn),some (.ref aa)]∧Same H H'∧StAt (fun b=>H b=none) H' aa dn k.m x k.g k.kws,?_,?_⟩
   ·refine⟨_,rfl,rfl,_,rfl,?_⟩
    rw[show decide (V.str "refill" = V.str "refill")=true from decide_eq_true rfl]
    refine iteT ?_
    refine⟨_,rfl,al,_,_,_,rfl,rfl,SqL.of el3,rfl,_,rfl,aa,_,_,1,rfl,rfl,eaa,rfl,rfl,?_⟩
    have f:∀b o,H3 b=some o→b≠aa→upd H3 aa (.lst [.int ((k.m:Nat):Int),.int x,.ref l,.ref dn]) b=some o:=fun b o e n=>by rw[upd_ne n];exact e
    have nla:l≠aa:=fun z=>nlaa z
    refine⟨fun b o e=>f _ _ (sH _ _ e) (fun z=>by rw[z,aan] at e;cases e),⟨l,ug,upd_same,aan,ln,f _ _ el1 nla,tab_any t2'⟩,kvs,f _ _ edn nal.symm,kv3.mv fun b xs e=>f _ _ e fun z=>?_⟩
    rw[z,eaa] at e;cases e
   rintro σ' H4 ⟨rfl,sH4,fin⟩
   refine⟨fun σ' H'=>σ'=[some (.ref a),some (.ref ad),some (.str "refill"),some (.ref al),some (.ref dn),some (.ref aa)]∧H4=H',?_,?_⟩
   ·refine⟨_,rfl,rfl,_,rfl,?_⟩
    rw[show decide (V.str "refill" = V.str "aim")=false from decide_eq_false (by decide)]
    exact iteF ⟨rfl,rfl⟩
   rintro σ' _ ⟨rfl,rfl⟩
   exact⟨_,rfl,told aa dn H4 fin hdn sH4⟩
  | aim x=>
   have t1:ThV TT0 H v1 (.str "aim"):=t1
   cases t1
   obtain⟨u1,rfl,c1⟩:=ths1' tul
   obtain⟨ag,uag,rfl,_,eag,tag⟩:=th_lst c1
   refine⟨fun σ' H'=>σ'=[some (.ref a),some (.ref ad),some (.str "aim"),some (.ref al),some (.ref dn),some (.ref aa)]∧H3=H',?_,?_⟩
   ·refine⟨_,rfl,rfl,_,rfl,?_⟩
    rw[show decide (V.str "aim" = V.str "lay")=false from decide_eq_false (by decide)]
    exact iteF ⟨rfl,rfl⟩
   rintro σ' _ ⟨rfl,rfl⟩
   refine⟨fun σ' H'=>σ'=[some (.ref a),some (.ref ad),some (.str "aim"),some (.ref al),some (.ref dn),some (.ref aa)]∧H3=H',?_,?_⟩
   ·refine⟨_,rfl,rfl,_,rfl,?_⟩
    rw[show decide (V.str "aim" = V.str "lift")=false from decide_eq_false (by decide)]
    exact iteF ⟨rfl,rfl⟩
   rintro σ' _ ⟨rfl,rfl⟩
   refine⟨fun σ' H'=>σ'=[some (.ref a),some (.ref ad),some (.str "aim"),some (.ref al),some (.ref dn),some (.ref aa)]∧H3=H',?_,?_⟩
   ·refine⟨_,rfl,rfl,_,rfl,?_⟩
    rw[show decide (V.str "aim" = V.str "turn")=false from decide_eq_false (by decide)]
    exact iteF ⟨rfl,rfl⟩
   rintro σ' _ ⟨rfl,rfl⟩
   refine⟨fun σ' H'=>σ'=[some (.ref a),some (.ref ad),some (.str "aim"),some (.ref al),some (.ref dn),some (.ref aa)]∧H3=H',?_,?_⟩
   ·refine⟨_,rfl,rfl,_,rfl,?_⟩
    rw[show decide (V.str "aim" = V.str "refill")=false from decide_eq_false (by decide)]
    exact iteF ⟨rfl,rfl⟩
   rintro σ' _ ⟨rfl,rfl⟩
   refine⟨fun σ' H'=>σ'=[some (.ref a),some (.ref ad),some (.str "aim"),some (.ref al),some (.ref dn),some (.ref aa)]∧Same H H'∧StAt (fun b=>H b=none) H' aa dn k.m k.st x k.kws,?_,?_⟩
   ·refine⟨_,rfl,rfl,_,rfl,?_⟩
    rw[show decide (V.str "aim" = V.str "aim")=true from decide_eq_true rfl]
    refine iteT ?_
    refine⟨_,rfl,al,_,_,_,rfl,rfl,SqL.of el3,rfl,ag,uag,rfl,.inl (SqL.of (sH _ _ eag)),fun l5 hl5=>?_⟩
    have s5:=Same.upd (o:=.lst uag) hl5
    refine⟨_,rfl,aa,_,_,2,rfl,rfl,s5 _ _ eaa,rfl,rfl,?_⟩
    have f:∀b o,upd H3 l5 (.lst uag) b=some o→b≠aa→upd (upd H3 l5 (.lst uag)) aa (.lst [.int ((k.m:Nat):Int),.int k.st,.ref l5,.ref dn]) b=some o:=fun b o e n=>by rw[upd_ne n];exact e
    have nla:l5≠aa:=fun z=>by rw[z,eaa] at hl5;cases hl5
    refine⟨fun b o e=>f _ _ (s5 _ _ (sH _ _ e)) (fun z=>by rw[z,aan] at e;cases e),⟨l5,uag,upd_same,aan,sH.early hl5,f _ _ upd_same nla,tab_any tag⟩,kvs,f _ _ (s5 _ _ edn) nal.symm,(kv3.mv fun b xs e=>s5 _ _ e).mv fun b xs e=>f _ _ e fun z=>?_⟩
    rw[z,s5 _ _ eaa] at e;cases e
   rintro σ' H4 ⟨rfl,sH4,fin⟩
   exact⟨_,rfl,told aa dn H4 fin hdn sH4⟩
end
def labN (x0:Int) (j:Nat):Int:=(x0 - 1 + ((j:Nat):Int)) % 1000000000000000000 + 1
theorem lab_step (x0:Int) (j:Nat):labN x0 (j + 1)=labN x0 j % 1000000000000000000 + 1:=by unfold labN;omega
theorem lab_ok (x0:Int) (j:Nat):LabOk (labN x0 j):=by unfold labN LabOk;omega
theorem lab_zero {x0:Int} (h:LabOk x0):labN x0 0=x0:=by unfold LabOk at h;unfold labN;omega
theorem lab_inj {x0:Int} {i j:Nat} (hi:i≤1000) (hj:j≤1000) (h:labN x0 i=labN x0 j):i=j:=by unfold labN at h;omega
theorem few_of {α:Type} [BEq α] [LawfulBEq α]:∀{l k:List α},l.Nodup→(∀x∈l,x∈k)→l.length≤k.length
 | [],_,_,_=>Nat.zero_le _
 | x::t,k,nd,h=>by
  have hx:=h x List.mem_cons_self
  obtain⟨nx,nt⟩:=List.nodup_cons.mp nd
  have:=few_of (k:=k.erase x) nt fun y hy=>(List.mem_erase_of_ne (fun z=>nx (by rw[←z];exact hy))).mpr (h y (List.mem_cons_of_mem _ hy))
  rw[List.length_erase_of_mem hx] at this
  have:0 < k.length:=List.length_pos_of_mem hx
  rw[List.length_cons];omega
theorem lab_few {x0:Int} {ks:List Int} {j:Nat} (hj:j≤1000) (h:∀i,i < j→labN x0 i∈ks):j≤ks.length:=by
 have:=few_of (l:=(List.range j).map (labN x0)) (k:=ks) ?_ fun x hx=>?_
 ·rw[List.length_map,List.length_range] at this;exact this
 ·refine List.pairwise_map.mpr ?_
  refine List.Pairwise.imp_of_mem (fun {a b} ha hb n z=>?_) (List.nodup_range (n:=j))
  exact n (lab_inj (by have:=List.mem_range.mp ha;omega) (by have:=List.mem_range.mp hb;omega) z)
 ·obtain⟨i,hi,rfl⟩:=List.mem_map.mp hx
  exact h i (List.mem_range.mp hi)
def LayN (n:Nat) (d:PyData):Prop:=d.canLay0=true∧d.depth≤n
theorem LayN.all {n:Nat}:∀{ds:List PyData},(∀d∈ds,LayN n d)→PyData.canLayAll0 ds=true∧PyData.depthAll ds≤n
 | [],_=>⟨rfl,Nat.zero_le _⟩
 | d::ds,h=>by
  obtain⟨a,b⟩:=LayN.all fun x hx=>h x (List.mem_cons_of_mem _ hx)
  obtain⟨a1,b1⟩:=h d List.mem_cons_self
  constructor
  ·show (PyData.canLay0 d&&PyData.canLayAll0 ds)=true
   rw[a,a1];rfl
  ·show max (PyData.depth d) (PyData.depthAll ds)≤n
   omega
theorem LayN.lst {n:Nat} {ds:List PyData} (h:∀d∈ds,LayN n d):LayN (n + 1) (.list ds):=by
 obtain⟨a,b⟩:=LayN.all h
 refine⟨by rw[PyData.canLay0];exact a,?_⟩
 show PyData.depthAll ds + 1≤n + 1
 omega
theorem LayN.tup {n:Nat} {ds:List PyData} (h:∀d∈ds,LayN n d):LayN (n + 1) (.tuple ds):=by
 obtain⟨a,b⟩:=LayN.all h
 refine⟨by rw[PyData.canLay0];exact a,?_⟩
 show PyData.depthAll ds + 1≤n + 1
 omega
theorem LayN.int {n:Nat} (i:Int):LayN n (.int i):=⟨rfl,Nat.zero_le _⟩
theorem LayN.o {n:Nat} (o:Option Int):LayN n (oD o):=by cases o <;> exact⟨rfl,Nat.zero_le _⟩
theorem LayN.tab (t:Tb):LayN 1 (.list (tabL t)):=LayN.lst fun d hd=>by
 unfold tabL at hd
 obtain⟨o,_,rfl⟩:=List.mem_map.mp hd
 exact .o o
theorem LayN.way (w:Wy):LayN 1 (wayD w):=LayN.tup fun d hd=>by
 rcases List.mem_cons.mp hd with rfl | hd
 ·exact .int _
 rcases List.mem_cons.mp hd with rfl | hd
 ·exact .int _
 rw[List.mem_singleton.mp hd];exact .int _
theorem LayN.land (m:Nat) (ws:List Wy):LayN 3 (landD m ws):=LayN.tup fun d hd=>by
 rcases List.mem_cons.mp hd with rfl | hd
 ·exact .int _
 rw[List.mem_singleton.mp hd]
 exact LayN.lst fun d hd=>by
  obtain⟨w,_,rfl⟩:=List.mem_map.mp hd
  exact .way w
theorem LayN.two {n:Nat} {a b:PyData} (ha:LayN n a) (hb:LayN n b):∀d∈[a,b],LayN n d:=fun d hd=>by
 rcases List.mem_cons.mp hd with rfl | hd
 ·exact ha
 rw[List.mem_singleton.mp hd];exact hb
theorem LayN.dep {n:Nat} {a:PyData} (h:LayN n a) (l:n≤64) (b:PyData):min a.depth b.depth≤64:=by have:=h.2;omega
theorem LayN.same {n:Nat} {a:PyData} (h:LayN n a):PyData.eqv a a=true:=PySem.SeqAt.eqv_refl _ h.1
def spDeed:Sp:=fun vs H Q _=>∃(F:Addr→Prop) (hd hl a dc:Addr) (k:Kst) (sc mo:Int),vs=[.ref hd,.ref a,.int sc,.int mo]∧Hd H hd hl∧(∀b,F b→b≠hd)∧StAt F H a dc k.m k.st k.g k.kws∧KOk k.m k.st k.g k.kws∧(0≤sc∧sc≤1000000000000000000)∧(0≤mo∧mo≤10000000000000000000)∧
 ∀dd v H',DeedOk k dd→(isLay dd→k.kws.length < 8)→ThV (fun b=>b≠hd) H' v (deedD dd)→(∀b o,H b=some o→b≠hd→H' b=some o)→Hd H' hd hl→Q v H'
theorem ints_thV {F:Addr→Prop} {H:Hp}:∀xs:List Int,ThVs F H (xs.map V.int) (xs.map PyData.int)
 | []=>.nil
 | x::xs=>.cons (.int _) (ints_thV xs)
theorem LayN.ints (ns:List Int):LayN 1 (.list (ns.map PyData.int)):=LayN.lst fun d hd=>by
 obtain⟨n,_,rfl⟩:=List.mem_map.mp hd
 exact⟨rfl,Nat.zero_le _⟩
theorem tIf_of {c:TT} {t u:TS} {D:Ends} {σ:St} {H:Hp} (good:Bool→Hp→Prop) (h:∀Qx:Bool→Hp→Prop,(∀b H2,good b H2→Qx b H2)→c σ H Qx) (h2:∀b H2,good b H2→if b=true then t D σ H2 else u D σ H2):tIfS c t u D σ H:=h _ h2
section
variable {P:Program} {w:World} {K:PySem.W.Frag} {mg:Str→Option Value} {base:Heap}
theorem ok_deed (T:Txt K mg):FnOk P w K mg base CX0 6 T.f_deed.a T.f_deed.d ["_law_hand_here", "_law_state_here", "_law_scale", "_law_most"] spDeed:=by
 have G_draw:=@ok_drawD P w K mg base T
 have b_draw:=T.f_draw.b
 have G_change:=@ok_change P w K mg base T
 have b_change:=T.f_change.b
 have G_table:=@ok_table P w K mg base T
 have b_table:=T.f_table.b
 refine T.f_deed.F.ok sc_deed (fun vs H Q E h=>?_) (fun cdv A outer s H vs Q E hr h=>?_)
 ·obtain⟨F,hd,hl,a,dc,k,sc,mo,rfl,_⟩:=h
  rfl
 ·obtain⟨F,hd,hl,a,dc,k,sc,mo,rfl,hh,hF,sa,ok,hsc,hmo,told⟩:=h
  obtain⟨⟨gl,ug,e1,f1,f2,e2,t2⟩,kvs,e3,kv⟩:=sa
  refine⟨_,(pss_cons (ps_set (i:=4) sc_deed.nd rfl (Or.inl rfl) (pe_call G_draw (hr.mono (by decide)) rfl T.f_draw.m T.f_draw.F.kp b_draw .nil pass0 (pa_cons (pv 0) (pa_cons pe_int pa_nil se_Constant) se_Name) (he:=se_Name) (hpl:=(np_cons se_Constant np_nil))))
   (pss_cons (ps_set (i:=5) sc_deed.nd rfl (Or.inl rfl) (pe_callB (call_sortedK rfl) rfl T.n_sorted bt_sorted (pa_cons (pe_ix ix_list (pv 1) pe_int (fun _ _=>rfl)) pa_nil se_Subscript) (he:=se_Subscript) (hpl:=np_nil)))
   (pss_cons (ps_mid (ps_if (PW.pt (pw_or (PW.pt (pw_and (pt_cmpR op_lt (pv 4) pe_int (nomark _)) (pw_and1 (pt_cmpR op_lt (pe_callB call_len_seq rfl T.n_len bt_len (pa_cons (pv 5) pa_nil se_Name) (he:=se_Name) (hpl:=np_nil)) pe_int (nomark _))))) (pw_or1 (PW.pt (pw_and (pt_cmpR (op_eqD (units_of hr)) (pv 5) (pe_lst pa_nil) (nomark _)) (pw_and1 (pt_cmpR op_lt (pv 4) pe_int (nomark _))))))))
   (pss_cons (ps_set (i:=6) sc_deed.nd rfl (Or.inl rfl) (pe_ix ix_list (pe_lst (pa_cons (pe_op op_add pe_int (pe_call G_draw (hr.mono (by decide)) rfl T.f_draw.m T.f_draw.F.kp b_draw .nil pass0 (pa_cons (pv 0) (pa_cons pe_int pa_nil se_Constant) se_Name) (he:=se_Name) (hpl:=(np_cons se_Constant np_nil)))) (pa_cons (pe_op op_add pe_int (pe_call G_draw (hr.mono (by decide)) rfl T.f_draw.m T.f_draw.F.kp b_draw .nil pass0 (pa_cons (pv 0) (pa_cons (pe_op op_pow pe_int pe_int) pa_nil se_BinOp) se_Name) (he:=se_Name) (hpl:=(np_cons se_BinOp np_nil)))) pa_nil se_BinOp) se_BinOp)) (pe_call G_draw (hr.mono (by decide)) rfl T.f_draw.m T.f_draw.F.kp b_draw .nil pass0 (pa_cons (pv 0) (pa_cons pe_int pa_nil se_Constant) se_Name) (he:=se_Name) (hpl:=(np_cons se_Constant np_nil))) (fun _ _=>rfl)))
   (pss_cons (ps_while PassesOwn.never (pt_cmp (pc_din (u1 (units_of hr)) (pv 6) (pe_ix ix_list (pv 1) pe_int (fun _ _=>rfl))))
   (pss_one (ps_set (i:=6) sc_deed.nd rfl (Or.inl rfl) (pe_op op_add (pe_op op_mod (pv 6) (pe_op op_pow pe_int pe_int)) pe_int))))
   (pss_cons (ps_set (i:=7) sc_deed.nd rfl (Or.inl rfl) (pe_call G_draw (hr.mono (by decide)) rfl T.f_draw.m T.f_draw.F.kp b_draw .nil pass0 (pa_cons (pv 0) (pa_cons (pe_ix ix_list (pv 1) pe_int (fun _ _=>rfl)) pa_nil se_Subscript) se_Name) (he:=se_Name) (hpl:=(np_cons se_Subscript np_nil))))
   (pss_cons (ps_set (i:=8) sc_deed.nd rfl (Or.inl rfl) (pe_ix ix_list (pe_lst (pa_cons (pe_call G_draw (hr.mono (by decide)) rfl T.f_draw.m T.f_draw.F.kp b_draw .nil pass0 (pa_cons (pv 0) (pa_cons (pe_ix ix_list (pv 1) pe_int (fun _ _=>rfl)) pa_nil se_Subscript) se_Name) (he:=se_Name) (hpl:=(np_cons se_Subscript np_nil))) (pa_cons (pe_op op_mod (pe_op op_add (pv 7) pe_int) (pe_ix ix_list (pv 1) pe_int (fun _ _=>rfl))) pa_nil se_BinOp) se_Call)) (pe_call G_draw (hr.mono (by decide)) rfl T.f_draw.m T.f_draw.F.kp b_draw .nil pass0 (pa_cons (pv 0) (pa_cons pe_int pa_nil se_Constant) se_Name) (he:=se_Name) (hpl:=(np_cons se_Constant np_nil))) (fun _ _=>rfl)))
   (pss_one (ps_ret (pe_tup (pa_cons pe_str (pa_cons (pe_lst (pa_cons (pv 6) (pa_cons (pv 7) (pa_cons (pv 8) (pa_cons (pe_call G_change (hr.mono (by decide)) rfl T.f_change.m T.f_change.F.kp b_change .nil pass0 (pa_cons (pv 0) (pa_cons (pv 2) pa_nil se_Name) se_Name) (he:=se_Name) (hpl:=(np_cons se_Name np_nil))) pa_nil se_Call) se_Name) se_Name) se_Name)) pa_nil se_List) se_Constant))))))))
   pss_nil))
   (pss_cons (ps_mid (ps_if (pt_cmpR op_lt (pv 4) pe_int (nomark _))
   (pss_one (ps_ret (pe_tup (pa_cons pe_str (pa_cons (pe_lst (pa_cons (pe_ix ix_list (pv 5) (pe_call G_draw (hr.mono (by decide)) rfl T.f_draw.m T.f_draw.F.kp b_draw .nil pass0 (pa_cons (pv 0) (pa_cons (pe_callB call_len_seq rfl T.n_len bt_len (pa_cons (pv 5) pa_nil se_Name) (he:=se_Name) (hpl:=np_nil)) pa_nil se_Call) se_Name) (he:=se_Name) (hpl:=(np_cons se_Call np_nil))) (fun _ _=>rfl)) pa_nil se_Subscript)) pa_nil se_List) se_Constant))))
   pss_nil))
   (pss_cons (ps_mid (ps_if (pt_cmpR op_lt (pv 4) pe_int (nomark _))
   (pss_one (ps_ret (pe_tup (pa_cons pe_str (pa_cons (pe_lst (pa_cons (pe_ix ix_list (pv 5) (pe_call G_draw (hr.mono (by decide)) rfl T.f_draw.m T.f_draw.F.kp b_draw .nil pass0 (pa_cons (pv 0) (pa_cons (pe_callB call_len_seq rfl T.n_len bt_len (pa_cons (pv 5) pa_nil se_Name) (he:=se_Name) (hpl:=np_nil)) pa_nil se_Call) se_Name) (he:=se_Name) (hpl:=(np_cons se_Call np_nil))) (fun _ _=>rfl)) (pa_cons (pe_call G_change (hr.mono (by decide)) rfl T.f_change.m T.f_change.F.kp b_change .nil pass0 (pa_cons (pv 0) (pa_cons (pv 2) pa_nil se_Name) se_Name) (he:=se_Name) (hpl:=(np_cons se_Name np_nil))) pa_nil se_Call) se_Subscript)) pa_nil se_List) se_Constant))))
   pss_nil))
   (pss_cons (ps_mid (ps_if (pt_cmpR op_eq (pv 4) pe_int (nomark _))
   (pss_cons (ps_set (i:=9) sc_deed.nd rfl (Or.inl rfl) (pe_callB (call_maxI rfl) rfl T.n_max bt_max (pa_cons (pe_op op_cat (pe_lst (pa_cons pe_int pa_nil se_Constant)) (pe_comp (CompSc.new (N:=["_law_hand_here", "_law_state_here", "_law_scale", "_law_most", "_law_way", "_law_labels", "_law_label", "_law_start", "_law_end", "_law_low"]) (osc:=defScope s_deed) (by decide +kernel)) rfl (pi_list (pe_ix ix_list (pv 1) pe_int (fun _ _=>rfl))) (fun _=>(pts_one (pt_cmpR op_notN (pv 10) pe_non (nomark _)))) (fun _=>(pv 10)))) pa_nil se_BinOp) (he:=se_BinOp) (hpl:=np_nil)))
   (pss_one (ps_ret (pe_tup (pa_cons pe_str (pa_cons (pe_lst (pa_cons (pe_op op_add (pv 9) (pe_call G_draw (hr.mono (by decide)) rfl T.f_draw.m T.f_draw.F.kp b_draw .nil pass0 (pa_cons (pv 0) (pa_cons (pe_callB (call_max2 rfl) rfl T.n_max bt_max (pa_cons pe_int (pa_cons (pe_op op_sub (pe_op op_add (pv 3) pe_int) (pv 9)) pa_nil se_BinOp) se_Constant) (he:=se_Constant) (hpl:=(np_cons se_BinOp np_nil))) pa_nil se_Call) se_Name) (he:=se_Name) (hpl:=(np_cons se_Call np_nil)))) pa_nil se_BinOp)) pa_nil se_List) se_Constant)))))
   pss_nil))
   (pss_one (ps_ret (pe_tup (pa_cons pe_str (pa_cons (pe_lst (pa_cons (pe_call G_table (hr.mono (by decide)) rfl T.f_table.m T.f_table.F.kp b_table .nil pass0 (pa_cons (pv 0) (pa_cons (pe_ix ix_list (pv 1) pe_int (fun _ _=>rfl)) (pa_cons (pe_ix ix_list (pv 1) pe_int (fun _ _=>rfl)) pa_nil se_Subscript) se_Subscript) se_Name) (he:=se_Name) (hpl:=(np_cons se_Subscript (np_cons se_Subscript np_nil)))) pa_nil se_Call)) pa_nil se_List) se_Constant)))))))))),?_⟩
  try dsimp only[cxOf,Cx.nox]
  have drw:∀(n:Int) (Hx:Hp) (Qv:VK),0 < n→n < 100000000000000000000000000000000000000→Hd Hx hd hl→(∀r Hy,0≤r→r < n→(∀b o,Hx b=some o→b≠hd→Hy b=some o)→Hd Hy hd hl→Qv (.int r) Hy)→spD [.hd,.sh] spDrawD [.ref hd,.int n] Hx Qv E0:=fun n Hx Qv n0 n1 hx q=>
   callH1 (E:=E0) (fun d=>∃r:Int,(0≤r∧r < n)∧d=.int r) hx (.cons (.int _) .nil) ⟨n,rfl,n0,by omega,fun r r0 r1=>⟨r,⟨r0,r1⟩,rfl⟩⟩ fun d v Hy hd' tv ky hy=>by
    obtain⟨r,⟨r0,r1⟩,rfl⟩:=hd'
    cases tv
    exact q r Hy r0 r1 (fun b o e n=>ky b o e fun q hq=>by cases hq;exact n) hy
  have chg:∀(Hx:Hp) (Qv:VK),Hd Hx hd hl→(∀r Hy,-1000000000000000000≤r→r≤1000000000000000000→(∀b o,Hx b=some o→b≠hd→Hy b=some o)→Hd Hy hd hl→Qv (.int r) Hy)→spD [.hd,.sh] spChangeD [.ref hd,.int sc] Hx Qv E0:=fun Hx Qv hx q=>
   callH1 (E:=E0) (fun d=>∃r:Int,(-1000000000000000000≤r∧r≤1000000000000000000)∧d=.int r) hx (.cons (.int _) .nil) ⟨_,sc,rfl,hsc.1,hsc.2,fun r r0 r1=>⟨r,⟨by omega,by omega⟩,rfl⟩⟩ fun d v Hy hd' tv ky hy=>by
    obtain⟨r,⟨r0,r1⟩,rfl⟩:=hd'
    cases tv
    exact q r Hy r0 r1 (fun b o e n=>ky b o e fun q hq=>by cases hq;exact n) hy
  have fin:∀(dd:Deed) (us:List V) (Hx:Hp) (q1 q2:Addr),DeedOk k dd→(isLay dd→k.kws.length < 8)→ThVs (fun b=>b≠hd) Hx us dd.args→Hx q1=none→upd Hx q1 (.lst us) q2=none→Hd Hx hd hl→(∀b o,H b=some o→b≠hd→Hx b=some o)→Q (.ref q2) (upd (upd Hx q1 (.lst us)) q2 (.tup [.str dd.word,.ref q1])):=fun dd us Hx q1 q2 dok il tus n1 n2 hx kx=>by
   have s1:Same Hx (upd Hx q1 (.lst us)):=Same.upd n1
   have s2:=Same.upd (o:=.tup [.str dd.word,.ref q1]) n2
   have s12:=s1.tr s2
   obtain⟨oh,eh⟩:∃o,Hx hd=some o:=by
    obtain⟨_,_,_,_,_,_,_,_,e⟩:=hx
    exact⟨_,e⟩
   refine told dd (.ref q2) _ dok il (.tup (fun z=>?_) upd_same (.cons (.str _) (.cons (.lst (fun z=>?_) (s2 _ _ upd_same) ((tus.keep s1).keep s2)) .nil))) (fun b o e n=>s12 _ _ (kx b o e n)) (hx.same s12)
   ·rw[z,s1 _ _ eh] at n2;cases n2
   ·rw[z,eh] at n1;cases n1
  have few:=ok.few
  have m1:=ok.m1
  have m2:=ok.m2
  have lk:(keysW k.kws).length < 64:=by unfold keysW;rw[List.length_map];omega
  have nea:=hF _ f1
  refine⟨_,rfl,callH1 (E:=E0) (fun d=>∃u:Int,(0≤u∧u < 8)∧d=.int u) hh (.cons (.int _) .nil) ⟨8,rfl,by decide,by decide,fun u u0 u1=>⟨u,⟨u0,u1⟩,rfl⟩⟩ fun d v Ha hd' tv ka ha=>?_⟩
  obtain⟨u,⟨u0,u8⟩,rfl⟩:=hd'
  cases tv
  have kH:∀b o,H b=some o→b≠hd→Ha b=some o:=fun b o e n=>ka b o e fun q hq=>by cases hq;exact n
  have ndc:dc≠hd:=fun z=>by
   obtain⟨_,_,_,_,_,_,_,_,e⟩:=hh
   rw[z,e] at e3;cases e3
  refine⟨_,rfl,a,_,_,_,rfl,rfl,SqL.of (kH _ _ e1 nea),rfl,dc,kvs,_,rfl,kH _ _ e3 ndc,kv.keys,lk,fun l1 ms hl1 hp hs=>?_⟩
  have ems:=srt_uniq hp hs
  subst ems
  obtain⟨H1,hH1⟩:∃H1,H1=upd Ha l1 (.lst ((srt (keysW k.kws)).map V.int)):=⟨_,rfl⟩
  rw[←hH1]
  have s1:Same Ha H1:=by rw[hH1];exact Same.upd hl1
  have el1:H1 l1=some (.lst ((srt (keysW k.kws)).map V.int)):=by rw[hH1];exact upd_same
  have h1:=ha.same s1
  have nl1:l1≠hd:=fun z=>by
   obtain⟨_,_,_,_,_,_,_,_,e⟩:=ha
   rw[z,e] at hl1;cases hl1
  clear hH1 hp hs
  have lsr:(srt (keysW k.kws)).length=k.kws.length:=by rw[(srt_perm _).length_eq];unfold keysW;rw[List.length_map]
  have k1:∀b o,H b=some o→b≠hd→H1 b=some o:=fun b o e n=>s1 _ _ (kH b o e n)
  clear kH ka ha s1
  refine⟨fun σ' H'=>σ'=[some (.ref hd),some (.ref a),some (.int sc),some (.int mo),some (.int u),some (.ref l1),none,none,none,none]∧Same H1 H'∧(u < 6→srt (keysW k.kws)≠[]),?_,?_⟩
  ·refine tIf_of (fun b H2=>Same H1 H2∧(b=true→k.kws.length < 8)∧(b=false→u < 6→srt (keysW k.kws)≠[])) (fun Qx hQ=>?_) (fun b H2 hb=>?_)
   ·-- the test
    have tl:∀H2,Same H1 H2→ThV TT0 H2 (.ref l1) (.list ((srt (keysW k.kws)).map PyData.int)):=fun H2 s2=>.lst trivial (s2 _ _ el1) (ints_thV _)
    have snd:(¬ (u < 4∧k.kws.length < 8))→tAnd (tTest (tOp (rEqD K false) (tVar 5) (tLst tNil))) (tTest (tOp (rI0 fun i j=>V.bl (decide (i < j))) (tVar 4) (tC (V.int 6)))) [some (.ref hd),some (.ref a),some (.int sc),some (.int mo),some (.int u),some (.ref l1),none,none,none,none] H1 Qx:=fun hn=>by
     refine⟨_,rfl,by show 0≤sizeLine;decide,fun t ht=>?_⟩
     have s2:Same H1 (upd H1 t (.lst [])):=Same.upd ht
     have L1:=LayN.ints (srt (keysW k.kws))
     have L0:LayN 1 (.list []):=LayN.lst fun d hd=>by cases hd
     refine⟨_,_,ThV.dat (tl _ s2) L1.1,ThV.dat (F:=TT0) (.lst trivial upd_same .nil) L0.1,L1.1,L0.1,L1.dep (by decide) _,_,rfl,?_⟩
     cases e:srt (keysW k.kws) with
     | nil=>
      rw[List.map_nil,L0.same]
      refine iteT ⟨_,rfl,_,_,rfl,rfl,_,rfl,?_⟩
      have z0:k.kws.length=0:=by rw[←lsr,e];rfl
      by_cases c6:u < 6
      ·rw[decide_eq_true c6]
       exact hQ true _ ⟨s2,fun _=>by omega,fun z=>by cases z⟩
      ·rw[decide_eq_false c6]
       exact hQ false _ ⟨s2,(fun z=>by cases z),fun _ z=>absurd z c6⟩
     | cons x xs=>
      rw[show PyData.eqv (.list ((x::xs).map PyData.int)) (.list [])=false from rfl]
      exact iteF (hQ false _ ⟨s2,(fun z=>by cases z),fun _ _ z=>by rw[e] at z;cases z⟩)
    refine⟨_,rfl,_,_,rfl,rfl,_,rfl,?_⟩
    by_cases c4:u < 4
    ·rw[decide_eq_true c4]
     refine iteT ⟨_,rfl,l1,_,rfl,.inl (SqL.of el1),_,_,rfl,rfl,_,rfl,?_⟩
     rw[List.length_map,lsr]
     by_cases c8:k.kws.length < 8
     ·rw[decide_eq_true (show ((k.kws.length:Nat):Int) < 8 by omega)]
      exact iteT (hQ true H1 ⟨fun _ _ e=>e,fun _=>c8,fun z=>by cases z⟩)
     ·rw[decide_eq_false (show ¬ ((k.kws.length:Nat):Int) < 8 by omega)]
      exact iteF (snd fun z=>c8 z.2)
    ·rw[decide_eq_false c4]
     exact iteF (iteF (snd fun z=>c4 z.1))
   ·obtain⟨s2,g1,g2⟩:=hb
    cases b with
    | false=>exact iteF ⟨rfl,s2,g2 rfl⟩
    | true=>
    refine iteT ?_
    have c8:=g1 rfl
    have h2:=h1.same s2
    have k2:∀b o,H b=some o→b≠hd→H2 b=some o:=fun b o e n=>s2 _ _ (k1 b o e n)
    clear g1 g2
    refine⟨_,rfl,drw 12 H2 _ (by decide) (by decide) h2 fun r1 H3 r10 r11 k3 h3=>?_⟩
    refine⟨_,_,rfl,rfl,_,rfl,_,_,rfl,rfl,⟨by decide,by decide,by decide⟩,?_⟩
    refine drw 1000000000000000000 H3 _ (by decide) (by decide) h3 fun r2 H4 r20 r21 k4 h4=>?_
    refine⟨_,_,rfl,rfl,by show 2≤sizeLine;decide,fun lx hlx=>?_⟩
    have s5:Same H4 _:=Same.upd (o:=.lst [.int (1 + r1),.int (1 + r2)]) hlx
    refine⟨_,rfl,drw 2 _ _ (by decide) (by decide) (h4.same s5) fun r3 H5 r30 r31 k5 h5=>?_⟩
    have elx:=k5 _ _ (upd_same (H:=H4) (a:=lx)) (fun z=>by
     obtain⟨_,_,_,_,_,_,_,_,e⟩:=h4
     rw[z,e] at hlx;cases hlx)
    obtain⟨x0,hx0,lx0⟩:∃x0,atI [V.int (1 + r1),V.int (1 + r2)] r3=some (V.int x0)∧LabOk x0:=by
     unfold LabOk
     rcases lt2 r30 r31 with rfl | rfl
     ·exact⟨_,rfl,by omega,by omega⟩
     ·exact⟨_,rfl,by omega,by omega⟩
    refine⟨lx,_,_,_,rfl,rfl,SqL.of elx,hx0,?_⟩
    have kh5:∀b o,H b=some o→b≠hd→H5 b=some o:=fun b o e n=>k5 _ _ (s5 _ _ (k4 _ _ (k3 _ _ (k2 b o e n) n) n)) n
    clear k5 k4 k3 k2 s5 elx hlx h4 h3 h2 s2
    refine⟨fun n σ Hn=>∃j:Nat,j + n=k.kws.length∧σ=[some (.ref hd),some (.ref a),some (.int sc),some (.int mo),some (.int u),some (.ref l1),some (.int (labN x0 j)),none,none,none]∧Hn=H5∧∀i,i < j→labN x0 i∈keysW k.kws,?_,?_⟩
    ·exact⟨k.kws.length,0,by omega,by rw[lab_zero lx0];rfl,rfl,fun i hi=>absurd hi (Nat.not_lt_zero _)⟩
    rintro n σ Hn ⟨j,hj,rfl,rfl,hall⟩
    refine⟨_,rfl,_,rfl,a,_,_,_,rfl,rfl,SqL.of (kh5 _ _ e1 nea),rfl,dc,_,rfl,DGet.k (k:=Sum.inl (labN x0 j)) (kh5 _ _ e3 ndc),_,rfl,?_⟩
    rcases kv.val (labN x0 j) with ⟨hv,hn⟩ | ⟨v0,w0,hv,hw,_⟩
    ·rw[hv]
     refine iteF ?_
     have lok:=lab_ok x0 j
     refine⟨_,rfl,_,rfl,a,_,_,_,rfl,rfl,SqL.of (kh5 _ _ e1 nea),rfl,drw _ _ _ (by omega) (by omega) h5 fun r4 H6 r40 r41 k6 h6=>?_⟩
     have e16:=k6 _ _ (kh5 _ _ e1 nea) nea
     refine⟨_,rfl,_,rfl,a,_,_,_,rfl,rfl,SqL.of e16,rfl,drw _ _ _ (by omega) (by omega) h6 fun r5 H7 r50 r51 k7 h7=>?_⟩
     have e17:=k7 _ _ e16 nea
     refine⟨_,rfl,_,_,rfl,rfl,_,rfl,a,_,_,_,rfl,rfl,SqL.of e17,rfl,_,_,rfl,rfl,by omega,by show 2≤sizeLine;decide,fun ly hly=>?_⟩
     have s8:Same H7 _:=Same.upd (o:=.lst [.int r5,.int ((r4 + 1) % ((k.m:Nat):Int))]) hly
     refine⟨_,rfl,drw 2 _ _ (by decide) (by decide) (h7.same s8) fun r6 H8 r60 r61 k8 h8=>?_⟩
     have ely:=k8 _ _ (upd_same (H:=H7) (a:=ly)) (fun z=>by
      obtain⟨_,_,_,_,_,_,_,_,e⟩:=h7
      rw[z,e] at hly;cases hly)
     obtain⟨en,hen,en0,en1⟩:∃en,atI [V.int r5,V.int ((r4 + 1) % ((k.m:Nat):Int))] r6=some (V.int en)∧0≤en∧en < ((k.m:Nat):Int):=by
      rcases lt2 r60 r61 with rfl | rfl
      ·exact⟨_,rfl,by omega,by omega⟩
      ·exact⟨_,rfl,Int.emod_nonneg _ (by omega),Int.emod_lt_of_pos _ (by omega)⟩
     refine⟨ly,_,_,_,rfl,rfl,SqL.of ely,hen,?_⟩
     have kh8:∀b o,H b=some o→b≠hd→H8 b=some o:=fun b o e n=>k8 _ _ (s8 _ _ (k7 _ _ (k6 _ _ (kh5 b o e n) n) n)) n
     clear k6 k7 k8 s8 ely hly
     refine⟨_,rfl,_,rfl,_,rfl,_,rfl,_,rfl,chg H8 _ h8 fun c H9 c0 c1 k9 h9=>⟨by show 4≤sizeLine;decide,fun q1 hq1=>⟨by show 2≤sizeLine;decide,fun q2 hq2=>?_⟩⟩⟩
     refine fin (.lay (labN x0 j) (r4.toNat,en.toNat,c)) [.int (labN x0 j),.int r4,.int en,.int c] H9 q1 q2 ⟨lok,hn,⟨by show r4.toNat < k.m;omega,by show en.toNat < k.m;omega,c0,c1⟩,by omega⟩ (fun _=>c8) ?_ hq1 hq2 h9 fun b o e n=>k9 _ _ (kh8 b o e n) n
     show ThVs _ H9 _ [.int (labN x0 j),.int ((r4.toNat:Nat):Int),.int ((en.toNat:Nat):Int),.int c]
     rw[Int.toNat_of_nonneg r40,Int.toNat_of_nonneg en0]
     exact .cons (.int _) (.cons (.int _) (.cons (.int _) (.cons (.int _) .nil)))
    ·rw[hv]
     refine iteT ?_
     refine⟨_,fun σ' H2 h=>h,?_⟩
     have hin:labN x0 j∈keysW k.kws:=List.mem_map.mpr ⟨_,getW_mem hw,rfl⟩
     have hall':∀i,i < j + 1→labN x0 i∈keysW k.kws:=fun i hi=>by
      rcases Nat.lt_or_ge i j with z | z
      ·exact hall i z
      ·rw[show i=j by omega];exact hin
     have hle:=lab_few (j:=j + 1) (by omega) hall'
     rw[show (keysW k.kws).length=k.kws.length by unfold keysW;rw[List.length_map]] at hle
     refine⟨_,rfl,_,_,rfl,rfl,⟨by decide,by decide,by decide⟩,_,_,rfl,rfl,(show (0:Int) < 10 ^ Int.toNat 18 by decide),_,_,rfl,rfl,?_⟩
     exact⟨n - 1,by omega,j + 1,by omega,by rw[lab_step];rfl,rfl,hall'⟩
  rintro σ' H2 ⟨rfl,s2,g2⟩
  have h2:=h1.same s2
  have k2:∀b o,H b=some o→b≠hd→H2 b=some o:=fun b o e n=>s2 _ _ (k1 b o e n)
  have el2:=s2 _ _ el1
  have lpos:u < 6→0 < (srt (keysW k.kws)).length:=fun z=>List.length_pos_iff.mpr (g2 z)
  have pick:∀r:Int,0≤r→r < (((srt (keysW k.kws)).map V.int).length:Nat)→∃x,atI ((srt (keysW k.kws)).map V.int) r=some (.int x)∧LabOk x∧∃w,getW k.kws x=some w:=fun r r0 r1=>by
   rw[List.length_map] at r1
   have hr1:r.toNat < (srt (keysW k.kws)).length:=by omega
   have hm:=(srt_perm (keysW k.kws)).mem_iff.mp (List.getElem_mem hr1)
   obtain⟨w,hw⟩:=getW_of hm
   refine⟨(srt (keysW k.kws))[r.toNat],?_,(ok.way _ (getW_mem hw)).1,w,hw⟩
   have:=atI_nat (xs:=(srt (keysW k.kws)).map V.int) (j:=r.toNat) (v:=.int ((srt (keysW k.kws))[r.toNat])) (by rw[List.getElem?_map,List.getElem?_eq_getElem hr1];rfl)
   rw[Int.toNat_of_nonneg r0] at this
   exact this
  clear s2 g2 h1 k1 el1
  refine⟨fun σ' H'=>σ'=[some (.ref hd),some (.ref a),some (.int sc),some (.int mo),some (.int u),some (.ref l1),none,none,none,none]∧H2=H'∧5≤u,?_,?_⟩
  ·refine⟨_,rfl,_,_,rfl,rfl,_,rfl,?_⟩
   by_cases c5:u < 5
   ·rw[decide_eq_true c5]
    have lp:=lpos (by omega)
    refine iteT ⟨_,rfl,_,rfl,_,rfl,l1,_,rfl,.inl (SqL.of el2),drw _ _ _ (by rw[List.length_map];omega) (by rw[List.length_map];omega) h2 fun r H3 r0 r1 k3 h3=>?_⟩
    obtain⟨x,hx,lx,w0,hw⟩:=pick r r0 r1
    refine⟨l1,_,_,_,rfl,rfl,SqL.of (k3 _ _ el2 nl1),hx,by show 1≤sizeLine;decide,fun q1 hq1=>⟨by show 2≤sizeLine;decide,fun q2 hq2=>?_⟩⟩
    exact fin (.lift x) [.int x] H3 q1 q2 ⟨lx,w0,hw⟩ (fun z=>by obtain⟨_,_,z⟩:=z;cases z) (.cons (.int _) .nil) hq1 hq2 h3 fun b o e n=>k3 _ _ (k2 b o e n) n
   ·rw[decide_eq_false c5]
    exact iteF ⟨rfl,rfl,by omega⟩
  rintro σ' _ ⟨rfl,rfl,c5⟩
  refine⟨fun σ' H'=>σ'=[some (.ref hd),some (.ref a),some (.int sc),some (.int mo),some (.int u),some (.ref l1),none,none,none,none]∧H2=H'∧6≤u,?_,?_⟩
  ·refine⟨_,rfl,_,_,rfl,rfl,_,rfl,?_⟩
   by_cases c6:u < 6
   ·rw[decide_eq_true c6]
    have lp:=lpos c6
    refine iteT ⟨_,rfl,_,rfl,_,rfl,l1,_,rfl,.inl (SqL.of el2),drw _ _ _ (by rw[List.length_map];omega) (by rw[List.length_map];omega) h2 fun r H3 r0 r1 k3 h3=>?_⟩
    obtain⟨x,hx,lx,w0,hw⟩:=pick r r0 r1
    refine⟨l1,_,_,_,rfl,rfl,SqL.of (k3 _ _ el2 nl1),hx,_,rfl,_,rfl,chg H3 _ h3 fun c H9 c0 c1 k9 h9=>⟨by show 2≤sizeLine;decide,fun q1 hq1=>⟨by show 2≤sizeLine;decide,fun q2 hq2=>?_⟩⟩⟩
    exact fin (.turn x c) [.int x,.int c] H9 q1 q2 ⟨⟨lx,w0,hw⟩,c0,c1⟩ (fun z=>by obtain⟨_,_,z⟩:=z;cases z) (.cons (.int _) (.cons (.int _) .nil)) hq1 hq2 h9 fun b o e n=>k9 _ _ (k3 _ _ (k2 b o e n) n) n
   ·rw[decide_eq_false c6]
    exact iteF ⟨rfl,rfl,by omega⟩
  rintro σ' _ ⟨rfl,rfl,c6⟩
  refine⟨fun σ' H'=>(∃z9,σ'=[some (.ref hd),some (.ref a),some (.int sc),some (.int mo),some (.int u),some (.ref l1),none,none,none,z9])∧H2=H',?_,?_⟩
  ·refine⟨_,rfl,rfl,_,rfl,?_⟩
   by_cases c7:u=6
   ·subst c7
    rw[show decide (V.int 6=V.int 6)=true from decide_eq_true rfl]
    refine iteT ?_
    have lug:ug.length=k.m:=by rw[t2.len,len_tab];exact ok.gt.len
    refine⟨by show 1≤sizeLine;decide,fun b0 hb0=>?_⟩
    obtain⟨H3,hH3⟩:∃H3,H3=upd H2 b0 (.lst [.int 0]):=⟨_,rfl⟩
    rw[←hH3]
    have s3:Same H2 H3:=by rw[hH3];exact Same.upd hb0
    have eb0:H3 b0=some (.lst [.int 0]):=by rw[hH3];exact upd_same
    clear hH3
    have neg:=hF _ f2
    refine⟨_,rfl,a,_,_,_,rfl,rfl,SqL.of (s3 _ _ (k2 _ _ e1 nea)),rfl,gl,rfl,⟨ug,SqL.of (s3 _ _ (k2 _ _ e2 neg))⟩,?_⟩
    refine comp_list (xs:=ug) (fun i ys Hn=>Hn=H3∧ys=((k.g.take i).filterMap id).map V.int) ?_ ⟨rfl,rfl⟩ ?_ ?_ ?_
    ·rw[lug,sizeLine_eq];omega
    ·rintro i ys Hn hi ⟨rfl,rfl⟩
     refine⟨?_,SqL.of (s3 _ _ (k2 _ _ e2 neg))⟩
     rw[List.length_map]
     exact Nat.le_trans (List.length_filterMap_le _ _) (by rw[List.length_take];omega)
    ·rintro i x ys Hn hx ⟨rfl,rfl⟩ ca
     obtain⟨d,hd',tx⟩:=ths_get t2 hx
     unfold tabL at hd'
     rw[List.getElem?_map] at hd'
     obtain⟨o,ho,rfl⟩:=Option.map_eq_some_iff.mp hd'
     rw[List.take_add_one,ho,List.filterMap_append,List.map_append]
     cases o with
     | none=>
      cases (show ThV TT0 H x .none from tx)
      refine⟨_,rfl,rfl,_,rfl,?_⟩
      rw[show (!decide (V.non=V.non))=false by rw[decide_eq_true rfl];rfl]
      exact iteF ⟨rfl,by rw[show (Option.toList (some (none:Option Int))).filterMap id=[] from rfl,List.map_nil,List.append_nil]⟩
     | some y=>
      cases (show ThV TT0 H x (.int y) from tx)
      refine⟨_,rfl,rfl,_,rfl,?_⟩
      rw[show (!decide (V.int y=V.non))=true by rw[decide_eq_false (fun z=>by cases z)];rfl]
      exact iteT ⟨_,rfl,rfl,rfl⟩
    rintro ys Hn ⟨rfl,rfl⟩ b1 hb1
    rw[lug,List.take_of_length_le (by rw[ok.gt.len];exact Nat.le_refl _)]
    obtain⟨lv,hlv⟩:∃lv,lv=k.g.filterMap id:=⟨_,rfl⟩
    rw[←hlv]
    have llv:lv.length≤12:=by rw[hlv];exact Nat.le_trans (List.length_filterMap_le _ _) (by rw[ok.gt.len];exact m2)
    have s4:Same Hn _:=Same.upd (o:=.lst (lv.map V.int)) hb1
    refine⟨b0,b1,_,_,rfl,rfl,s4 _ _ eb0,upd_same,by rw[List.length_map,sizeLine_eq];show 1 + _≤_;omega,fun b2 hb2=>?_⟩
    have s5:=Same.upd (o:=.lst ([.int 0]++lv.map V.int)) hb2
    refine⟨b2,0::lv,rfl,SqL.of upd_same,by simp,fun M hM=>?_⟩
    have M0:0≤M:=hM.2 0 List.mem_cons_self
    have M1:M≤k.st:=by
     rcases List.mem_cons.mp hM.1 with z | z
     ·rw[z];exact ok.s0
     ·rw[hlv] at z
      obtain⟨o,ho,e⟩:=List.mem_filterMap.mp z
      have e:o=some M:=e
      subst e
      obtain⟨p,hp⟩:=mem_gt ho
      exact (ok.gt.bd p M hp).2
    have Mall:∀p x,gt k.g p=some x→x≤M:=fun p x h=>by
     refine hM.2 x (List.mem_cons_of_mem _ ?_)
     rw[hlv]
     refine List.mem_filterMap.mpr ⟨some x,?_,rfl⟩
     rcases Nat.lt_or_ge p k.g.length with z | z
     ·have:=gt_at z
      rw[h] at this
      exact List.mem_of_getElem? this
     ·rw[gt_out z] at h;cases h
    have s1k:=ok.s1
    have h6:=((h2.same s3).same s4).same s5
    refine⟨_,rfl,_,rfl,_,rfl,_,_,rfl,rfl,_,rfl,_,_,rfl,rfl,_,_,rfl,drw _ _ _ (by split <;> omega) (by split <;> omega) h6 fun r H7 r0 r1 k7 h7=>?_⟩
    refine⟨_,_,rfl,rfl,by show 1≤sizeLine;decide,fun q1 hq1=>⟨by show 2≤sizeLine;decide,fun q2 hq2=>?_⟩⟩
    have rB:M + r≤100000000000000000000:=by
     split at r1 <;> omega
    exact fin (.refill (M + r)) [.int (M + r)] H7 q1 q2 ⟨⟨by omega,rB⟩,ok.gt.len,fun p y h=>⟨(ok.gt.bd p y h).1,by have:=Mall p y h;omega⟩⟩ (fun z=>by obtain⟨_,_,z⟩:=z;cases z) (.cons (.int _) .nil) hq1 hq2 h7 fun b o e n=>k7 _ _ (s5 _ _ (s4 _ _ (s3 _ _ (k2 b o e n)))) n
   ·rw[show decide (V.int u=V.int 6)=false from decide_eq_false fun z=>c7 (by cases z;rfl)]
    exact iteF ⟨⟨_,rfl⟩,rfl⟩
  rintro σ' _ ⟨⟨z9,rfl⟩,rfl⟩
  have s1k:=ok.s1
  refine⟨_,rfl,_,rfl,a,_,_,_,rfl,rfl,SqL.of (k2 _ _ e1 nea),rfl,_,rfl,a,_,_,_,rfl,rfl,SqL.of (k2 _ _ e1 nea),rfl,callH1 (E:=E0) (fun d=>∃t,TabOk k.m k.st t∧d=.list (tabL t)) h2 (.cons (.int _) (.cons (.int _) .nil)) ⟨_,k.m,k.st,rfl,by omega,ok.s0,by omega,fun t ht=>⟨t,ht,rfl⟩⟩ fun d v H3 hd' tv k3 h3=>⟨by show 1≤sizeLine;decide,fun q1 hq1=>⟨by show 2≤sizeLine;decide,fun q2 hq2=>?_⟩⟩⟩
  obtain⟨t,ht,rfl⟩:=hd'
  refine fin (.aim t) [v] H3 q1 q2 ht (fun z=>by obtain⟨_,_,z⟩:=z;cases z) (.cons ?_ .nil) hq1 hq2 h3 fun b o e n=>k3 b o (k2 b o e n) fun q hq=>by cases hq;exact n
  exact tv.mv fun b o z e=>⟨z,e⟩
end
section
variable {kws a b:Kw} {x k:Int} {w w':Wy}
end
structure MoreK (a b:Kst):Prop where
 m:b.m=a.m
 st:a.st≤b.st
 g:b.g=a.g
 ws:∀k w,getW a.kws k=some w→∃w',getW b.kws k=some w'∧w'.1=w.1∧w'.2.1=w.2.1∧w.2.2≤w'.2.2
structure SimK (a b:Kst):Prop where
 m:b.m=a.m
 st:b.st=a.st
 g:b.g=a.g
 p:a.kws.Perm b.kws
structure PairOk (k:Kst) (gives:Bool) (d1 d2:Deed):Prop where
 o1:DeedOk k d1
 o2:DeedOk (aftK k d1) d2
 bk:SimK k (aftK (aftK k d1) d2)
 up:gives=true→MoreK k (aftK k d1)
 dn:gives=false→MoreK (aftK k d1) k
theorem LayN.numL (ns:List Nat):LayN 1 (.list (numL ns)):=LayN.lst fun d hd=>by
 obtain⟨n,_,rfl⟩:=List.mem_map.mp hd
 exact⟨rfl,Nat.zero_le _⟩
theorem LayN.mov (a b:Tb):LayN 2 (movD a b):=LayN.tup (LayN.two (LayN.numL _) (LayN.numL _))
abbrev Frp (p d:Addr) (H H':Hp):Prop:=∀b o,H b=some o→b≠p→b≠d→H' b=some o
theorem frp_none {F:Addr→Prop} {C:Addr} {H H':Hp} {p d:Addr} {k:Kst} (kp:KpAt F C H' p d k) (fr:Frp p d H H') {b:Addr} (hb:H' b=none):H b=none:=by
 cases z:H b with
 | none=>rfl
 | some o=>
  have pd:=kp_pd kp
  by_cases c1:b=p
  ·rw[c1] at hb;exact absurd hb pd.2.1
  ·by_cases c2:b=d
   ·rw[c2] at hb;exact absurd hb pd.2.2
   ·rw[fr _ _ z c1 c2] at hb;cases hb
theorem aft_len {k:Kst}:∀{dd:Deed},DeedOk k dd→(isLay dd→k.kws.length < 8)→k.kws.length≤8→(aftK k dd).kws.length≤8
 | .lay x w,⟨_,hn,_⟩,il,_=>by
  show (putW k.kws x w).length≤8
  rw[putW_new hn,List.length_append,List.length_singleton]
  exact il ⟨x,w,rfl⟩
 | .lift x,_,_,h=>Nat.le_trans (List.length_filter_le _ _) h
 | .turn x c,⟨⟨_,w,hw⟩,_⟩,_,h=>by
  show (putW k.kws x (trnW k.kws x c)).length≤8
  rw[putW_old hw,List.length_map]
  exact h
 | .refill s,_,_,h=>h
 | .aim g,_,_,h=>h
structure LSt (C hd hl a dc p d:Addr) (ks kk:Kst) (H:Hp):Prop where
 hnd:Hd H hd hl
 sta:StAt (fun b=>b≠hd) H a dc ks.m ks.st ks.g ks.kws
 kp:KpAt (fun b=>b≠hd) C H p d kk
 ne:dc≠d
 ok:KOk ks.m ks.st ks.g ks.kws
 few:ks.kws.length≤8
 sim:SimK ks kk
 low:LowR kk.m kk.st kk.g kk.kws kk.low
theorem hd_ne {H:Hp} {hd hl b:Addr} {o:HO} (h:Hd H hd hl) (e:H b=some o) (n:∀xs,o≠.lst xs):b≠hd:=fun z=>by
 obtain⟨_,_,_,_,_,_,_,_,e'⟩:=h
 rw[z,e'] at e
 cases e
 exact n _ rfl
theorem stat_hd {H H':Hp} {hd hl a dc:Addr} {m:Nat} {st:Int} {g:Tb} {kws:Kw} (s:StAt (fun b=>b≠hd) H a dc m st g kws) (h:Hd H hd hl) (k:∀b o,H b=some o→b≠hd→H' b=some o):StAt (fun b=>b≠hd) H' a dc m st g kws:=
 s.mv (fun b o e n _=>k _ _ e (by
  by_cases c:∃xs,o=.lst xs
  ·obtain⟨xs,c⟩:=c
   exact n xs c
  ·exact hd_ne h e fun xs z=>c ⟨xs,z⟩)) fun _ z=>z
theorem kpat_hd {H H':Hp} {C hd hl p d:Addr} {k:Kst} (s:KpAt (fun b=>b≠hd) C H p d k) (h:Hd H hd hl) (kk:∀b o,H b=some o→b≠hd→H' b=some o):KpAt (fun b=>b≠hd) C H' p d k:=
 s.mv (fun b o e n=>kk _ _ e (by
  by_cases c:∃xs,o=.lst xs
  ·obtain⟨xs,c⟩:=c
   exact n xs c
  ·exact hd_ne h e fun xs z=>c ⟨xs,z⟩)) fun _ z=>z
theorem LSt.draw {C hd hl a dc p d:Addr} {ks kk:Kst} {H H':Hp} (L:LSt C hd hl a dc p d ks kk H) (k:∀b o,H b=some o→b≠hd→H' b=some o) (h:Hd H' hd hl):LSt C hd hl a dc p d ks kk H':={ L with hnd:=h,sta:=stat_hd L.sta L.hnd k,kp:=kpat_hd L.kp L.hnd k }
theorem LSt.keep {C hd hl a dc p d:Addr} {ks kk:Kst} {H H':Hp} (L:LSt C hd hl a dc p d ks kk H) (k:Same H H'):LSt C hd hl a dc p d ks kk H':=L.draw (fun b o e _=>k _ _ e) (L.hnd.same k)
theorem stat_fr {F G:Addr→Prop} {C:Addr} {H H':Hp} {a dc p d:Addr} {m:Nat} {st:Int} {g:Tb} {kws:Kw} {k:Kst} (s:StAt F H a dc m st g kws) (kp:KpAt G C H p d k) (ne:dc≠d) (fr:Frp p d H H'):StAt F H' a dc m st g kws:=by
 have mv:∀b xs,H b=some (.lst xs)→H' b=some (.lst xs):=fun b xs e=>fr _ _ e (kp_mem kp e).1 (kp_mem kp e).2
 obtain⟨⟨gl,ug,e1,f1,f2,e2,t2⟩,kvs,e3,kv⟩:=s
 have n3:dc≠p:=fun z=>by
  obtain⟨⟨dx,g,l,_,_,e,_⟩,_⟩:=kp
  rw[z,e] at e3;cases e3
 exact⟨⟨gl,ug,mv _ _ e1,f1,f2,mv _ _ e2,tab_any t2⟩,kvs,fr _ _ e3 n3 ne,kv.mv fun b xs e=>fr _ _ e (kp_tup kp e).1 (kp_tup kp e).2⟩
theorem hd_fr {G:Addr→Prop} {C:Addr} {H H':Hp} {hd hl p d:Addr} {k:Kst} (h:Hd H hd hl) (kp:KpAt G C H p d k) (fr:Frp p d H H'):Hd H' hd hl:=by
 have mv:∀b xs,H b=some (.lst xs)→H' b=some (.lst xs):=fun b xs e=>fr _ _ e (kp_mem kp e).1 (kp_mem kp e).2
 obtain⟨ns,q,b,c,u,v,h1,h2,h3⟩:=h
 exact⟨ns,q,b,c,u,v,mv _ _ h1,h2,mv _ _ h3⟩
def kwD (x:Int) (w:Wy):PyData:=.tuple [.int x,.int ((w.1:Nat):Int),.int ((w.2.1:Nat):Int),.int w.2.2]
def kwsL (kws:Kw):List PyData:=(srt (keysW kws)).map fun k=>kwD k ((getW kws k).getD (0,0,0))
def preW (k:Kst) (ds:List PyData):Prop:=ds=[]∧(keysW k.kws).length < 64
def postWays (k:Kst) (_:List PyData) (r:PyData) (k':Kst):Prop:=r=.list (kwsL k.kws)∧k'=k
def postStore (k:Kst) (_:List PyData) (r:PyData) (k':Kst):Prop:=r=.int k.st∧k'=k
def postGoal (k:Kst) (_:List PyData) (r:PyData) (k':Kst):Prop:=r=.list (tabL k.g)∧k'=k
theorem ths3k {F:Addr→Prop} {H:Hp} {vs:List V} {d1 d2 d3:PyData} (t:ThVs F H vs [d1,d2,d3]):∃v1 v2 v3,vs=[v1,v2,v3]∧ThV F H v1 d1∧ThV F H v2 d2∧ThV F H v3 d3:=by
 cases t with
 | cons x1 t=>
 obtain⟨v2,v3,rfl,t2,t3⟩:=ths2 t
 exact⟨_,v2,v3,rfl,x1,t2,t3⟩
section
variable {P:Program} {w:World} {K:PySem.W.Frag} {mg:Str→Option Value} {base:Heap}
theorem ok_m_store (T:Txt K mg):FnOk P w K mg base CX0 1 T.a_m_store T.d_m_store ["self"] (spMt T.c_Keeper preLow postStore):=by
 refine T.F_m_store.ok sc_m_store (fun vs H Q E h=>?_) (fun cdv A outer s H vs Q E hr h=>?_)
 ·obtain⟨F,p,d,k,us,ds,rfl,_,_,tus,rfl,_⟩:=h
  cases tus;rfl
 ·obtain⟨F,p,d,k,us,ds,rfl,hF,kp,tus,rfl,told⟩:=h
  cases tus
  have kp0:=kp
  obtain⟨⟨dx,g,l,ug,ul,e1,g1,e2,t2,g3,e3,t3⟩,kvs,e4,kv⟩:=kp
  refine⟨_,(pss_one (ps_ret (pe_fld (pv 0) rfl))),?_⟩
  refine⟨_,rfl,p,_,dx,_,_,rfl,e1,T.cl_Keeper,T.na_full,kfs_full,?_⟩
  exact told _ _ k _ ⟨rfl,rfl⟩ kp0 (.int _) (fun b o e _ _=>e) (apt_int kp0)
theorem ok_m_goal (T:Txt K mg):FnOk P w K mg base CX0 1 T.a_m_goal T.d_m_goal ["self"] (spMt T.c_Keeper preLow postGoal):=by
 refine T.F_m_goal.ok sc_m_goal (fun vs H Q E h=>?_) (fun cdv A outer s H vs Q E hr h=>?_)
 ·obtain⟨F,p,d,k,us,ds,rfl,_,_,tus,rfl,_⟩:=h
  cases tus;rfl
 ·obtain⟨F,p,d,k,us,ds,rfl,hF,kp,tus,rfl,told⟩:=h
  cases tus
  have kp0:=kp
  obtain⟨⟨dx,g,l,ug,ul,e1,g1,e2,t2,g3,e3,t3⟩,kvs,e4,kv⟩:=kp
  refine⟨_,(pss_one (ps_ret (pe_callTy call_list_of rfl T.n_list bt_list (pa_cons (pe_fld (pv 0) rfl) pa_nil se_Attribute) (he:=se_Attribute) (hpl:=np_nil)))),?_⟩
  refine⟨_,rfl,p,_,dx,_,_,rfl,e1,T.cl_Keeper,T.na_wanted,kfs_wanted,g,ug,rfl,.inl (SqL.of e2),fun l2 hl2=>?_⟩
  exact told _ _ k _ ⟨rfl,rfl⟩ (kp0.same (Same.upd hl2)) (.lst (.inl hl2) upd_same (tab_any t2)) (fun b o e _ _=>Same.upd hl2 _ _ e) (apt_lst (kp0.ex.same (Same.upd hl2)) hl2 upd_same)
theorem ok_m_ways (T:Txt K mg):FnOk P w K mg base CX0 1 T.a_m_ways T.d_m_ways ["self"] (spMt T.c_Keeper preW postWays):=by
 refine T.F_m_ways.ok sc_m_ways (fun vs H Q E h=>?_) (fun cdv A outer s H vs Q E hr h=>?_)
 ·obtain⟨F,p,d,k,us,ds,rfl,_,_,tus,⟨rfl,_⟩,_⟩:=h
  cases tus;rfl
 ·obtain⟨F,p,d,k,us,ds,rfl,hF,kp,tus,⟨rfl,hk⟩,told⟩:=h
  cases tus
  have kp0:=kp
  obtain⟨⟨dx,g,l,ug,ul,e1,g1,e2,t2,g3,e3,t3⟩,kvs,e4,kv⟩:=kp
  refine⟨_,(pss_cons (ps_set (i:=1) sc_m_ways.nd rfl (Or.inl rfl) (pe_lst pa_nil))
   (pss_cons (ps_for PassesOwn.never rfl (pi_list (pe_callB (call_sortedK rfl) rfl T.n_sorted bt_sorted (pa_cons (pe_fld (pv 0) rfl) pa_nil se_Attribute) (he:=se_Attribute) (hpl:=np_nil))) (pg_name (i:=2) sc_m_ways.nd rfl (Or.inl rfl))
   (pss_cons (ps_set (i:=3) sc_m_ways.nd rfl (Or.inl rfl) (pe_dget (u1 (units_of hr)) (pe_fld (pv 0) rfl) (pv 2) (fun _ _=>rfl)))
   (pss_one (ps_expr (pe_bm PySem.F.plainAttrs_list PySem.F.slot_list_append PySem.F.type_list_append mt_append (pv 1) (pa_cons (pe_tup (pa_cons (pv 2) (pa_cons (pe_ix ix_seq (pv 3) (pe_glob (v:=V.int 0) rfl T.mg_START ⟨_,rfl⟩) (fun _ _=>rfl)) (pa_cons (pe_ix ix_seq (pv 3) (pe_glob (v:=V.int 1) rfl T.mg_END ⟨_,rfl⟩) (fun _ _=>rfl)) (pa_cons (pe_ix ix_seq (pv 3) (pe_glob (v:=V.int 2) rfl T.mg_CHANGE ⟨_,rfl⟩) (fun _ _=>rfl)) pa_nil se_Subscript) se_Subscript) se_Subscript) se_Name)) pa_nil se_Tuple))))))
   (pss_one (ps_ret (pv 1))))),?_⟩
  try dsimp only[cxOf,Cx.nox]
  refine⟨by show 0≤sizeLine;decide,fun tl htl=>?_⟩
  have s1:Same H (upd H tl (.lst [])):=Same.upd htl
  refine⟨_,rfl,p,_,dx,_,_,rfl,s1 _ _ e1,T.cl_Keeper,T.na_laid,kfs_laid,d,kvs,_,rfl,s1 _ _ e4,kv.keys,hk,fun l1 ms hl1 hp hs=>?_⟩
  have ems:=srt_uniq hp hs
  subst ems
  obtain⟨H2,hH2⟩:∃H2,H2=upd (upd H tl (.lst [])) l1 (.lst ((srt (keysW k.kws)).map V.int)):=⟨_,rfl⟩
  rw[←hH2]
  have s2:Same H H2:=by rw[hH2];exact s1.tr (Same.upd hl1)
  have el1:H2 l1=some (.lst ((srt (keysW k.kws)).map V.int)):=by rw[hH2];exact upd_same
  have etl:H2 tl=some (.lst []):=by rw[hH2];exact Same.upd hl1 _ _ upd_same
  have nlt:l1≠tl:=fun z=>by rw[z,upd_same] at hl1;cases hl1
  have lsr:(srt (keysW k.kws)).length < 64:=by rw[(srt_perm _).length_eq];exact hk
  have lkw:(kwsL k.kws).length=(srt (keysW k.kws)).length:=by unfold kwsL;rw[List.length_map]
  clear hH2
  refine⟨l1,rfl,⟨_,SqL.of el1⟩,?_⟩
  refine for_list (xs:=(srt (keysW k.kws)).map V.int) (fun i σ' H'=>∃ys x2 x3,σ'=[some (.ref p),some (.ref tl),x2,x3]∧Same H H'∧H' tl=some (.lst ys)∧H' l1=some (.lst ((srt (keysW k.kws)).map V.int))∧ThVs (fun b=>NewS H b∧b≠tl) H' ys ((kwsL k.kws).take i)) ⟨[],none,none,rfl,s2,etl,el1,.nil⟩ ?_ ?_ ?_
  ·rintro i σ' H' hi ⟨ys,x2,x3,rfl,sH,et,el,ty⟩
   exact SqL.of el
  ·rintro i x σ' H' hx ⟨ys,x2,x3,rfl,sH,et,el,ty⟩
   rw[List.getElem?_map] at hx
   obtain⟨n,hn,rfl⟩:=Option.map_eq_some_iff.mp hx
   obtain⟨w0,hw0⟩:=getW_of ((srt_perm _).mem_iff.mp (List.mem_of_getElem? hn))
   have hwi:(kwsL k.kws)[i]?=some (kwD n w0):=by
    unfold kwsL
    rw[List.getElem?_map,hn,Option.map_some,hw0];rfl
   rcases kv.val n with ⟨_,z⟩ | ⟨v0,w1,hv,hw1,tv⟩
   ·rw[hw0] at z;cases z
   rw[hw0] at hw1
   cases hw1
   obtain⟨tw,uw,rfl,_,ew,tuw⟩:=th_tup (show ThV TT0 H v0 (.tuple [.int ((w0.1:Nat):Int),.int ((w0.2.1:Nat):Int),.int w0.2.2]) from tv)
   obtain⟨v1,v2,v3,rfl,tv1,tv2,tv3⟩:=ths3k tuw
   cases tv1
   cases tv2
   cases tv3
   have ew':=sH _ _ ew
   refine⟨_,rfl,p,_,dx,_,_,rfl,sH _ _ e1,T.cl_Keeper,T.na_laid,kfs_laid,_,rfl,d,_,rfl,by rw[←hv];exact DGet.k (k:=Sum.inl n) (sH _ _ e4),?_⟩
   refine⟨_,rfl,.inl ⟨rfl,_,SqL.of et⟩,_,rfl,_,rfl,.inr (.inl ⟨tw,_,0,_,rfl,rfl,SqT.of ew',rfl,_,rfl,.inr (.inl ⟨tw,_,1,_,rfl,rfl,SqT.of ew',rfl,_,rfl,.inr (.inl ⟨tw,_,2,_,rfl,rfl,SqT.of ew',rfl,by show 4≤sizeLine;decide,fun q hq=>?_⟩)⟩)⟩)⟩
   have s3:Same H' (upd H' q (.tup [.int n,.int ((w0.1:Nat):Int),.int ((w0.2.1:Nat):Int),.int w0.2.2])):=Same.upd hq
   have nq:q≠tl:=fun z=>by rw[z,et] at hq;cases hq
   have lys:ys.length≤63:=by rw[ty.len,List.length_take,lkw];omega
   refine⟨tl,ys,_,rfl,rfl,s3 _ _ et,by rw[sizeLine_eq];omega,?_⟩
   have k4:∀b o,upd H' q (.tup [.int n,.int ((w0.1:Nat):Int),.int ((w0.2.1:Nat):Int),.int w0.2.2]) b=some o→b≠tl→upd (upd H' q (.tup [.int n,.int ((w0.1:Nat):Int),.int ((w0.2.1:Nat):Int),.int w0.2.2])) tl (.lst (ys++[.ref q])) b=some o:=fun b o e n=>by rw[upd_ne n];exact e
   refine⟨_,_,_,rfl,fun b o e=>k4 _ _ (s3 _ _ (sH _ _ e)) (fun z=>by rw[z,htl] at e;cases e),upd_same,k4 _ _ (s3 _ _ el) nlt,?_⟩
   rw[List.take_add_one,hwi]
   refine (ty.mv fun b o z e=>⟨z,k4 _ _ (s3 _ _ e) z.2⟩).append (.cons (.tup ⟨.inl (sH.early hq),nq⟩ (k4 _ _ upd_same nq) (.cons (.int _) (.cons (.int _) (.cons (.int _) (.cons (.int _) .nil))))) .nil)
  ·rintro σ' H' ⟨ys,x2,x3,rfl,sH,et,el,ty⟩
   rw[List.length_map,←lkw,List.take_length] at ty
   refine⟨_,rfl,?_⟩
   exact told _ _ k _ ⟨rfl,rfl⟩ (kp0.same sH) (.lst (.inl htl) et (ty.mv fun b o z e=>⟨z.1,e⟩)) (fun b o e _ _=>sH _ _ e) (apt_lst (kp0.ex.same sH) htl et)
end
def spOwnL:DSp:=fun ds Q=>∃(m:Nat) (ws:List Wy) (st:Int) (g:Tb),ds=[landD m ws,.int st,.list (tabL g)]∧LandOk m ws∧0≤st∧TabOk m st g∧∀t,Least m (ws.map turnW) st (lkF st g) t→Q (.list (tabL (lkF st t)))
section
variable {P:Program} {w:World} {K:PySem.W.Frag} {mg:Str→Option Value} {base:Heap}
theorem ok_own_least (T:Txt K mg):FnOk P w K mg base CX0 3 T.f_own_least.a T.f_own_least.d ["_law_land", "_law_store", "_law_goal"] (spD [.sh,.sh,.sh] spOwnL):=by
 have G_less:=@ok_less P w K mg base T
 have b_less:=T.f_less.b
 refine fn_d T.f_own_least.F sc_own_least rfl (fun C cdv A outer s H E hr=>⟨_,(@dss_consG _ _ _ _ _ _ (ds_own (ps_set (i:=3) sc_own_least.nd rfl (Or.inl rfl) (pf_listv (pe_callTy call_list_of rfl T.n_list bt_list (pa_cons (pv 2) pa_nil se_Name) (he:=se_Name) (hpl:=np_nil))))) (@dss_consG _ _ _ _ _ _ (ds_set (ps_set (i:=4) sc_own_least.nd rfl (Or.inl rfl) pd_bl)) (@dss_consG _ _ _ _ _ _ (@ds_mid _ _ _ _ (@ds_while _ _ _ _ _ (@ps_while _ _ _ _ _ _ PassesOwn.never (pdt_val (pd_var (pv 4))) (@dss_consG _ _ _ _ _ _ (ds_set (ps_set (i:=4) sc_own_least.nd rfl (Or.inl rfl) pd_bl)) (@dss_one _ _ _ _ (@ds_for _ _ _ _ _ _ (@ps_for _ _ _ _ _ _ _ _ PassesOwn.never rfl (di_list (pd_ixv (pv 0) pd_int (fun _ _=>rfl))) (dg_t3 (pg_tup (n:=3) rfl (pgs_cons (pg_name (i:=5) sc_own_least.nd rfl (Or.inl rfl)) (pgs_cons (pg_name (i:=6) sc_own_least.nd rfl (Or.inl rfl)) (pgs_cons (pg_name (i:=7) sc_own_least.nd rfl (Or.inl rfl)) pgs_nil))))) (@dss_one _ _ _ _ (@ds_if _ _ _ _ _ _ _ _ _ (PW.pt (@pwd_and _ _ _ _ _ _ _ _ (pdt_cmp op_notN ok_notN (pd_ixv (pv 3) (pd_var (pv 6)) (fun _ _=>rfl)) pd_non (nomark _)) (pwd_and1 (pdt_cmp op_le ok_le (pd_cb cb_max (pe_callB (call_max2 rfl) rfl T.n_max bt_max (dv_cons pd_int (dv_cons (pd_op op_sub ok_sub (pd_ixv (pv 3) (pd_var (pv 6)) (fun _ _=>rfl)) (pd_var (pv 7))) dv_nil se_BinOp) se_Constant) (he:=se_Constant) (hpl:=(np_cons se_BinOp np_nil)))) (pd_var (pv 1)) (nomark _))))) (@dss_one _ _ _ _ (@ds_if _ _ _ _ _ _ _ _ _ (@pdt_val _ _ _ _ (@pd_call _ _ _ _ _ _ _ (@pe_call _ _ _ _ _ _ _ _ _ _ _ _ _ _ _ _ G_less (hr.mono (by decide)) rfl T.f_less.m T.f_less.F.kp b_less .nil pass0 (da_v (pd_cb cb_max (pe_callB (call_max2 rfl) rfl T.n_max bt_max (dv_cons pd_int (dv_cons (pd_op op_sub ok_sub (pd_ixv (pv 3) (pd_var (pv 6)) (fun _ _=>rfl)) (pd_var (pv 7))) dv_nil se_BinOp) se_Constant) (he:=se_Constant) (hpl:=(np_cons se_BinOp np_nil)))) (da_v (pd_ixv (pv 3) (pd_var (pv 5)) (fun _ _=>rfl)) da_nil se_Subscript) se_Call) (by decide) se_Call ((np_cons se_Subscript np_nil)))) (by intro _;rfl)) (@dss_consG _ _ _ _ _ _ (ds_setI (ps_asg (pd_cb cb_max (pe_callB (call_max2 rfl) rfl T.n_max bt_max (dv_cons pd_int (dv_cons (pd_op op_sub ok_sub (pd_ixv (pv 3) (pd_var (pv 6)) (fun _ _=>rfl)) (pd_var (pv 7))) dv_nil se_BinOp) se_Constant) (he:=se_Constant) (hpl:=(np_cons se_BinOp np_nil)))) (pg_sub (pv 3) (pd_var (pv 5)) set_list))) (dss_one (ds_set (ps_set (i:=4) sc_own_least.nd rfl (Or.inl rfl) pd_bl)))) dss_nil)) dss_nil)) (by intro _;rfl)))))))) (dss_one (ds_ret (pd_var (pv 3))))))),fun ds Q hl h=>?_⟩)
 obtain⟨m,ws,st,g,rfl,ok,s0,hg,q⟩:=h
 have m2:=ok.m2
 have few:=ok.few
 have gl:=hg.len
 have tok:=turn_land ok
 decreasing_tactic
 refine go ?_;decreasing_tactic
 refine go ?_
 (try unfold dSeqG);(try unfold dMid)
 refine⟨fun ρ'=>∃(t:Tb) (z5 z6 z7:Sl),ρ'=[Sl.sh (landD m ws),Sl.sh (.int st),Sl.sh (.list (tabL g)),Sl.ow (tabL (lkF st t)),Sl.sh (.bool false),z5,z6,z7]∧Least m (ws.map turnW) st (lkF st g) t,?_,?_⟩
 ·unfold dWhile
  refine⟨fun μ ρ=>∃(t:Tb) (fb:Bool) (z5 z6 z7:Sl),ρ=[Sl.sh (landD m ws),Sl.sh (.int st),Sl.sh (.list (tabL g)),Sl.ow (tabL (lkF st t)),Sl.sh (.bool fb),z5,z6,z7]∧Mid m (ws.map turnW) st (lkF st g) t∧(fb=false→Closed (ws.map turnW) st t)∧μ=2 * gapT st t + (if fb=true then 1 else 0),⟨_,lkF st g,true,_,_,_,by rw[lk_lk],⟨lk_tab hg,leT_refl _,fun L _ h _=>h⟩,(fun z=>by cases z),rfl⟩,?_⟩
  rintro μ ρ ⟨t,fb,z5,z6,z7,rfl,I,hF,rfl⟩
  cases fb with
  | false=>
   decreasing_tactic
   exact⟨t,_,_,_,rfl,I.least (hF rfl)⟩
  | true=>
   decreasing_tactic
   try dsimp only[Blk]
   array_get_dec
   refine go ?_
   array_mem_dec
   refine⟨fun r ρ=>∃(W:List Wy) (t':Tb) (fb:Bool) (z5 z6 z7:Sl),r=W.map wayD∧(∀w∈W,w∈ws)∧ρ=[Sl.sh (landD m ws),Sl.sh (.int st),Sl.sh (.list (tabL g)),Sl.ow (tabL (lkF st t')),Sl.sh (.bool fb),z5,z6,z7]∧Mid m (ws.map turnW) st (lkF st g) t'∧(fb=true→gapT st t' < gapT st t)∧(fb=false→t'=t∧∀w∈ws,w∈W∨leO (behF st t (turnW w)) (gt t w.1)),⟨ws,t,false,_,_,_,rfl,fun w hw=>hw,rfl,I,(fun z=>by cases z),fun _=>⟨rfl,fun w hw=>.inl hw⟩⟩,?_,?_⟩
   ·rintro x r ρ ⟨W,t',fb,z5,z6,z7,h1,hW,rfl,I',hT,hN⟩
    cases W with
    | nil=>cases h1
    | cons w W=>
     cases (show x::r=wayD w::W.map wayD from h1)
     have hw:=hW w List.mem_cons_self
     have hwt:turnW w∈ws.map turnW:=List.mem_map.mpr ⟨w,hw,rfl⟩
     have tl:=I'.tab.len
     have ll:(lkF st t').length=m:=by unfold lkF;rw[List.length_map];exact tl
     have hst:w.1 < (lkF st t').length:=by rw[ll];exact ok.st w hw
     have hen:w.2.1 < (lkF st t').length:=by rw[ll];exact ok.en w hw
     have hle:gapT st t'≤gapT st t:=by
      cases fb with
      | true=>exact Nat.le_of_lt (hT rfl)
      | false=>rw[(hN rfl).1];exact Nat.le_refl _
     have keep:leO (behF st t' (turnW w)) (gt t' w.1)→∀y5 y6 y7:Sl,∃(W':List Wy) (t'':Tb) (fb':Bool) (x5 x6 x7:Sl),W.map wayD=W'.map wayD∧(∀w∈W',w∈ws)∧[Sl.sh (landD m ws),Sl.sh (.int st),Sl.sh (.list (tabL g)),Sl.ow (tabL (lkF st t')),Sl.sh (.bool fb),y5,y6,y7]=[Sl.sh (landD m ws),Sl.sh (.int st),Sl.sh (.list (tabL g)),Sl.ow (tabL (lkF st t'')),Sl.sh (.bool fb'),x5,x6,x7]∧Mid m (ws.map turnW) st (lkF st g) t''∧(fb'=true→gapT st t'' < gapT st t)∧(fb'=false→t''=t∧∀w∈ws,w∈W'∨leO (behF st t (turnW w)) (gt t w.1)):=fun hl y5 y6 y7=>⟨W,t',fb,_,_,_,rfl,fun w h=>hW w (List.mem_cons_of_mem _ h),rfl,I',hT,fun e=>by
      obtain⟨rfl,hn⟩:=hN e
      refine⟨rfl,fun v hv=>?_⟩
      rcases hn v hv with z | z
      ·rcases List.mem_cons.mp z with rfl | z
       ·exact .inr hl
       ·exact .inl z
      ·exact .inr z⟩
     have rise:∀y:Int,behF st t' (turnW w)=some (st - y)→moreF (some (st - y)) (gt t' w.1)=true→∀y5 y6 y7:Sl,∃(W':List Wy) (t'':Tb) (fb':Bool) (x5 x6 x7:Sl),W.map wayD=W'.map wayD∧(∀w∈W',w∈ws)∧[Sl.sh (landD m ws),Sl.sh (.int st),Sl.sh (.list (tabL g)),Sl.ow (tabL ((lkF st t').set w.1 (some y))),Sl.sh (.bool true),y5,y6,y7]=[Sl.sh (landD m ws),Sl.sh (.int st),Sl.sh (.list (tabL g)),Sl.ow (tabL (lkF st t'')),Sl.sh (.bool fb'),x5,x6,x7]∧Mid m (ws.map turnW) st (lkF st g) t''∧(fb'=true→gapT st t'' < gapT st t)∧(fb'=false→t''=t∧∀w∈ws,w∈W'∨leO (behF st t (turnW w)) (gt t w.1)):=fun y e hm y5 y6 y7=>by
      refine⟨W,t'.set w.1 (some (st - y)),true,y5,y6,y7,rfl,fun w h=>hW w (List.mem_cons_of_mem _ h),?_,I'.put tok s0 hwt e hm,fun _=>Nat.lt_of_lt_of_le (gap_fall I'.tab (ok.st w hw) (beh_bd s0 e).1 (beh_bd s0 e).2 hm) hle,fun z=>by cases z⟩
      rw[show (lkF st t').set w.1 (some y)=lkF st (t'.set w.1 (some (st - y))) by
       unfold lkF
       rw[List.map_set]
       show _=(List.map _ t').set w.1 (some (st - (st - y)))
       rw[show st - (st - y)=y by omega]]
     have bh:behF st t' (turnW w)=match gt (lkF st t') w.2.1 with
       | none=>none
       | some x=>if x - w.2.2≤st then some (st - (if x - w.2.2 > 0 then x - w.2.2 else 0)) else none:=by
      unfold behF
      show (match gt t' w.2.1 with | none=>none | some l=>stepF st l w.2.2)=_
      rw[lk_gt]
      cases gt t' w.2.1 with
      | none=>rfl
      | some z=>
       show stepF st z w.2.2=if (st - z) - w.2.2≤st then some (st - (if (st - z) - w.2.2 > 0 then (st - z) - w.2.2 else 0)) else none
       unfold stepF
       by_cases c:z + w.2.2 < 0
       ·rw[if_pos c,if_neg (show ¬ (st - z) - w.2.2≤st by omega)]
       ·rw[if_neg c,if_pos (show (st - z) - w.2.2≤st by omega)]
        congr 1
        split <;> split <;> omega
     have g1:gt t' w.1=(gt (lkF st t') w.1).map fun x=>st - x:=by
      rw[lk_gt]
      cases gt t' w.1 with
      | none=>rfl
      | some z=>show some z=some (st - (st - z));congr 1;omega
     unfold wayD
     sizeOf_list_dec
     rw[tab_at hen]
     cases e0:gt (lkF st t') w.2.1 with
     | none=>
      decreasing_trivial
      exact keep (by rw[bh,e0];exact leO_none) _ _ _
     | some x=>
      decreasing_trivial
      by_cases c1:(if x - w.2.2 > 0 then x - w.2.2 else 0)≤st
      ·rw[decide_eq_true c1]
       decreasing_trivial
       rw[tab_at hst]
       decreasing_trivial
       have eb:behF st t' (turnW w)=some (st - (if x - w.2.2 > 0 then x - w.2.2 else 0)):=by
        rw[bh,e0]
        exact if_pos (by split at c1 <;> omega)
       refine⟨some (if x - w.2.2 > 0 then x - w.2.2 else 0),gt (lkF st t') w.1,rfl,?_⟩
       generalize (if x - w.2.2 > 0 then x - w.2.2 else 0)=y at c1 eb ⊢
       cases e1:gt (lkF st t') w.1 with
       | none=>
        rw[show lessB (some y) none=true from rfl]
        decreasing_trivial
        rw[ixN_nat (by rw[len_tab];exact hst)]
        decreasing_trivial
        rw[show (tabL (lkF st t')).set w.1 (PyData.int y)=tabL ((lkF st t').set w.1 (some y)) from set_tab (x:=some y)]
        refine go ?_
        decreasing_trivial
        exact rise y eb (by rw[g1,e1];rfl) _ _ _
       | some x0=>
        rw[show lessB (some y) (some x0)=decide (y < x0) from rfl]
        by_cases c:y < x0
        ·rw[decide_eq_true c]
         decreasing_trivial
         rw[ixN_nat (by rw[len_tab];exact hst)]
         decreasing_trivial
         rw[show (tabL (lkF st t')).set w.1 (PyData.int y)=tabL ((lkF st t').set w.1 (some y)) from set_tab (x:=some y)]
         refine go ?_
         decreasing_trivial
         exact rise y eb (by rw[g1,e1];exact decide_eq_true (show st - x0 < st - y by omega)) _ _ _
        ·rw[decide_eq_false c]
         decreasing_trivial
         exact keep (by rw[eb,g1,e1];show leO (some (st - y)) (some (st - x0));exact leO_some.mpr (by omega)) _ _ _
      ·rw[decide_eq_false c1]
       decreasing_trivial
       exact keep (by
        rw[bh,e0]
        show leO (if x - w.2.2≤st then some (st - (if x - w.2.2 > 0 then x - w.2.2 else 0)) else none) _
        rw[if_neg (show ¬ x - w.2.2≤st by split at c1 <;> omega)]
        exact leO_none) _ _ _
   ·rintro ρ ⟨W,t',fb,z5,z6,z7,h1,hW,rfl,I',hT,hN⟩
    cases W with
    | cons v R=>cases h1
    | nil=>
     cases fb with
     | true=>exact⟨2 * gapT st t' + 1,by have:=hT rfl;show 2 * gapT st t' + 1 < 2 * gapT st t + 1;omega,t',true,z5,z6,z7,rfl,I',(fun z=>by cases z),rfl⟩
     | false=>
      obtain⟨rfl,hn⟩:=hN rfl
      refine⟨2 * gapT st t' + 0,by show 2 * gapT st t' + 0 < 2 * gapT st t' + 1;omega,t',false,z5,z6,z7,rfl,I',fun _ w hw=>?_,rfl⟩
      obtain⟨v,hv,rfl⟩:=List.mem_map.mp hw
      rcases hn v hv with z | z
      ·cases z
      ·exact z
 rintro ρ ⟨t,z5,z6,z7,rfl,hL⟩
 refine go ?_;decreasing_tactic
 exact q t hL
end
def spOwnLand:Sp:=fun vs H Q _=>∃(F:Addr→Prop) (a dc:Addr) (m:Nat) (st:Int) (g:Tb) (kws:Kw),vs=[.ref a]∧StAt F H a dc m st g kws∧(keysW kws).length < 64∧∀v H',ThV (NewS H) H' v (landD m (wsF kws))→Same H H'→Q v H'
def spOwn:Sp:=fun vs H Q _=>∃(F:Addr→Prop) (a dc:Addr) (m:Nat) (st:Int) (g:Tb) (kws:Kw),vs=[.ref a]∧(∀b,H b=none→F b)∧(∀b xs,H b=some (.tup xs)→F b)∧StAt F H a dc m st g kws∧KOk m st g kws∧∀low v H',LowR m st g kws low→ThV F H' v (.list (tabL low))→Same H H'→Q v H'
def spAsked (C:Addr):Sp:=fun vs H Q _=>∃(F G:Addr→Prop) (p d a dc:Addr) (k:Kst),vs=[.ref p,.ref a]∧(∀b,H b=none→F b)∧KpAt F C H p d k∧StAt G H a dc k.m k.st k.g k.kws∧dc≠d∧(keysW k.kws).length < 64∧
 ∀H',KpAt F C H' p d k→(∀b o,H b=some o→b≠p→b≠d→H' b=some o)→Q (.bl true) H'
theorem rows_mv {F:Addr→Prop} {H H':Hp} {f:Int→Wy}:∀{ns:List Int} {ys:List V},ThVs F H ys (ns.map fun k=>kwD k (f k))→(∀b xs,H b=some (.tup xs)→H' b=some (.tup xs))→ThVs TT0 H' ys (ns.map fun k=>kwD k (f k))
 | [],_,t,_=>by cases t;exact .nil
 | n::ns,_,t,s=>by
  cases t with
  | cons x t=>
   obtain⟨a,us,rfl,_,e,tu⟩:=th_tup (show ThV F H _ (.tuple ([n,(((f n).1:Nat):Int),(((f n).2.1:Nat):Int),(f n).2.2].map PyData.int)) from x)
   exact .cons (.tup trivial (s _ _ e) (ints_anyV tu)) (rows_mv t s)
theorem LayN.kws (kws:Kw):LayN 2 (.list (kwsL kws)):=LayN.lst fun d hd=>by
 obtain⟨n,_,rfl⟩:=List.mem_map.mp hd
 refine LayN.tup fun d hd=>?_
 simp only[List.mem_cons,List.not_mem_nil,or_false] at hd
 rcases hd with rfl | rfl | rfl | rfl <;> exact .int _
theorem callF {F:Addr→Prop} {ms:List Md} {sp:DSp} {vs:List V} {ds:List PyData} {H:Hp} {Q:VK} {E:XK} (hF:(∀b,H b=none→F b)∧∀b xs,H b=some (.tup xs)→F b) (Qd:PyData→Prop) (ar:ArgsR F none H ms vs ds) (h:sp ds Qd) (k:∀d v H',Qd d→ThV F H' v d→Same H H'→Q v H'):spD ms sp vs H Q E:=
 ⟨F,none,ds,Qd,hF,fun q hq=>(nomatch hq),fun q hq=>(nomatch hq),ar,h,fun d v H' a b c _=>k d v H' a b (kq_same c)⟩
section
variable {P:Program} {w:World} {K:PySem.W.Frag} {mg:Str→Option Value} {base:Heap}
theorem ok_own_land (T:Txt K mg):FnOk P w K mg base CX0 1 T.f_own_land.a T.f_own_land.d ["_law_state_here"] spOwnLand:=by
 refine T.f_own_land.F.ok sc_own_land (fun vs H Q E h=>?_) (fun cdv A outer s H vs Q E hr h=>?_)
 ·obtain⟨F,a,dc,m,st,g,kws,rfl,_⟩:=h
  rfl
 ·obtain⟨F,a,dc,m,st,g,kws,rfl,sa,hk,told⟩:=h
  obtain⟨⟨gl,ug,e1,f1,f2,e2,t2⟩,kvs,e3,kv⟩:=sa
  refine⟨_,(pss_one (ps_ret (pe_tup (pa_cons (pe_ix ix_list (pv 0) pe_int (fun _ _=>rfl)) (pa_cons (pe_comp (CompSc.new (N:=["_law_state_here"]) (osc:=defScope s_own_land) (by decide +kernel)) rfl (pi_list (pe_callB (call_sortedK rfl) rfl T.n_sorted bt_sorted (pa_cons (pe_ix ix_list (pv 0) pe_int (fun _ _=>rfl)) pa_nil se_Subscript) (he:=se_Subscript) (hpl:=np_nil))) (fun _=>pts_nil) (fun _=>(pe_dget (u1 (units_of hr)) (pe_ix ix_list (pv 0) pe_int (fun _ _=>rfl)) (pv 1) (fun _ _=>rfl)))) pa_nil se_ListComp) se_Subscript)))),?_⟩
  try dsimp only[cxOf,Cx.nox]
  refine⟨_,rfl,a,_,_,_,rfl,rfl,SqL.of e1,rfl,?_⟩
  refine⟨_,rfl,a,_,_,_,rfl,rfl,SqL.of e1,rfl,dc,kvs,_,rfl,e3,kv.keys,hk,fun l1 ms hl1 hp hs=>?_⟩
  have ems:=srt_uniq hp hs
  subst ems
  obtain⟨H1,hH1⟩:∃H1,H1=upd H l1 (.lst ((srt (keysW kws)).map V.int)):=⟨_,rfl⟩
  rw[←hH1]
  have s1:Same H H1:=by rw[hH1];exact Same.upd hl1
  have el1:H1 l1=some (.lst ((srt (keysW kws)).map V.int)):=by rw[hH1];exact upd_same
  have lsr:(srt (keysW kws)).length < 64:=by rw[(srt_perm _).length_eq];exact hk
  refine⟨l1,rfl,⟨_,SqL.of el1⟩,?_⟩
  refine comp_list (xs:=(srt (keysW kws)).map V.int) (fun i ys Hn=>Hn=H1∧ThVs (NewS H) H1 ys (((wsF kws).take i).map wayD)) ?_ ⟨rfl,.nil⟩ ?_ ?_ ?_
  ·rw[List.length_map,sizeLine_eq];omega
  ·rintro i ys Hn hi ⟨rfl,h2⟩
   refine⟨?_,SqL.of el1⟩
   rw[h2.len,List.length_map,List.length_take]
   omega
  ·rintro i x ys Hn hx ⟨rfl,h2⟩ ca
   rw[List.getElem?_map] at hx
   obtain⟨n,hn,rfl⟩:=Option.map_eq_some_iff.mp hx
   obtain⟨w0,hw0⟩:=getW_of ((srt_perm _).mem_iff.mp (List.mem_of_getElem? hn))
   have hwi:(wsF kws)[i]?=some w0:=by
    unfold wsF
    rw[List.getElem?_map,hn,Option.map_some,hw0];rfl
   rcases kv.val n with ⟨_,z⟩ | ⟨v0,w1,hv,hw1,tv⟩
   ·rw[hw0] at z;cases z
   rw[hw0] at hw1
   cases hw1
   unfold tTrue
   refine iteT ⟨_,rfl,a,_,_,_,rfl,rfl,SqL.of (s1 _ _ e1),rfl,_,rfl,dc,v0,rfl,by rw[←hv];exact DGet.k (k:=Sum.inl n) (s1 _ _ e3),rfl,?_⟩
   rw[List.take_add_one,hwi,List.map_append]
   exact h2.append (.cons (way_mv tv (fun b xs e=>s1 _ _ e) fun b xs e=>.inr ⟨xs,e⟩) .nil)
  rintro ys Hn ⟨rfl,h2⟩ l2 hl2
  have lw:(wsF kws).length=(srt (keysW kws)).length:=by unfold wsF;rw[List.length_map]
  rw[List.length_map,←lw,List.take_length] at h2
  refine⟨by show 2≤sizeLine;decide,fun r hr'=>?_⟩
  have s2:Same Hn (upd Hn l2 (.lst ys)):=Same.upd hl2
  have s3:Same (upd Hn l2 (.lst ys)) _:=Same.upd (o:=.tup [.int ((m:Nat):Int),.ref l2]) hr'
  have s13:=(s1.tr s2).tr s3
  exact told _ _ (.tup (.inl ((s1.tr s2).early hr')) upd_same (.cons (.int _) (.cons (.lst (.inl (s1.early hl2)) (s3 _ _ upd_same) ((h2.keep s2).keep s3)) .nil))) s13
theorem ok_own (T:Txt K mg):FnOk P w K mg base CX0 4 T.f_own.a T.f_own.d ["_law_state_here"] spOwn:=by
 have G_own_land:=@ok_own_land P w K mg base T
 have b_own_land:=T.f_own_land.b
 have G_own_least:=@ok_own_least P w K mg base T
 have b_own_least:=T.f_own_least.b
 refine T.f_own.F.ok sc_own (fun vs H Q E h=>?_) (fun cdv A outer s H vs Q E hr h=>?_)
 ·obtain⟨F,a,dc,m,st,g,kws,rfl,_⟩:=h
  rfl
 ·obtain⟨F,a,dc,m,st,g,kws,rfl,hF1,hF2,sa,ok,told⟩:=h
  have sa0:=sa
  obtain⟨⟨gl,ug,e1,f1,f2,e2,t2⟩,kvs,e3,kv⟩:=sa
  have few:=ok.few
  have lk:(keysW kws).length < 64:=by unfold keysW;rw[List.length_map];omega
  refine⟨_,(pss_one (ps_ret (pe_call G_own_least (hr.mono (by decide)) rfl T.f_own_least.m T.f_own_least.F.kp b_own_least .nil pass0 (pa_cons (pe_call G_own_land (hr.mono (by decide)) rfl T.f_own_land.m T.f_own_land.F.kp b_own_land .nil pass0 (pa_cons (pv 0) pa_nil se_Name) (he:=se_Name) (hpl:=np_nil)) (pa_cons (pe_ix ix_list (pv 0) pe_int (fun _ _=>rfl)) (pa_cons (pe_ix ix_list (pv 0) pe_int (fun _ _=>rfl)) pa_nil se_Subscript) se_Subscript) se_Call) (he:=se_Call) (hpl:=(np_cons se_Subscript (np_cons se_Subscript np_nil)))))),?_⟩
  try dsimp only[cxOf,Cx.nox]
  refine⟨_,rfl,F,a,dc,m,st,g,kws,rfl,sa0,lk,fun v H1 tv s1=>?_⟩
  refine⟨_,rfl,a,_,_,_,rfl,rfl,SqL.of (s1 _ _ e1),rfl,_,rfl,a,_,_,_,rfl,rfl,SqL.of (s1 _ _ e1),rfl,?_⟩
  refine callF (F:=F) (E:=E0) ⟨fun b hb=>hF1 _ (s1.early hb),fun b xs hb=>by
    cases z:H b with
    | none=>exact hF1 _ z
    | some o=>
     have:=s1 _ _ z
     rw[hb] at this
     cases this
     exact hF2 _ _ z⟩ (fun d=>∃low,LowR m st g kws low∧d=.list (tabL low)) (.cons (tv.mv fun b o z e=>⟨by rcases z with z | ⟨xs,z⟩;exact hF1 _ z;exact hF2 _ _ z,e⟩) (.cons (.int _) (.cons (.lst f2 (s1 _ _ e2) (tab_any t2)) .nil))) ⟨m,wsF kws,st,g,rfl,ok.land,ok.s0,ok.gt,fun t ht=>⟨_,⟨t,ht,rfl⟩,rfl⟩⟩ fun d v H2 hd tv2 s2=>?_
  obtain⟨low,lr,rfl⟩:=hd
  exact told low v H2 lr tv2 (s1.tr s2)
theorem ok_asked (T:Txt K mg):FnOk P w K mg base CX0 2 T.f_asked.a T.f_asked.d ["_law_keeper", "_law_state_here"] (spAsked T.c_Keeper):=by
 have G_own_land:=@ok_own_land P w K mg base T
 have b_own_land:=T.f_own_land.b
 have G_m_ways:=@ok_m_ways P w K mg base T
 have b_m_ways:=bd_m_ways T
 have G_m_store:=@ok_m_store P w K mg base T
 have b_m_store:=bd_m_store T
 have G_m_goal:=@ok_m_goal P w K mg base T
 have b_m_goal:=bd_m_goal T
 have G_m_land:=@ok_m_land P w K mg base T
 have b_m_land:=bd_m_land T
 refine T.f_asked.F.ok sc_asked (fun vs H Q E h=>?_) (fun cdv A outer s H vs Q E hr h=>?_)
 ·obtain⟨F,G,p,d,a,dc,k,rfl,_⟩:=h
  rfl
 ·obtain⟨F,G,p,d,a,dc,k,rfl,hF,kp,sa,ne,hk,told⟩:=h
  have sa0:=sa
  obtain⟨⟨gl,ug,e1,f1,f2,e2,t2⟩,kvs,e3,kv⟩:=sa
  refine⟨_,(pss_cons (ps_setC (i:=2) sc_asked.nd rfl (Or.inl rfl) (CompSc.new (N:=["_law_keeper", "_law_state_here", "_law_ways"]) (osc:=defScope s_asked) (by decide +kernel)) rfl (pi_list (pe_callB (call_sortedK rfl) rfl T.n_sorted bt_sorted (pa_cons (pe_ix ix_list (pv 1) pe_int (fun _ _=>rfl)) pa_nil se_Subscript) (he:=se_Subscript) (hpl:=np_nil))) (fun _=>pts_nil) (fun _=>(pe_tup (pa_cons (pv 3) (pa_cons (pe_ix ix_seq (pe_dget (u1 (units_of hr)) (pe_ix ix_list (pv 1) pe_int (fun _ _=>rfl)) (pv 3) (fun _ _=>rfl)) pe_int (fun _ _=>rfl)) (pa_cons (pe_ix ix_seq (pe_dget (u1 (units_of hr)) (pe_ix ix_list (pv 1) pe_int (fun _ _=>rfl)) (pv 3) (fun _ _=>rfl)) pe_int (fun _ _=>rfl)) (pa_cons (pe_ix ix_seq (pe_dget (u1 (units_of hr)) (pe_ix ix_list (pv 1) pe_int (fun _ _=>rfl)) (pv 3) (fun _ _=>rfl)) pe_int (fun _ _=>rfl)) pa_nil se_Subscript) se_Subscript) se_Subscript) se_Name))))
   (pss_cons (ps_mid (ps_if (PW.pt (pw_or (pt_cmpR (op_neD (units_of hr)) (pe_meth0 (pv 0) T.cl_Keeper T.me_m_ways G_m_ways (hr.mono (by decide)) b_m_ways .nil pass0) (pv 2) (nomark _)) (pw_or (pt_cmpR (op_neD (units_of hr)) (pe_meth0 (pv 0) T.cl_Keeper T.me_m_store G_m_store (hr.mono (by decide)) b_m_store .nil pass0) (pe_ix ix_list (pv 1) pe_int (fun _ _=>rfl)) (nomark _)) (pw_or1 (pt_cmpR (op_neD (units_of hr)) (pe_meth0 (pv 0) T.cl_Keeper T.me_m_goal G_m_goal (hr.mono (by decide)) b_m_goal .nil pass0) (pe_ix ix_list (pv 1) pe_int (fun _ _=>rfl)) (nomark _))))))
   (pss_one (ps_ret pe_bl))
   pss_nil))
   (pss_one (ps_ret (pe_cmpR (op_eqD (units_of hr)) (pe_meth0 (pv 0) T.cl_Keeper T.me_m_land G_m_land (hr.mono (by decide)) b_m_land .nil pass0) (pe_call G_own_land (hr.mono (by decide)) rfl T.f_own_land.m T.f_own_land.F.kp b_own_land .nil pass0 (pa_cons (pv 1) pa_nil se_Name) (he:=se_Name) (hpl:=np_nil)) (nomark _)))))),?_⟩
  try dsimp only[cxOf,Cx.nox]
  refine⟨_,rfl,a,_,_,_,rfl,rfl,SqL.of e1,rfl,dc,kvs,_,rfl,e3,kv.keys,hk,fun l1 ms hl1 hp hs=>?_⟩
  have ems:=srt_uniq hp hs
  subst ems
  obtain⟨H1,hH1⟩:∃H1,H1=upd H l1 (.lst ((srt (keysW k.kws)).map V.int)):=⟨_,rfl⟩
  rw[←hH1]
  have s1:Same H H1:=by rw[hH1];exact Same.upd hl1
  have el1:H1 l1=some (.lst ((srt (keysW k.kws)).map V.int)):=by rw[hH1];exact upd_same
  have lsr:(srt (keysW k.kws)).length < 64:=by rw[(srt_perm _).length_eq];exact hk
  have lkw:(kwsL k.kws).length=(srt (keysW k.kws)).length:=by unfold kwsL;rw[List.length_map]
  clear hH1
  refine⟨l1,rfl,⟨_,SqL.of el1⟩,?_⟩
  refine comp_list (xs:=(srt (keysW k.kws)).map V.int) (fun i ys Hn=>Same H1 Hn∧ThVs TT0 Hn ys ((kwsL k.kws).take i)) ?_ ⟨(fun _ _ e=>e),.nil⟩ ?_ ?_ ?_
  ·rw[List.length_map,sizeLine_eq];omega
  ·rintro i ys Hn hi ⟨sn,h2⟩
   refine⟨?_,SqL.of (sn _ _ el1)⟩
   rw[h2.len,List.length_take]
   omega
  ·rintro i x ys Hn hx ⟨sn,h2⟩ ca
   rw[List.getElem?_map] at hx
   obtain⟨n,hn,rfl⟩:=Option.map_eq_some_iff.mp hx
   obtain⟨w0,hw0⟩:=getW_of ((srt_perm _).mem_iff.mp (List.mem_of_getElem? hn))
   have hwi:(kwsL k.kws)[i]?=some (kwD n w0):=by
    unfold kwsL
    rw[List.getElem?_map,hn,Option.map_some,hw0];rfl
   rcases kv.val n with ⟨_,z⟩ | ⟨v0,w1,hv,hw1,tv⟩
   ·rw[hw0] at z;cases z
   rw[hw0] at hw1
   cases hw1
   obtain⟨tw,uw,rfl,_,ew,tuw⟩:=th_tup (show ThV TT0 H v0 (.tuple [.int ((w0.1:Nat):Int),.int ((w0.2.1:Nat):Int),.int w0.2.2]) from tv)
   obtain⟨v1,v2,v3,rfl,tv1,tv2,tv3⟩:=ths3k tuw
   cases tv1
   cases tv2
   cases tv3
   have sH:=s1.tr sn
   have ew':=sH _ _ ew
   have gt1:∀j v,atI [V.int ((w0.1:Nat):Int),V.int ((w0.2.1:Nat):Int),V.int w0.2.2] j=some v→∀Qv:VK,Qv v Hn→tOp (rIx K) (tDGet (tOp (rIxL K) (tVar 1) (tC (V.int 3))) (tVar 3)) (tC (V.int j)) [some (.ref p),some (.ref a),none,some (.int n)] Hn Qv:=fun j v hj Qv q=>⟨_,rfl,a,_,_,_,rfl,rfl,SqL.of (sH _ _ e1),rfl,_,rfl,dc,_,rfl,by rw[←hv];exact DGet.k (k:=Sum.inl n) (sH _ _ e3),.inr (.inl ⟨tw,_,j,v,rfl,rfl,SqT.of ew',hj,q⟩)⟩
   unfold tTrue
   refine iteT ⟨_,rfl,gt1 0 _ rfl _ (gt1 1 _ rfl _ (gt1 2 _ rfl _ ⟨by show 4≤sizeLine;decide,fun q hq=>?_⟩))⟩
   have s4:Same Hn _:=Same.upd (o:=.tup [.int n,.int ((w0.1:Nat):Int),.int ((w0.2.1:Nat):Int),.int w0.2.2]) hq
   refine⟨sn.tr s4,?_⟩
   rw[List.take_add_one,hwi]
   exact (h2.keep s4).append (.cons (.tup trivial upd_same (.cons (.int _) (.cons (.int _) (.cons (.int _) (.cons (.int _) .nil))))) .nil)
  rintro ys Hn ⟨sn,h2⟩ l2 hl2
  rw[List.length_map,←lkw,List.take_length] at h2
  have s2:Same Hn (upd Hn l2 (.lst ys)):=Same.upd hl2
  obtain⟨H3,hH3⟩:∃H3,H3=upd Hn l2 (.lst ys):=⟨_,rfl⟩
  rw[←hH3] at s2 ⊢
  have el2:H3 l2=some (.lst ys):=by rw[hH3];exact upd_same
  have s3:=(s1.tr sn).tr s2
  have ty:=h2.keep s2
  clear hH3 s2 h2 sn el1 s1
  have kpi:∀{Hx:Hp} {kx:Kst},KpAt F T.c_Keeper Hx p d kx→∃dx g l,Hx p=some (.ins T.c_Keeper dx (kfs kx.m kx.st g d l)):=fun h=>by
   obtain⟨⟨dx,g,l,_,_,e1,_⟩,_⟩:=h
   exact⟨dx,g,l,e1⟩
  have mvL:∀{Hx Hy:Hp} {kx:Kst},KpAt F T.c_Keeper Hx p d kx→Frp p d Hx Hy→∀b xs,Hx b=some (.lst xs)→Hy b=some (.lst xs):=fun kx fr b xs e=>fr _ _ e (kp_mem kx e).1 (kp_mem kx e).2
  have mvT:∀{Hx Hy:Hp} {kx:Kst},KpAt F T.c_Keeper Hx p d kx→Frp p d Hx Hy→∀b xs,Hx b=some (.tup xs)→Hy b=some (.tup xs):=fun kx fr b xs e=>fr _ _ e (kp_tup kx e).1 (kp_tup kx e).2
  have kp3:=kp.same s3
  have hF3:∀b,H3 b=none→F b:=fun b hb=>hF _ (s3.early hb)
  have LW:=LayN.kws k.kws
  have LT:=LayN.tab k.g
  have LI:LayN 0 (.int k.st):=LayN.int _
  refine⟨fun σ' H'=>σ'=[some (.ref p),some (.ref a),some (.ref l2)]∧KpAt F T.c_Keeper H' p d k∧Frp p d H H',?_,?_⟩
  ·refine tIf_of (fun c Hx=>c=false∧KpAt F T.c_Keeper Hx p d k∧Frp p d H Hx) (fun Qx hQ=>?_) (fun c Hx hc=>?_)
   rotate_left
   ·obtain⟨rfl,s⟩:=hc
    exact iteF ⟨rfl,s⟩
   obtain⟨dx,g,l,ep⟩:=kpi kp3
   refine⟨_,rfl,p,dx,_,rfl,ep,kfs_no (by decide +kernel),F,p,d,k,[],[],rfl,hF3,kp3,.nil,⟨rfl,hk⟩,fun r v k' H4 po kp4 tv fr4 _=>?_⟩
   obtain⟨rfl,rfl⟩:=po
   have ty4:ThV TT0 H4 (.ref l2) (.list (kwsL k'.kws)):=.lst trivial (mvL kp3 fr4 _ _ el2) (rows_mv ty (mvT kp3 fr4))
   refine⟨_,rfl,_,_,ThV.dat tv LW.1,ThV.dat ty4 LW.1,LW.1,LW.1,LW.dep (by decide) _,_,rfl,?_⟩
   rw[LW.same]
   refine iteF ?_
   have hF4:∀b,H4 b=none→F b:=fun b hb=>hF3 _ (frp_none kp4 fr4 hb)
   obtain⟨dx,g,l,ep⟩:=kpi kp4
   refine⟨_,rfl,p,dx,_,rfl,ep,kfs_no (by decide +kernel),F,p,d,_,[],[],rfl,hF4,kp4,.nil,rfl,fun r v k5 H5 po kp5 tv fr5 _=>?_⟩
   obtain⟨rfl,rfl⟩:=po
   have e15:=mvL kp4 fr5 _ _ (mvL kp3 fr4 _ _ (s3 _ _ e1))
   refine⟨_,rfl,a,_,_,_,rfl,rfl,SqL.of e15,rfl,_,_,ThV.dat tv LI.1,ThV.dat (F:=TT0) (.int _) LI.1,LI.1,LI.1,LI.dep (by decide) _,_,rfl,?_⟩
   rw[LI.same]
   refine iteF ?_
   have hF5:∀b,H5 b=none→F b:=fun b hb=>hF4 _ (frp_none kp5 fr5 hb)
   obtain⟨dx,g,l,ep⟩:=kpi kp5
   refine⟨_,rfl,p,dx,_,rfl,ep,kfs_no (by decide +kernel),F,p,d,_,[],[],rfl,hF5,kp5,.nil,rfl,fun r v k6 H6 po kp6 tv fr6 _=>?_⟩
   obtain⟨rfl,rfl⟩:=po
   have e16:=mvL kp5 fr6 _ _ e15
   have e26:=mvL kp5 fr6 _ _ (mvL kp4 fr5 _ _ (mvL kp3 fr4 _ _ (s3 _ _ e2)))
   refine⟨_,rfl,a,_,_,_,rfl,rfl,SqL.of e16,rfl,_,_,ThV.dat tv LT.1,ThV.dat (F:=TT0) (.lst trivial e26 (tab_any t2)) LT.1,LT.1,LT.1,LT.dep (by decide) _,_,rfl,?_⟩
   rw[LT.same]
   exact hQ false _ ⟨rfl,kp6,fun b o e n1 n2=>fr6 _ _ (fr5 _ _ (fr4 _ _ (s3 _ _ e) n1 n2) n1 n2) n1 n2⟩
  rintro σ' H4 ⟨rfl,kp4,fr4⟩
  have hF4:∀b,H4 b=none→F b:=fun b hb=>hF _ (frp_none kp4 fr4 hb)
  obtain⟨dx,g,l,ep⟩:=kpi kp4
  refine⟨_,rfl,p,dx,_,rfl,ep,kfs_no (by decide +kernel),F,p,d,k,[],[],rfl,hF4,kp4,.nil,⟨rfl,hk⟩,fun r v k' H5 po kp5 tv fr5 _=>?_⟩
  obtain⟨rfl,rfl⟩:=po
  have fr:Frp p d H H5:=fun b o e n1 n2=>fr5 _ _ (fr4 _ _ e n1 n2) n1 n2
  refine⟨_,rfl,G,a,dc,k'.m,k'.st,k'.g,k'.kws,rfl,stat_fr sa0 kp ne fr,hk,fun v2 H6 tv2 s6=>?_⟩
  have LL:=LayN.land k'.m (wsF k'.kws)
  refine⟨_,_,ThV.dat (tv.keep s6) LL.1,ThV.dat tv2 LL.1,LL.1,LL.1,LL.dep (by decide) _,?_⟩
  rw[LL.same]
  exact told H6 (kp5.same s6) fun b o e n1 n2=>s6 _ _ (fr _ _ e n1 n2)
end
def spLaw (K:PySem.W.Frag):Sp:=fun vs H Q _=>∃(a:Addr) (ns:List Int),vs=[.ref a]∧SqL K H a (ns.map V.int)∧ns.length≤63∧∀H',Q (.bl true) H'
theorem kp_and {F G:Addr→Prop} {C:Addr} {H:Hp} {p d:Addr} {k:Kst} (h:KpAt F C H p d k) (h':KpAt G C H p d k):KpAt (fun b=>F b∧G b) C H p d k:=by
 obtain⟨⟨dx,g,l,ug,ul,e1,g1,e2,t2,g3,e3,t3⟩,z⟩:=h
 obtain⟨⟨dx',g',l',ug',ul',e1',g1',e2',t2',g3',e3',t3'⟩,z'⟩:=h'
 rw[e1] at e1'
 unfold kfs at e1'
 cases e1'
 exact⟨⟨dx,g,l,ug,ul,e1,⟨g1,g1'⟩,e2,t2,⟨g3,g3'⟩,e3,t3⟩,z⟩
theorem stat_ne {F:Addr→Prop} {H:Hp} {a dc l:Addr} {m:Nat} {st:Int} {g:Tb} {kws:Kw} (s:StAt F H a dc m st g kws) (n:H l=none):StAt (fun b=>b≠l) H a dc m st g kws:=by
 obtain⟨⟨gl,ug,e1,f1,f2,e2,t2⟩,z⟩:=s
 exact⟨⟨gl,ug,e1,(fun z=>by rw[z,n] at e1;cases e1),(fun z=>by rw[z,n] at e2;cases e2),e2,t2⟩,z⟩
theorem lst_new {G:Addr→Prop} {C:Addr} {H H':Hp} {p d l:Addr} {k:Kst} {xs:List V} (kp:KpAt G C H' p d k) (fr:Frp p d H H') (g:NewS H l) (e:H' l=some (.lst xs)):H l=none:=by
 rcases g with g | ⟨ys,g⟩
 ·exact g
 ·rw[fr _ _ g (kp_mem kp e).1 (kp_mem kp e).2] at e;cases e
theorem StAt.same {F:Addr→Prop} {H H':Hp} {a dc:Addr} {m:Nat} {st:Int} {g:Tb} {kws:Kw} (h:StAt F H a dc m st g kws) (s:Same H H'):StAt F H' a dc m st g kws:=h.mv (fun b o e _ _=>s _ _ e) fun _ z=>z
theorem LSt.fr {C hd hl a dc p d:Addr} {ks kk:Kst} {H H':Hp} (L:LSt C hd hl a dc p d ks kk H) (kp:KpAt (fun b=>b≠hd) C H' p d kk) (fr:Frp p d H H'):LSt C hd hl a dc p d ks kk H':={ L with hnd:=hd_fr L.hnd L.kp fr,sta:=stat_fr L.sta L.kp L.ne fr,kp:=kp }
theorem kp_put {C:Addr} {H:Hp} {p d l:Addr} {F:Addr→Prop} {k:Kst} {xs ys:List V} (h:KpAt (fun b=>F b∧b≠l) C H p d k) (e:H l=some (.lst xs)):KpAt F C (upd H l (.lst ys)) p d k:=
 h.mv (fun b o eb n=>by
  refine (upd_ne fun z=>?_).trans eb
  rw[z,e] at eb
  cases eb
  exact (n _ rfl).2 z) fun _ z=>z.1
theorem stat_put {H:Hp} {a dc l:Addr} {F:Addr→Prop} {m:Nat} {st:Int} {g:Tb} {kws:Kw} {xs ys:List V} (h:StAt F H a dc m st g kws) (n:StAt (fun b=>b≠l) H a dc m st g kws) (e:H l=some (.lst xs)):StAt F (upd H l (.lst ys)) a dc m st g kws:=by
 obtain⟨⟨gl,ug,e1,f1,f2,e2,t2⟩,kvs,e3,kv⟩:=h
 obtain⟨⟨gl',ug',e1',n1,n2,_⟩,_⟩:=n
 rw[e1] at e1'
 cases e1'
 have k:∀b o,H b=some o→b≠l→upd H l (.lst ys) b=some o:=fun b o e n=>by rw[upd_ne n];exact e
 exact⟨⟨gl,ug,k _ _ e1 n1,f1,f2,k _ _ e2 n2,tab_any t2⟩,kvs,k _ _ e3 (fun z=>by rw[z,e] at e3;cases e3),kv.mv fun b xs eb=>k _ _ eb fun z=>by rw[z,e] at eb;cases eb⟩
section
variable {P:Program} {w:World} {K:PySem.W.Frag} {mg:Str→Option Value} {base:Heap}
theorem ok_law_is_whole (T:Txt K mg):FnOk P w K mg base CX0 1 T.f_law_is_whole.a T.f_law_is_whole.d ["_law_thing"] (spD [.sh] spWholeD):=by
 refine fn_d T.f_law_is_whole.F sc_law_is_whole rfl (fun C cdv A outer s H E hr=>⟨_,(@dss_one _ _ _ _ (@ds_ret _ _ _ _ _ (@pd_and _ _ _ _ _ _ _ _ (pd_isiv ty_int (pe_callB call_isinst2 rfl T.n_isinstance bt_isinstance (pa_cons (pv 0) (pa_cons (pe_bltn (v:=V.ty "int") rfl T.n_int bt_int rfl) pa_nil se_Name) se_Name) (he:=se_Name) (hpl:=(np_cons se_Name np_nil)))) (pd_one (pd_not (pd_isiv ty_bool (pe_callB call_isinst2 rfl T.n_isinstance bt_isinstance (pa_cons (pv 0) (pa_cons (pe_bltn (v:=V.ty "bool") rfl T.n_bool bt_bool rfl) pa_nil se_Name) se_Name) (he:=se_Name) (hpl:=(np_cons se_Name np_nil))))))))),fun ds Q hl h=>?_⟩)
 obtain⟨d,rfl,q⟩:=h
 decreasing_tactic
 unfold wholeD at q
 cases d <;> exact q
theorem ok_law (T:Txt K mg):FnOk P w K mg base CX0 14 T.f_law.a T.f_law.d ["_law_script"] (spLaw K):=by
 have G_hand:=@ok_hand P w K mg base T
 have b_hand:=T.f_hand.b
 have G_m_init:=@ok_m_init P w K mg base T
 have b_m_init:=bd_m_init T
 have G_m_least:=@ok_m_least P w K mg base T
 have b_m_least:=bd_m_least T
 have G_do:=@ok_do P w K mg base T
 have b_do:=T.f_do.b
 have G_state:=@ok_state P w K mg base T
 have b_state:=T.f_state.b
 have G_after:=@ok_after P w K mg base T
 have b_after:=T.f_after.b
 have G_deed:=@ok_deed P w K mg base T
 have b_deed:=T.f_deed.b
 have G_own:=@ok_own P w K mg base T
 have b_own:=T.f_own.b
 have G_asked:=@ok_asked P w K mg base T
 have b_asked:=T.f_asked.b
 have G_draw:=@ok_drawD P w K mg base T
 have b_draw:=T.f_draw.b
 have G_table:=@ok_table P w K mg base T
 have b_table:=T.f_table.b
 have G_moved:=@ok_moved P w K mg base T
 have b_moved:=T.f_moved.b
 have G_law_is_whole:=@ok_law_is_whole P w K mg base T
 have b_law_is_whole:=T.f_law_is_whole.b
 refine T.f_law.F.ok sc_law (fun vs H Q E h=>?_) (fun cdv A outer s H vs Q E hr h=>?_)
 ·obtain⟨a,ns,rfl,_⟩:=h
  rfl
 ·obtain⟨a,ns,rfl,hS,hlen,told⟩:=h
  refine⟨_,(pss_cons (ps_set (i:=1) sc_law.nd rfl (Or.inl rfl) (pe_call G_hand (hr.mono (by decide)) rfl T.f_hand.m T.f_hand.F.kp b_hand .nil pass0 (pa_cons (pv 0) pa_nil se_Name) (he:=se_Name) (hpl:=np_nil)))
   (pss_cons (ps_set (i:=2) sc_law.nd rfl (Or.inl rfl) (pe_op op_add pe_int (pe_call G_draw (hr.mono (by decide)) rfl T.f_draw.m T.f_draw.F.kp b_draw .nil pass0 (pa_cons (pv 1) (pa_cons pe_int pa_nil se_Constant) se_Name) (he:=se_Name) (hpl:=(np_cons se_Constant np_nil)))))
   (pss_cons (ps_set (i:=3) sc_law.nd rfl (Or.inl rfl) (pe_ix ix_list (pe_lst (pa_cons pe_int (pa_cons pe_int (pa_cons pe_int pa_nil se_Constant) se_Constant) se_Constant)) (pe_call G_draw (hr.mono (by decide)) rfl T.f_draw.m T.f_draw.F.kp b_draw .nil pass0 (pa_cons (pv 1) (pa_cons pe_int pa_nil se_Constant) se_Name) (he:=se_Name) (hpl:=(np_cons se_Constant np_nil))) (fun _ _=>rfl)))
   (pss_cons (ps_set (i:=4) sc_law.nd rfl (Or.inl rfl) (pe_call G_draw (hr.mono (by decide)) rfl T.f_draw.m T.f_draw.F.kp b_draw .nil pass0 (pa_cons (pv 1) (pa_cons pe_int pa_nil se_Constant) se_Name) (he:=se_Name) (hpl:=(np_cons se_Constant np_nil))))
   (pss_cons (ps_set (i:=5) sc_law.nd rfl (Or.inl rfl) (pe_call G_state (hr.mono (by decide)) rfl T.f_state.m T.f_state.F.kp b_state .nil pass0 (pa_cons (pv 2) (pa_cons (pv 4) (pa_cons (pe_call G_table (hr.mono (by decide)) rfl T.f_table.m T.f_table.F.kp b_table .nil pass0 (pa_cons (pv 1) (pa_cons (pv 2) (pa_cons (pv 4) pa_nil se_Name) se_Name) se_Name) (he:=se_Name) (hpl:=(np_cons se_Name (np_cons se_Name np_nil)))) pa_nil se_Call) se_Name) se_Name) (he:=se_Name) (hpl:=(np_cons se_Name (np_cons se_Call np_nil)))))
   (pss_cons (ps_set (i:=6) sc_law.nd rfl (Or.inl rfl) (pe_cmpR op_eq (pe_call G_draw (hr.mono (by decide)) rfl T.f_draw.m T.f_draw.F.kp b_draw .nil pass0 (pa_cons (pv 1) (pa_cons pe_int pa_nil se_Constant) se_Name) (he:=se_Name) (hpl:=(np_cons se_Constant np_nil))) pe_int (nomark _)))
   (pss_cons (ps_set (i:=7) sc_law.nd rfl (Or.inl rfl) (pe_make T.mk_Keeper G_m_init (hr.mono (by decide)) rfl T.mg_Keeper b_m_init .nil pass0 (pa_cons (pv 2) (pa_cons (pv 4) (pa_cons (pe_callTy call_list_of rfl T.n_list bt_list (pa_cons (pe_ix ix_list (pv 5) pe_int (fun _ _=>rfl)) pa_nil se_Subscript) (he:=se_Subscript) (hpl:=np_nil)) pa_nil se_Call) se_Name) se_Name) (he:=se_Name) (hpl:=(np_cons se_Name (np_cons se_Call np_nil)))))
   (pss_cons (ps_for PassesOwn.never rfl (pi_range1 rfl T.n_range (pa_cons (pe_call G_draw (hr.mono (by decide)) rfl T.f_draw.m T.f_draw.F.kp b_draw .nil pass0 (pa_cons (pv 1) (pa_cons pe_int pa_nil se_Constant) se_Name) (he:=se_Name) (hpl:=(np_cons se_Constant np_nil))) pa_nil se_Call)) (pg_name (i:=8) sc_law.nd rfl (Or.inl rfl))
   (pss_cons (ps_set (i:=9) sc_law.nd rfl (Or.inl rfl) (pe_call G_deed (hr.mono (by decide)) rfl T.f_deed.m T.f_deed.F.kp b_deed .nil pass0 (pa_cons (pv 1) (pa_cons (pv 5) (pa_cons (pv 3) (pa_cons pe_int pa_nil se_Constant) se_Name) se_Name) se_Name) (he:=se_Name) (hpl:=(np_cons se_Name (np_cons se_Name (np_cons se_Constant np_nil))))))
   (pss_cons (ps_set (i:=10) sc_law.nd rfl (Or.inl rfl) (pe_call G_after (hr.mono (by decide)) rfl T.f_after.m T.f_after.F.kp b_after .nil pass0 (pa_cons (pv 5) (pa_cons (pv 9) pa_nil se_Name) se_Name) (he:=se_Name) (hpl:=(np_cons se_Name np_nil))))
   (pss_cons (ps_set (i:=11) sc_law.nd rfl (Or.inl rfl) (pe_call G_do (hr.mono (by decide)) rfl T.f_do.m T.f_do.F.kp b_do .nil pass0 (pa_cons (pv 7) (pa_cons (pv 9) pa_nil se_Name) se_Name) (he:=se_Name) (hpl:=(np_cons se_Name np_nil))))
   (pss_cons (ps_set (i:=12) sc_law.nd rfl (Or.inl rfl) (pe_call G_moved (hr.mono (by decide)) rfl T.f_moved.m T.f_moved.F.kp b_moved .nil pass0 (pa_cons (pe_call G_own (hr.mono (by decide)) rfl T.f_own.m T.f_own.F.kp b_own .nil pass0 (pa_cons (pv 5) pa_nil se_Name) (he:=se_Name) (hpl:=np_nil)) (pa_cons (pe_call G_own (hr.mono (by decide)) rfl T.f_own.m T.f_own.F.kp b_own .nil pass0 (pa_cons (pv 10) pa_nil se_Name) (he:=se_Name) (hpl:=np_nil)) pa_nil se_Call) se_Call) (he:=se_Call) (hpl:=(np_cons se_Call np_nil))))
   (pss_cons (ps_mid (ps_if (PW.pt (pw_or (pt_not (pt_val (pe_callB call_isinst rfl T.n_isinstance bt_isinstance (pa_cons (pv 11) (pa_cons (pe_bltn (v:=V.ty "tuple") rfl T.n_tuple bt_tuple rfl) pa_nil se_Name) se_Name) (he:=se_Name) (hpl:=(np_cons se_Name np_nil))))) (pw_or1 (pt_cmpR (op_neD (units_of hr)) (pv 11) (pv 12) (nomark _)))))
   (pss_one (ps_ret pe_bl))
   pss_nil))
   (pss_cons (ps_for PassesOwn.never rfl (pi_tup (pv 11)) (pg_name (i:=13) sc_law.nd rfl (Or.inl rfl))
   (pss_one (ps_if (PW.pt (pw_or (pt_not (pt_val (pe_callB call_isinst rfl T.n_isinstance bt_isinstance (pa_cons (pv 13) (pa_cons (pe_bltn (v:=V.ty "list") rfl T.n_list bt_list rfl) pa_nil se_Name) se_Name) (he:=se_Name) (hpl:=(np_cons se_Name np_nil))))) (pw_or1 (pt_not (pt_val (pe_callB (call_all rfl) rfl T.n_all bt_all (pa_cons (pe_comp (CompSc.new (N:=["_law_script", "_law_hand_here", "_law_many", "_law_scale", "_law_store", "_law_state_here", "_law_often", "_law_keeper", "_law_k", "_law_deed_here", "_law_after_here", "_law_told", "_law_due", "_law_row"]) (osc:=defScope s_law) (by decide +kernel)) rfl (pi_list (pv 13)) (fun _=>pts_nil) (fun _=>(pe_call G_law_is_whole (hr.mono (by decide)) rfl T.f_law_is_whole.m T.f_law_is_whole.F.kp b_law_is_whole .nil pass0 (pa_cons (pv 14) pa_nil se_Name) (he:=se_Name) (hpl:=np_nil)))) pa_nil se_ListComp) (he:=se_ListComp) (hpl:=np_nil)))))))
   (pss_one (ps_ret pe_bl))
   pss_nil)))
   (pss_cons (ps_expr (pe_bm PySem.F.plainAttrs_list PySem.F.slot_list_append PySem.F.type_list_append mt_append (pe_ix ix_seq (pv 11) pe_int (fun _ _=>rfl)) (pa_cons pe_int pa_nil se_Constant)))
   (pss_cons (ps_mid (ps_if (pt_cmpR (op_neD (units_of hr)) (pe_ix ix_seq (pv 11) pe_int (fun _ _=>rfl)) (pe_ix ix_seq (pv 12) pe_int (fun _ _=>rfl)) (nomark _))
   (pss_one (ps_ret pe_bl))
   pss_nil))
   (pss_cons (ps_set (i:=5) sc_law.nd rfl (Or.inl rfl) (pv 10))
   (pss_one (ps_if (PW.pt (pw_and (pt_val (pv 6)) (pw_and1 (PW.pt (pw_or (pt_not (pt_val (pe_call G_asked (hr.mono (by decide)) rfl T.f_asked.m T.f_asked.F.kp b_asked .nil pass0 (pa_cons (pv 7) (pa_cons (pv 5) pa_nil se_Name) se_Name) (he:=se_Name) (hpl:=(np_cons se_Name np_nil))))) (pw_or1 (pt_cmpR (op_neD (units_of hr)) (pe_meth0 (pv 7) T.cl_Keeper T.me_m_least G_m_least (hr.mono (by decide)) b_m_least .nil pass0) (pe_call G_own (hr.mono (by decide)) rfl T.f_own.m T.f_own.F.kp b_own .nil pass0 (pa_cons (pv 5) pa_nil se_Name) (he:=se_Name) (hpl:=np_nil)) (nomark _))))))))
   (pss_one (ps_ret pe_bl))
   pss_nil))))))))))))
   (pss_one (ps_ret (pe_and (pe_call G_asked (hr.mono (by decide)) rfl T.f_asked.m T.f_asked.F.kp b_asked .nil pass0 (pa_cons (pv 7) (pa_cons (pv 5) pa_nil se_Name) se_Name) (he:=se_Name) (hpl:=(np_cons se_Name np_nil))) (pe_one (pe_cmpR (op_eqD (units_of hr)) (pe_meth0 (pv 7) T.cl_Keeper T.me_m_least G_m_least (hr.mono (by decide)) b_m_least .nil pass0) (pe_call G_own (hr.mono (by decide)) rfl T.f_own.m T.f_own.F.kp b_own .nil pass0 (pa_cons (pv 5) pa_nil se_Name) (he:=se_Name) (hpl:=np_nil)) (nomark _)))))))))))))),?_⟩
  try dsimp only[cxOf,Cx.nox]
  refine⟨_,rfl,a,ns,rfl,hS,fun hd hl H1 _ _ d1 _=>?_⟩
  have drw:∀(n:Int) (Hx:Hp) (Qv:VK),0 < n→n < 100000000000000000000000000000000000000→Hd Hx hd hl→(∀r Hy,0≤r→r < n→(∀b o,Hx b=some o→b≠hd→Hy b=some o)→Hd Hy hd hl→Qv (.int r) Hy)→spD [.hd,.sh] spDrawD [.ref hd,.int n] Hx Qv E0:=fun n Hx Qv n0 n1 hx q=>
   callH1 (E:=E0) (fun d=>∃r:Int,(0≤r∧r < n)∧d=.int r) hx (.cons (.int _) .nil) ⟨n,rfl,n0,by omega,fun r r0 r1=>⟨r,⟨r0,r1⟩,rfl⟩⟩ fun d v Hy hd' tv ky hy=>by
    obtain⟨r,⟨r0,r1⟩,rfl⟩:=hd'
    cases tv
    exact q r Hy r0 r1 (fun b o e n=>ky b o e fun q hq=>by cases hq;exact n) hy
  refine⟨_,rfl,drw 5 _ _ (by decide) (by decide) d1 fun m0 H3 m00 m01 k3 d3=>?_⟩
  obtain⟨m,hm⟩:∃m:Nat,1 + m0=((m:Nat):Int):=⟨(1 + m0).toNat,by omega⟩
  refine⟨_,_,rfl,rfl,?_⟩
  dsimp only
  rw[hm]
  refine⟨by show 3≤sizeLine;decide,fun l4 hl4=>?_⟩
  have s4:Same H3 _:=Same.upd (o:=.lst [.int 1,.int 3,.int 9]) hl4
  have n4:l4≠hd:=(d3.ne hl4).1
  refine⟨_,rfl,drw 3 _ _ (by decide) (by decide) (d3.same s4) fun u H4 u0 u3 k4 d4=>?_⟩
  obtain⟨sc,hc,sc0,sc1⟩:∃c,atI [V.int 1,V.int 3,V.int 9] u=some (V.int c)∧1≤c∧c≤9:=by
   rcases (show u=0∨u=1∨u=2 by omega) with rfl | rfl | rfl
   ·exact⟨1,rfl,by decide,by decide⟩
   ·exact⟨3,rfl,by decide,by decide⟩
   ·exact⟨9,rfl,by decide,by decide⟩
  refine⟨l4,_,_,_,rfl,rfl,SqL.of (k4 _ _ upd_same n4),hc,?_⟩
  refine⟨_,rfl,drw 10 _ _ (by decide) (by decide) d4 fun st H5 st0 st1 k5 d5=>?_⟩
  refine⟨_,rfl,_,rfl,_,rfl,_,rfl,_,rfl,callH1 (E:=E0) (fun d=>∃t,TabOk m st t∧d=.list (tabL t)) d5 (.cons (.int _) (.cons (.int _) .nil)) ⟨_,m,st,rfl,by omega,st0,by omega,fun t ht=>⟨t,ht,rfl⟩⟩ fun d vg H6 hd' tg _ d6=>?_⟩
  obtain⟨g,tg0,rfl⟩:=hd'
  refine⟨m,st,g,vg,rfl,tg.any,fun as dc H7 sa ndc s7=>?_⟩
  have d7:=d6.same s7
  have ok0:KOk m st g []:=⟨by omega,by omega,st0,by omega,tg0,List.nodup_nil,Nat.zero_le _,fun q hq=>by cases hq⟩
  have sa7:StAt (fun b=>b≠hd) H7 as dc m st g []:=sa.mv (fun b o e _ _=>e) fun b hb=>(d6.ne hb).1
  refine⟨_,rfl,drw 2 _ _ (by decide) (by decide) d7 fun o0 H7' _ _ k7 d7'=>⟨rfl,?_⟩⟩
  have sa8:=stat_hd sa7 d7 k7
  generalize decide (V.int o0=V.int 0)=ofn
  clear k3 k4 k5 s4 d3 d4 d5 hc sa sa7 s7 d7 k7 d6
  have sa9:=sa8
  obtain⟨⟨gl,ug,e1,f1,f2,e2,t2⟩,kvs,e3,kv⟩:=sa8
  refine⟨_,rfl,_,rfl,_,rfl,as,_,_,_,rfl,rfl,SqL.of e1,rfl,gl,ug,rfl,.inl (SqL.of e2),fun lg hlg=>?_⟩
  have s8:Same H7' (upd H7' lg (.lst ug)):=Same.upd hlg
  intro p dx hp hdx npx
  obtain⟨H8,hH8⟩:∃H8,H8=upd H7' lg (.lst ug):=⟨_,rfl⟩
  rw[←hH8] at hp hdx s8 ⊢
  have elg:H8 lg=some (.lst ug):=by rw[hH8];exact upd_same
  clear hH8
  have s9:Same H8 (upd H8 dx (.own p)):=Same.upd hdx
  have hp9:upd H8 dx (.own p) p=none:=by rw[upd_ne (fun z=>npx z.symm)];exact hp
  have s10:=Same.upd (o:=.ins T.c_Keeper dx []) hp9
  refine⟨p,dx,m,st,g,.ref lg,rfl,upd_same,.lst trivial (s10 _ _ (s9 _ _ elg)) (tab_any t2),ok0,fun d low H9 lr nd kp fr=>⟨rfl,?_⟩⟩
  have sH:Same H7' H9:=fun b o e=>fr _ _ (s10 _ _ (s9 _ _ (s8 _ _ e))) fun z=>by rw[z] at e;rw[s8 _ _ e] at hp;cases hp
  have d9:=d7'.same sH
  have L9:LSt T.c_Keeper hd hl as dc p d ⟨m,st,g,[],low⟩ ⟨m,st,g,[],low⟩ H9:=by
   refine⟨d9,sa9.mv (fun b o e _ _=>sH _ _ e) fun _ z=>z,kp.mv (fun b o e _=>e) (fun b hb=>?_),?_,ok0,Nat.zero_le _,⟨rfl,rfl,rfl,List.Perm.refl _⟩,lr⟩
   ·obtain⟨o,eo⟩:=d7'.at1
    intro z
    rw[z,s10 _ _ (s9 _ _ (s8 _ _ eo))] at hb;cases hb
   ·intro z
    rw[←z,s10 _ _ (s9 _ _ (s8 _ _ e3))] at nd;cases nd
  generalize hks:(⟨m,st,g,[],low⟩:Kst)=ks at L9
  clear hks sH fr kp s10 s9 hp9 s8 elg hdx hp npx hlg sa9 e1 e2 e3 kv t2 f1 f2 lr nd ok0
  have f64:∀{as dc:Addr} {kk:Kst} {Hx:Hp},LSt T.c_Keeper hd hl as dc p d kk kk Hx→(keysW kk.kws).length < 64:=fun L=>by have:=L.few;unfold keysW;rw[List.length_map];omega
  have hL:∀{as dc:Addr} {kk:Kst} {Hx:Hp} {Qv:V→V→Hp→Prop} {σ0 σ1 σ2 σ3 σ4 σ6:Option V} {σr:St},LSt T.c_Keeper hd hl as dc p d kk kk Hx→(∀low v1 v2 Hy,ThV TT0 Hy v1 (.list (tabL low))→ThV TT0 Hy v2 (.list (tabL low))→LSt T.c_Keeper hd hl as dc p d kk kk Hy→Qv v1 v2 Hy)→tMeth T.c_Keeper (Str.ofString "least") (spMt T.c_Keeper preLow postLow) [] E0 (tVar 7) tNil (σ0::σ1::σ2::σ3::σ4::some (.ref as)::σ6::some (.ref p)::σr) Hx (fun v1 H1=>tCall spOwn [] E0 (tCons (tVar 5) tNil) (σ0::σ1::σ2::σ3::σ4::some (.ref as)::σ6::some (.ref p)::σr) H1 fun v2 H2=>Qv v1 v2 H2):=fun {as dc kk Hx Qv σ0 σ1 σ2 σ3 σ4 σ6 σr} L q=>by
   obtain⟨dx,g,l,ep⟩:∃dx g l,Hx p=some (.ins T.c_Keeper dx (kfs kk.m kk.st g d l)):=by
    obtain⟨⟨dx,g,l,_,_,e1,_⟩,_⟩:=L.kp
    exact⟨dx,g,l,e1⟩
   refine⟨_,rfl,p,dx,_,rfl,ep,kfs_no (by decide +kernel),_,p,d,kk,[],[],rfl,fun b hb=>(L.hnd.ne hb).1,L.kp,.nil,rfl,fun r v k' H4 po kp4 tv fr4 _=>?_⟩
   obtain⟨rfl,rfl⟩:=po
   have L4:=L.fr kp4 fr4
   refine⟨_,rfl,TT0,as,dc,_,_,_,_,rfl,(fun b _=>trivial),(fun b _ _=>trivial),L4.sta.mv (fun b o e _ _=>e) (fun b _=>trivial),L4.ok,fun low5 v5 H5 lr5 tv5 s5=>?_⟩
   cases lr5.uniq L4.low
   exact q _ v v5 H5 (tv.any.keep s5) tv5 (L4.keep s5)
  refine⟨_,rfl,drw 11 _ _ (by decide) (by decide) L9.hnd fun n H10 n0 n9 k10 d10=>?_⟩
  have L10:=L9.draw k10 d10
  clear L9 k10 d10 d9
  refine⟨_,rfl,by omega,by omega,?_⟩
  refine for_range (n:=n.toNat) (fun i σ' H'=>∃as dc kk x8 x9 x10 x11 x12 x13,σ'=[some (.ref a),some (.ref hd),some (.int ((m:Nat):Int)),some (.int sc),some (.int st),some (.ref as),some (.bl ofn),some (.ref p),x8,x9,x10,x11,x12,x13]∧LSt T.c_Keeper hd hl as dc p d kk kk H') ⟨as,dc,ks,none,none,none,none,none,none,rfl,L10⟩ ?_ ?_
  ·clear L10
   rintro i σ' H' hi ⟨as,dc,kk,x8,x9,x10,x11,x12,x13,rfl,L⟩
   refine⟨_,rfl,_,rfl,_,rfl,_,hd,hl,as,dc,kk,sc,9,rfl,L.hnd,(fun b hb=>hb),L.sta,L.ok,⟨by omega,by omega⟩,⟨by decide,by decide⟩,fun dd v H2 dok il tv k2 d2=>?_⟩
   have L2:=L.draw k2 d2
   refine⟨_,rfl,_,rfl,_,as,dc,kk,v,dd,rfl,L2.sta,by have:=L.few;omega,tv.any,dok,fun as' dc' H3 sa3 n3 s3=>?_⟩
   have kp3:=L2.kp.same s3
   have d3:=d2.same s3
   have L3:=L2.keep s3
   have ne3:dc'≠d:=fun z=>(kp_pd L2.kp).2.2 (by rw[←z];exact n3)
   refine⟨_,rfl,_,rfl,_,p,d,kk,v,dd,rfl,(fun b hb=>(d3.ne hb).1),kp3,(tv.any).keep s3,L.ok,L.low.tab.len,dok,fun r v4 k4 H4 po kp4 tv4 fr4 ap4=>?_⟩
   obtain⟨b,lb,rfl,rfl⟩:=po
   obtain⟨at1,ut,rfl,gat,et,tut⟩:=th_tup tv4
   obtain⟨vt1,vt2,rfl,tt1,tt2⟩:=ths2 tut
   obtain⟨l1,u1,rfl,gl1,el1,tu1⟩:=th_lst tt1
   obtain⟨l2,u2,rfl,gl2,el2,tu2⟩:=th_lst tt2
   have n12:=ap4.1 at1 l1 l2 rfl et
   have nl1:H3 l1=none:=lst_new kp4 fr4 gl1 el1
   have ok1:=aft_ok L.ok dok
   have kpB:KpAt (fun b=>b≠hd∧b≠l1) T.c_Keeper H4 p d { aftK kk dd with low:=b }:=kp_apt (kp_and kp4 ap4.2) fun c _ z _=>⟨z.1,fun e=>z.2 (by rw[e];exact .inr ⟨at1,_,rfl,et,List.mem_cons_self⟩)⟩
   have hdl:hd≠l1:=(d3.ne nl1).1.symm
   have hll:hl≠l1:=(d3.ne nl1).2.symm
   have sO:=stat_fr (stat_ne L3.sta nl1) kp3 L.ne fr4
   have sN:=stat_fr (stat_ne sa3 nl1) kp3 ne3 fr4
   have sNh:=stat_fr (sa3.mv (fun b o e _ _=>e) fun b hb=>(d2.ne hb).1) kp3 ne3 fr4
   have d4:=hd_fr d3 kp3 fr4
   have mt:(aftK kk dd).m=kk.m:=by cases dd <;> rfl
   have m2:=L.ok.m2
   have hlk:kk.low.length=kk.m:=L.low.tab.len
   have hlb:b.length=kk.m:=by rw[←mt];exact lb.tab.len
   have nb1:∀{Hx:Hp},Same H4 Hx→(∀b,Hx b=none→b≠l1)∧∀b xs,Hx b=some (.tup xs)→b≠l1:=fun s=>⟨(fun b hb z=>by rw[z,s _ _ el1] at hb;cases hb),fun b xs hb z=>by rw[z,s _ _ el1] at hb;cases hb⟩
   refine⟨_,rfl,_,as,dc,_,_,_,_,rfl,(nb1 fun _ _ e=>e).1,(nb1 fun _ _ e=>e).2,sO,L.ok,fun low5 v5 H5 lr5 tv5 s5=>?_⟩
   cases lr5.uniq L.low
   refine⟨_,rfl,_,as',dc',_,_,_,_,rfl,(nb1 s5).1,(nb1 s5).2,sN.same s5,ok1,fun low6 v6 H6 lr6 tv6 s6=>?_⟩
   cases lr6.uniq lb
   have s46:=s5.tr s6
   refine callF (F:=fun b=>b≠l1) (E:=E0) (nb1 s46) (fun d=>d=movD kk.low b) (.cons (tv5.keep s6) (.cons tv6 .nil)) ⟨kk.low,b,rfl,by rw[hlk,hlb],by rw[hlk];omega,rfl⟩ fun d7 v7 H7 hd7 tv7 s7=>?_
   subst hd7
   have s47:=s46.tr s7
   have LM:=LayN.mov kk.low b
   refine⟨fun σ' H'=>σ'=[some (.ref a),some (.ref hd),some (.int ((m:Nat):Int)),some (.int sc),some (.int st),some (.ref as),some (.bl ofn),some (.ref p),some (.int (0 + (i:Int))),some v,some (.ref as'),some (.ref at1),some v7,x13]∧H7=H',?_,?_⟩
   ·have tt:ThV TT0 H7 (.ref at1) (movD kk.low b):=.tup trivial (s47 _ _ et) (.cons (.lst trivial (s47 _ _ el1) (nums_any tu1)) (.cons (.lst trivial (s47 _ _ el2) (nums_any tu2)) .nil))
    refine⟨_,rfl,_,_,_,_,_,rfl,rfl,.tup (s47 _ _ et),ty_tuple (.tuple []) _ rfl,_,rfl,iteF ⟨_,rfl,_,rfl,_,_,ThV.dat tt LM.1,ThV.dat tv7 LM.1,LM.1,LM.1,LM.dep (by decide) _,_,rfl,?_⟩⟩
    rw[LM.same]
    exact iteF ⟨rfl,rfl⟩
   rintro σ' _ ⟨rfl,rfl⟩
   refine⟨_,rfl,at1,rfl,⟨_,SqT.of (s47 _ _ et)⟩,?_⟩
   refine for_tup (K:=K) (a:=at1) (xs:=[.ref l1,.ref l2]) (fun j σ' H'=>∃y13,σ'=[some (.ref a),some (.ref hd),some (.int ((m:Nat):Int)),some (.int sc),some (.int st),some (.ref as),some (.bl ofn),some (.ref p),some (.int (0 + (i:Int))),some v,some (.ref as'),some (.ref at1),some v7,y13]∧Same H7 H') ⟨x13,rfl,fun _ _ e=>e⟩ ?_ ?_ ?_
   ·rintro j σ' H' hj ⟨y13,rfl,s8⟩
    exact SqT.of (s8 _ _ (s47 _ _ et))
   ·rintro j x σ' H' hx ⟨y13,rfl,s8⟩
    obtain⟨l,ul,nl,rfl,el,tul⟩:∃(l:Addr) (ul:List V) (nl:List Nat),x=.ref l∧H4 l=some (.lst ul)∧(nl.length≤12∧ThVs TT0 H4 ul (numL nl)):=by
     match j,hx with
     | 0,hx=>cases hx;exact⟨l1,u1,_,rfl,el1,Nat.le_trans (List.length_filter_le _ _) (by rw[List.length_range,hlb];exact m2),nums_any tu1⟩
     | 1,hx=>cases hx;exact⟨l2,u2,_,rfl,el2,Nat.le_trans (List.length_filter_le _ _) (by rw[List.length_range,hlk];exact m2),nums_any tu2⟩
    obtain⟨hnl,tul⟩:=tul
    have lul:ul.length=nl.length:=by rw[tul.len];unfold numL;rw[List.length_map]
    have el8:=s8 _ _ (s47 _ _ el)
    refine⟨_,rfl,_,_,_,_,_,rfl,rfl,.lst el8,ty_list (.list []) _ rfl,_,rfl,iteF ?_⟩
    refine⟨_,rfl,l,rfl,⟨_,SqL.of el8⟩,?_⟩
    refine comp_list (xs:=ul) (fun q ys Hn=>Same H' Hn∧ys=(List.replicate q true).map V.bl) ?_ ⟨(fun _ _ e=>e),rfl⟩ ?_ ?_ ?_
    ·rw[lul,sizeLine_eq];omega
    ·rintro q ys Hn hq ⟨sn,rfl⟩
     refine⟨?_,SqL.of (sn _ _ el8)⟩
     rw[List.length_map,List.length_replicate];exact Nat.le_refl _
    ·rintro q y ys Hn hy ⟨sn,rfl⟩ ca
     obtain⟨d,hd',ty⟩:=ths_get tul hy
     unfold numL at hd'
     rw[List.getElem?_map] at hd'
     obtain⟨z,_,rfl⟩:=Option.map_eq_some_iff.mp hd'
     cases ty
     unfold tTrue
     refine iteT ⟨_,rfl,callT (E:=E0) (fun d=>d=.bool true) (.cons (.int _) .nil) ⟨_,rfl,rfl⟩ fun d v H9 hd9 t9 s9=>?_⟩
     subst hd9
     cases t9
     exact⟨sn.tr s9,by rw[List.replicate_succ',List.map_append];rfl⟩
    rintro ys Hn ⟨sn,rfl⟩ b2 hb2
    refine⟨b2,_,rfl,SqL.of upd_same,_,rfl,?_⟩
    rw[show (List.replicate ul.length true).all id=true by
     rw[List.all_eq_true];intro x hx;rw[(List.mem_replicate.mp hx).2];rfl]
    exact iteF ⟨_,rfl,(s8.tr sn).tr (Same.upd hb2)⟩
   rintro σ' H8 ⟨y13,rfl,s78⟩
   have s48:=s47.tr s78
   have e8l:=s48 _ _ el1
   have e8t:=s48 _ _ et
   have lu1:u1.length≤12:=by rw[(nums_any tu1:ThVs TT0 H4 u1 _).len];unfold numL;rw[List.length_map];exact Nat.le_trans (List.length_filter_le _ _) (by rw[List.length_range,hlb];exact m2)
   refine⟨_,rfl,.inr (.inl ⟨at1,_,0,_,rfl,rfl,SqT.of e8t,rfl,.inl ⟨rfl,_,SqL.of e8l⟩,l1,u1,_,rfl,rfl,e8l,by rw[sizeLine_eq];omega,?_⟩)⟩
   obtain⟨H9,hH9⟩:∃H9,H9=upd H8 l1 (.lst (u1++[.int 9])):=⟨_,rfl⟩
   rw[←hH9]
   have k9:∀b o,H8 b=some o→b≠l1→H9 b=some o:=fun b o e n=>by rw[hH9,upd_ne n];exact e
   have kp9:KpAt (fun b=>b≠hd) T.c_Keeper H9 p d { aftK kk dd with low:=b }:=by rw[hH9];exact kp_put (kpB.same s48) e8l
   have sa9:StAt (fun b=>b≠hd) H9 as' dc' (aftK kk dd).m (aftK kk dd).st (aftK kk dd).g (aftK kk dd).kws:=by rw[hH9];exact stat_put (sNh.same s48) (sN.same s48) e8l
   have d9:Hd H9 hd hl:=by
    obtain⟨ns,q,b,c,u,v,h1,h2,h3⟩:=d4.same s48
    exact⟨ns,q,b,c,u,v,k9 _ _ h1 hll,h2,k9 _ _ h3 hdl⟩
   have L9:LSt T.c_Keeper hd hl as' dc' p d { aftK kk dd with low:=b } { aftK kk dd with low:=b } H9:=⟨d9,sa9,kp9,ne3,ok1,aft_len dok il L.few,⟨rfl,rfl,rfl,List.Perm.refl _⟩,lb⟩
   obtain⟨at7,u7,rfl,g7,e7,tu7⟩:=th_tup tv7
   obtain⟨v71,v72,rfl,t71,t72⟩:=ths2 tu7
   obtain⟨l72,u72,rfl,g72,e72,tu72⟩:=th_lst t72
   have LN:=LayN.numL (blwF kk.low b)
   have n71:at7≠l1:=g7
   refine⟨fun σ' H'=>σ'=[some (.ref a),some (.ref hd),some (.int ((m:Nat):Int)),some (.int sc),some (.int st),some (.ref as),some (.bl ofn),some (.ref p),some (.int (0 + (i:Int))),some v,some (.ref as'),some (.ref at1),some (.ref at7),y13]∧H9=H',?_,?_⟩
   ·have nat1:at1≠l1:=fun z=>by rw[z,el1] at et;cases et
    have t1:ThV TT0 H9 (.ref l2) (.list (numL (blwF kk.low b))):=.lst trivial (k9 _ _ (s48 _ _ el2) (fun z=>n12 z.symm)) (nums_any tu2)
    have t2:ThV TT0 H9 (.ref l72) (.list (numL (blwF kk.low b))):=.lst trivial (k9 _ _ (s78 _ _ e72) g72) (nums_any tu72)
    refine⟨_,rfl,.inr (.inl ⟨at1,_,1,_,rfl,rfl,SqT.of (k9 _ _ e8t nat1),rfl,_,rfl,.inr (.inl ⟨at7,_,1,_,rfl,rfl,SqT.of (k9 _ _ (s78 _ _ e7) n71),rfl,_,_,ThV.dat t1 LN.1,ThV.dat t2 LN.1,LN.1,LN.1,LN.dep (by decide) _,_,rfl,?_⟩)⟩)⟩
    rw[LN.same]
    exact iteF ⟨rfl,rfl⟩
   rintro σ' _ ⟨rfl,rfl⟩
   refine⟨_,rfl,?_⟩
   clear nb1 sN sO sNh kpB tt1 tt2 tu1 tu2 tv4 tut
   unfold gName
   dsimp only[List.set]
   refine tIf_of (fun c Hx=>c=false∧LSt T.c_Keeper hd hl as' dc' p d { aftK kk dd with low:=b } { aftK kk dd with low:=b } Hx) (fun Qx hQ=>?_) (fun c Hx hc=>?_)
   ·cases ofn with
    | false=>exact⟨_,rfl,_,rfl,iteF (hQ false _ ⟨rfl,L9⟩)⟩
    | true=>
     refine⟨_,rfl,_,rfl,iteT ?_⟩
     refine⟨_,rfl,_,rfl,_,_,p,d,as',dc',_,rfl,(fun b hb=>(L9.hnd.ne hb).1),L9.kp,L9.sta,L9.ne,f64 L9,fun H10 ky fr=>⟨_,rfl,iteF ?_⟩⟩
     have L10:=L9.fr ky fr
     refine hL L10 fun low v1 v2 H11 t1 t2 L11=>⟨_,_,ThV.dat t1 (LayN.tab low).1,ThV.dat t2 (LayN.tab low).1,(LayN.tab low).1,(LayN.tab low).1,(LayN.tab low).dep (by decide) _,_,rfl,?_⟩
     rw[(LayN.tab low).same]
     exact hQ false _ ⟨rfl,L11⟩
   ·obtain⟨rfl,L10⟩:=hc
    exact iteF ⟨as',dc',_,_,_,_,_,_,_,rfl,L10⟩
  ·rintro σ' H' ⟨as,dc,kk,x8,x9,x10,x11,x12,x13,rfl,L⟩
   refine⟨_,rfl,_,rfl,_,_,p,d,as,dc,kk,rfl,(fun b hb=>(L.hnd.ne hb).1),L.kp,L.sta,L.ne,f64 L,fun H10 ky fr=>⟨_,rfl,iteT ?_⟩⟩
   have L10:=L.fr ky fr
   refine hL L10 fun low v1 v2 H11 t1 t2 L11=>⟨_,_,ThV.dat t1 (LayN.tab low).1,ThV.dat t2 (LayN.tab low).1,(LayN.tab low).1,(LayN.tab low).1,(LayN.tab low).dep (by decide) _,?_⟩
   rw[(LayN.tab low).same]
   exact told _
theorem all_mk {l:PySem.W.OpenLaw} {w:World} {K:PySem.W.Frag} {h:Heap} {mg:Str→Option Value} {fa:Addr} (X:K.In h) (G:h.Ns mainGlobals mg) (hfa:mg "law" = some (.ref fa))
  (h0:FH K "is_whole" s_is_whole)
  (h1:FH K "is_store" s_is_store)
  (h2:FH K "is_level" s_is_level)
  (h3:FH K "stepped" s_stepped)
  (h4:FH K "levels_along" s_levels_along)
  (h5:FH K "is_place" s_is_place)
  (h6:FH K "is_change" s_is_change)
  (h7:FH K "is_way" s_is_way)
  (h8:FH K "turned_land" s_turned_land)
  (h9:FH K "changes_of" s_changes_of)
  (h10:FH K "is_table" s_is_table)
  (h11:FH K "is_more" s_is_more)
  (h12:FH K "behind_way" s_behind_way)
  (h13:FH K "is_within" s_is_within)
  (h14:FH K "effect_of_none" s_effect_of_none)
  (h15:FH K "effect_of_one" s_effect_of_one)
  (h16:FH K "effect_of" s_effect_of)
  (h17:FH K "passed" s_passed)
  (h18:FH K "joined" s_joined)
  (h19:FH K "first_row" s_first_row)
  (h20:FH K "row_behind" s_row_behind)
  (h21:FH K "walk_to" s_walk_to)
  (h22:FH K "behind_ways" s_behind_ways)
  (h23:FH K "behind_part" s_behind_part)
  (h24:FH K "end_of" s_end_of)
  (h25:FH K "rows_from" s_rows_from)
  (h26:FH K "still_rises" s_still_rises)
  (h27:FH K "rising_walk" s_rising_walk)
  (h28:FH K "parted_at_round" s_parted_at_round)
  (h29:FH K "parts_by" s_parts_by)
  (h30:FH K "filling_parts" s_filling_parts)
  (h31:FH K "settled" s_settled)
  (h32:FH K "highest" s_highest)
  (h33:FH K "lacking" s_lacking)
  (h35:FH K "is_label" s_is_label)
  (h36:FH K "places_below" s_places_below)
  (h37:FH K "_law_hand" s_hand)
  (h38:FH K "_law_next" s_next)
  (h39:FH K "_law_take" s_take)
  (h40:FH K "_law_draw" s_draw)
  (h41:FH K "_law_change" s_change)
  (h42:FH K "_law_table" s_table)
  (h43:FH K "_law_is_whole" s_law_is_whole)
  (h44:FH K "_law_less" s_less)
  (h45:FH K "_law_own_least" s_own_least)
  (h46:FH K "_law_moved" s_moved)
  (h47:FH K "_law_state" s_state)
  (h48:FH K "_law_own_land" s_own_land)
  (h49:FH K "_law_deed" s_deed)
  (h50:FH K "_law_after" s_after)
  (h51:FH K "_law_do" s_do)
  (h52:FH K "_law_asked" s_asked)
  (h53:FH K "_law_own" s_own)
  {f34:Addr} {od34 an34:Option Addr} {sl34:Array (Option Value)} {oc34 kV34 dc34 pm34 cd34 ct34:Value} (a34:PySem.W.nsIn K mainGlobals "least" = some (some (.ref f34))) (l34:K.lookup f34=some ⟨oc34,od34,.func (PySem.W.fnOf "least" "least" (defArgs s_least) (defBody s_least) (defScope s_least) .none kV34 dc34 pm34 an34 cd34 ct34),sl34⟩) (c34:PySem.W.codeIn K cd34 "least" = true) (k34:PySem.W.keepIn K (.ref f34)=true)
  {f54:Addr} {od54 an54:Option Addr} {sl54:Array (Option Value)} {oc54 kV54 dc54 pm54 cd54 ct54:Value} (a54:PySem.W.nsIn K mainGlobals "law" = some (some (.ref f54))) (l54:K.lookup f54=some ⟨oc54,od54,.func (PySem.W.fnOf "law" "law" (defArgs s_law) (defBody s_law) (defScope s_law) .none kV54 dc54 pm54 an54 cd54 ct54),sl54⟩) (c54:PySem.W.codeIn K cd54 "law" = true) (k54:PySem.W.keepIn K (.ref f54)=true)
  {tk_MANY:Tok} (q_MANY:PySem.W.nsIn K mainGlobals "MANY" = some (some (.int 0 tk_MANY)))
  {tk_WAYS:Tok} (q_WAYS:PySem.W.nsIn K mainGlobals "WAYS" = some (some (.int 1 tk_WAYS)))
  {tk_START:Tok} (q_START:PySem.W.nsIn K mainGlobals "START" = some (some (.int 0 tk_START)))
  {tk_END:Tok} (q_END:PySem.W.nsIn K mainGlobals "END" = some (some (.int 1 tk_END)))
  {tk_CHANGE:Tok} (q_CHANGE:PySem.W.nsIn K mainGlobals "CHANGE" = some (some (.int 2 tk_CHANGE)))
  {tk_MOST_WAYS:Tok} (q_MOST_WAYS:PySem.W.nsIn K mainGlobals "MOST_WAYS" = some (some (.int 40 tk_MOST_WAYS)))
  {tk_LEAST:Tok} (q_LEAST:PySem.W.nsIn K mainGlobals "LEAST" = some (some (.int 0 tk_LEAST)))
  {tk_GAIN:Tok} (q_GAIN:PySem.W.nsIn K mainGlobals "GAIN" = some (some (.int 1 tk_GAIN)))
  {tk_TOP:Tok} (q_TOP:PySem.W.nsIn K mainGlobals "TOP" = some (some (.int 2 tk_TOP)))
  {tk_TABLE:Tok} (q_TABLE:PySem.W.nsIn K mainGlobals "TABLE" = some (some (.int 0 tk_TABLE)))
  {tk_RISEN:Tok} (q_RISEN:PySem.W.nsIn K mainGlobals "RISEN" = some (some (.int 1 tk_RISEN)))
  {tk_FROM:Tok} (q_FROM:PySem.W.nsIn K mainGlobals "FROM" = some (some (.int 0 tk_FROM)))
  {tk_BY:Tok} (q_BY:PySem.W.nsIn K mainGlobals "BY" = some (some (.int 1 tk_BY)))
  {tk_NUMBERS:Tok} (q_NUMBERS:PySem.W.nsIn K mainGlobals "NUMBERS" = some (some (.int 0 tk_NUMBERS)))
  {tk_TIMES:Tok} (q_TIMES:PySem.W.nsIn K mainGlobals "TIMES" = some (some (.int 1 tk_TIMES)))
  (z_abs:PySem.W.nsIn K mainGlobals "abs" = some none)
  (z_all:PySem.W.nsIn K mainGlobals "all" = some none)
  (z_bool:PySem.W.nsIn K mainGlobals "bool" = some none)
  (z_dict:PySem.W.nsIn K mainGlobals "dict" = some none)
  (z_enumerate:PySem.W.nsIn K mainGlobals "enumerate" = some none)
  (z_int:PySem.W.nsIn K mainGlobals "int" = some none)
  (z_isinstance:PySem.W.nsIn K mainGlobals "isinstance" = some none)
  (z_len:PySem.W.nsIn K mainGlobals "len" = some none)
  (z_list:PySem.W.nsIn K mainGlobals "list" = some none)
  (z_max:PySem.W.nsIn K mainGlobals "max" = some none)
  (z_min:PySem.W.nsIn K mainGlobals "min" = some none)
  (z_range:PySem.W.nsIn K mainGlobals "range" = some none)
  (z_reversed:PySem.W.nsIn K mainGlobals "reversed" = some none)
  (z_sorted:PySem.W.nsIn K mainGlobals "sorted" = some none)
  (z_tuple:PySem.W.nsIn K mainGlobals "tuple" = some none)
  (qal_least_least:PySem.W.nsIn K mainGlobals "least_least" = some (some (.ref f34)))
  {c_Keeper:Addr} (xa_Keeper:PySem.W.nsIn K mainGlobals "Keeper" = some (some (.ref c_Keeper))) (kpg:PySem.W.plainGet K c_Keeper Str.empty=true) (khd:PySem.W.hasDictIn K c_Keeper=true) (kpo:PySem.W.plainOver K c_Keeper=true) (ksa:PySem.W.findIn K (.ref c_Keeper) "__setattr__" = some (some (.builtin "object.__setattr__"))) (kmk:PySem.W.makesIn K c_Keeper=true) (kkc:PySem.W.keepIn K (.ref c_Keeper)=true) (kn_many:PySem.W.findIn K (.ref c_Keeper) "many" = some none) (kn_full:PySem.W.findIn K (.ref c_Keeper) "full" = some none) (kn_wanted:PySem.W.findIn K (.ref c_Keeper) "wanted" = some none) (kn_laid:PySem.W.findIn K (.ref c_Keeper) "laid" = some none) (kn_lowest:PySem.W.findIn K (.ref c_Keeper) "lowest" = some none)
  {mf_m_init:Addr} {mod_m_init man_m_init:Option Addr} {msl_m_init:Array (Option Value)} {moc_m_init mkV_m_init mdc_m_init mpm_m_init mcd_m_init mct_m_init:Value} (ma_m_init:PySem.W.findIn K (.ref c_Keeper) "__init__" = some (some (.ref mf_m_init))) (mi_m_init:PySem.W.isFn K (.ref mf_m_init)=true) (ml_m_init:K.lookup mf_m_init=some ⟨moc_m_init,mod_m_init,.func (PySem.W.fnOf "__init__" "Keeper.__init__" (defArgs s_m_init) (defBody s_m_init) (defScope s_m_init) .none mkV_m_init mdc_m_init mpm_m_init man_m_init mcd_m_init mct_m_init),msl_m_init⟩) (mc_m_init:PySem.W.codeIn K mcd_m_init "Keeper.__init__" = true) (mk_m_init:PySem.W.keepIn K (.ref mf_m_init)=true)
  {mf_m_lay:Addr} {mod_m_lay man_m_lay:Option Addr} {msl_m_lay:Array (Option Value)} {moc_m_lay mkV_m_lay mdc_m_lay mpm_m_lay mcd_m_lay mct_m_lay:Value} (ma_m_lay:PySem.W.findIn K (.ref c_Keeper) "lay" = some (some (.ref mf_m_lay))) (mi_m_lay:PySem.W.isFn K (.ref mf_m_lay)=true) (ml_m_lay:K.lookup mf_m_lay=some ⟨moc_m_lay,mod_m_lay,.func (PySem.W.fnOf "lay" "Keeper.lay" (defArgs s_m_lay) (defBody s_m_lay) (defScope s_m_lay) .none mkV_m_lay mdc_m_lay mpm_m_lay man_m_lay mcd_m_lay mct_m_lay),msl_m_lay⟩) (mc_m_lay:PySem.W.codeIn K mcd_m_lay "Keeper.lay" = true) (mk_m_lay:PySem.W.keepIn K (.ref mf_m_lay)=true)
  {mf_m_lift:Addr} {mod_m_lift man_m_lift:Option Addr} {msl_m_lift:Array (Option Value)} {moc_m_lift mkV_m_lift mdc_m_lift mpm_m_lift mcd_m_lift mct_m_lift:Value} (ma_m_lift:PySem.W.findIn K (.ref c_Keeper) "lift" = some (some (.ref mf_m_lift))) (mi_m_lift:PySem.W.isFn K (.ref mf_m_lift)=true) (ml_m_lift:K.lookup mf_m_lift=some ⟨moc_m_lift,mod_m_lift,.func (PySem.W.fnOf "lift" "Keeper.lift" (defArgs s_m_lift) (defBody s_m_lift) (defScope s_m_lift) .none mkV_m_lift mdc_m_lift mpm_m_lift man_m_lift mcd_m_lift mct_m_lift),msl_m_lift⟩) (mc_m_lift:PySem.W.codeIn K mcd_m_lift "Keeper.lift" = true) (mk_m_lift:PySem.W.keepIn K (.ref mf_m_lift)=true)
  {mf_m_turn:Addr} {mod_m_turn man_m_turn:Option Addr} {msl_m_turn:Array (Option Value)} {moc_m_turn mkV_m_turn mdc_m_turn mpm_m_turn mcd_m_turn mct_m_turn:Value} (ma_m_turn:PySem.W.findIn K (.ref c_Keeper) "turn" = some (some (.ref mf_m_turn))) (mi_m_turn:PySem.W.isFn K (.ref mf_m_turn)=true) (ml_m_turn:K.lookup mf_m_turn=some ⟨moc_m_turn,mod_m_turn,.func (PySem.W.fnOf "turn" "Keeper.turn" (defArgs s_m_turn) (defBody s_m_turn) (defScope s_m_turn) .none mkV_m_turn mdc_m_turn mpm_m_turn man_m_turn mcd_m_turn mct_m_turn),msl_m_turn⟩) (mc_m_turn:PySem.W.codeIn K mcd_m_turn "Keeper.turn" = true) (mk_m_turn:PySem.W.keepIn K (.ref mf_m_turn)=true)
  {mf_m_refill:Addr} {mod_m_refill man_m_refill:Option Addr} {msl_m_refill:Array (Option Value)} {moc_m_refill mkV_m_refill mdc_m_refill mpm_m_refill mcd_m_refill mct_m_refill:Value} (ma_m_refill:PySem.W.findIn K (.ref c_Keeper) "refill" = some (some (.ref mf_m_refill))) (mi_m_refill:PySem.W.isFn K (.ref mf_m_refill)=true) (ml_m_refill:K.lookup mf_m_refill=some ⟨moc_m_refill,mod_m_refill,.func (PySem.W.fnOf "refill" "Keeper.refill" (defArgs s_m_refill) (defBody s_m_refill) (defScope s_m_refill) .none mkV_m_refill mdc_m_refill mpm_m_refill man_m_refill mcd_m_refill mct_m_refill),msl_m_refill⟩) (mc_m_refill:PySem.W.codeIn K mcd_m_refill "Keeper.refill" = true) (mk_m_refill:PySem.W.keepIn K (.ref mf_m_refill)=true)
  {mf_m_aim:Addr} {mod_m_aim man_m_aim:Option Addr} {msl_m_aim:Array (Option Value)} {moc_m_aim mkV_m_aim mdc_m_aim mpm_m_aim mcd_m_aim mct_m_aim:Value} (ma_m_aim:PySem.W.findIn K (.ref c_Keeper) "aim" = some (some (.ref mf_m_aim))) (mi_m_aim:PySem.W.isFn K (.ref mf_m_aim)=true) (ml_m_aim:K.lookup mf_m_aim=some ⟨moc_m_aim,mod_m_aim,.func (PySem.W.fnOf "aim" "Keeper.aim" (defArgs s_m_aim) (defBody s_m_aim) (defScope s_m_aim) .none mkV_m_aim mdc_m_aim mpm_m_aim man_m_aim mcd_m_aim mct_m_aim),msl_m_aim⟩) (mc_m_aim:PySem.W.codeIn K mcd_m_aim "Keeper.aim" = true) (mk_m_aim:PySem.W.keepIn K (.ref mf_m_aim)=true)
  {mf_m_found:Addr} {mod_m_found man_m_found:Option Addr} {msl_m_found:Array (Option Value)} {moc_m_found mkV_m_found mdc_m_found mpm_m_found mcd_m_found mct_m_found:Value} (ma_m_found:PySem.W.findIn K (.ref c_Keeper) "found" = some (some (.ref mf_m_found))) (mi_m_found:PySem.W.isFn K (.ref mf_m_found)=true) (ml_m_found:K.lookup mf_m_found=some ⟨moc_m_found,mod_m_found,.func (PySem.W.fnOf "found" "Keeper.found" (defArgs s_m_found) (defBody s_m_found) (defScope s_m_found) .none mkV_m_found mdc_m_found mpm_m_found man_m_found mcd_m_found mct_m_found),msl_m_found⟩) (mc_m_found:PySem.W.codeIn K mcd_m_found "Keeper.found" = true) (mk_m_found:PySem.W.keepIn K (.ref mf_m_found)=true)
  {mf_m_moved:Addr} {mod_m_moved man_m_moved:Option Addr} {msl_m_moved:Array (Option Value)} {moc_m_moved mkV_m_moved mdc_m_moved mpm_m_moved mcd_m_moved mct_m_moved:Value} (ma_m_moved:PySem.W.findIn K (.ref c_Keeper) "moved" = some (some (.ref mf_m_moved))) (mi_m_moved:PySem.W.isFn K (.ref mf_m_moved)=true) (ml_m_moved:K.lookup mf_m_moved=some ⟨moc_m_moved,mod_m_moved,.func (PySem.W.fnOf "moved" "Keeper.moved" (defArgs s_m_moved) (defBody s_m_moved) (defScope s_m_moved) .none mkV_m_moved mdc_m_moved mpm_m_moved man_m_moved mcd_m_moved mct_m_moved),msl_m_moved⟩) (mc_m_moved:PySem.W.codeIn K mcd_m_moved "Keeper.moved" = true) (mk_m_moved:PySem.W.keepIn K (.ref mf_m_moved)=true)
  {mf_m_ways:Addr} {mod_m_ways man_m_ways:Option Addr} {msl_m_ways:Array (Option Value)} {moc_m_ways mkV_m_ways mdc_m_ways mpm_m_ways mcd_m_ways mct_m_ways:Value} (ma_m_ways:PySem.W.findIn K (.ref c_Keeper) "ways" = some (some (.ref mf_m_ways))) (mi_m_ways:PySem.W.isFn K (.ref mf_m_ways)=true) (ml_m_ways:K.lookup mf_m_ways=some ⟨moc_m_ways,mod_m_ways,.func (PySem.W.fnOf "ways" "Keeper.ways" (defArgs s_m_ways) (defBody s_m_ways) (defScope s_m_ways) .none mkV_m_ways mdc_m_ways mpm_m_ways man_m_ways mcd_m_ways mct_m_ways),msl_m_ways⟩) (mc_m_ways:PySem.W.codeIn K mcd_m_ways "Keeper.ways" = true) (mk_m_ways:PySem.W.keepIn K (.ref mf_m_ways)=true)
  {mf_m_store:Addr} {mod_m_store man_m_store:Option Addr} {msl_m_store:Array (Option Value)} {moc_m_store mkV_m_store mdc_m_store mpm_m_store mcd_m_store mct_m_store:Value} (ma_m_store:PySem.W.findIn K (.ref c_Keeper) "store" = some (some (.ref mf_m_store))) (mi_m_store:PySem.W.isFn K (.ref mf_m_store)=true) (ml_m_store:K.lookup mf_m_store=some ⟨moc_m_store,mod_m_store,.func (PySem.W.fnOf "store" "Keeper.store" (defArgs s_m_store) (defBody s_m_store) (defScope s_m_store) .none mkV_m_store mdc_m_store mpm_m_store man_m_store mcd_m_store mct_m_store),msl_m_store⟩) (mc_m_store:PySem.W.codeIn K mcd_m_store "Keeper.store" = true) (mk_m_store:PySem.W.keepIn K (.ref mf_m_store)=true)
  {mf_m_goal:Addr} {mod_m_goal man_m_goal:Option Addr} {msl_m_goal:Array (Option Value)} {moc_m_goal mkV_m_goal mdc_m_goal mpm_m_goal mcd_m_goal mct_m_goal:Value} (ma_m_goal:PySem.W.findIn K (.ref c_Keeper) "goal" = some (some (.ref mf_m_goal))) (mi_m_goal:PySem.W.isFn K (.ref mf_m_goal)=true) (ml_m_goal:K.lookup mf_m_goal=some ⟨moc_m_goal,mod_m_goal,.func (PySem.W.fnOf "goal" "Keeper.goal" (defArgs s_m_goal) (defBody s_m_goal) (defScope s_m_goal) .none mkV_m_goal mdc_m_goal mpm_m_goal man_m_goal mcd_m_goal mct_m_goal),msl_m_goal⟩) (mc_m_goal:PySem.W.codeIn K mcd_m_goal "Keeper.goal" = true) (mk_m_goal:PySem.W.keepIn K (.ref mf_m_goal)=true)
  {mf_m_land:Addr} {mod_m_land man_m_land:Option Addr} {msl_m_land:Array (Option Value)} {moc_m_land mkV_m_land mdc_m_land mpm_m_land mcd_m_land mct_m_land:Value} (ma_m_land:PySem.W.findIn K (.ref c_Keeper) "land" = some (some (.ref mf_m_land))) (mi_m_land:PySem.W.isFn K (.ref mf_m_land)=true) (ml_m_land:K.lookup mf_m_land=some ⟨moc_m_land,mod_m_land,.func (PySem.W.fnOf "land" "Keeper.land" (defArgs s_m_land) (defBody s_m_land) (defScope s_m_land) .none mkV_m_land mdc_m_land mpm_m_land man_m_land mcd_m_land mct_m_land),msl_m_land⟩) (mc_m_land:PySem.W.codeIn K mcd_m_land "Keeper.land" = true) (mk_m_land:PySem.W.keepIn K (.ref mf_m_land)=true)
  {mf_m_least:Addr} {mod_m_least man_m_least:Option Addr} {msl_m_least:Array (Option Value)} {moc_m_least mkV_m_least mdc_m_least mpm_m_least mcd_m_least mct_m_least:Value} (ma_m_least:PySem.W.findIn K (.ref c_Keeper) "least" = some (some (.ref mf_m_least))) (mi_m_least:PySem.W.isFn K (.ref mf_m_least)=true) (ml_m_least:K.lookup mf_m_least=some ⟨moc_m_least,mod_m_least,.func (PySem.W.fnOf "least" "Keeper.least" (defArgs s_m_least) (defBody s_m_least) (defScope s_m_least) .none mkV_m_least mdc_m_least mpm_m_least man_m_least mcd_m_least mct_m_least),msl_m_least⟩) (mc_m_least:PySem.W.codeIn K mcd_m_least "Keeper.least" = true) (mk_m_least:PySem.W.keepIn K (.ref mf_m_least)=true) :
  ∃fd:FuncData,(∀(s:Shared) (v:Value),BindsTo s fd ⟨[v],[]⟩ [("_law_script",v)])∧∀base:Heap,K.In base→base.Ns mainGlobals mg→FnOk l.prog w K mg base CX0 14 fa fd ["_law_script"] (spLaw K):=by
 have e:=hfa.symm.trans (PySem.W.mg_of X G a54)
 cases e
 obtain⟨t0⟩:=FT.of (ps:=["thing"]) X G h0 (fun _ _ _ _ _ _ us hl=>by obtain⟨_,rfl⟩:=usl1 hl;rfl)
 obtain⟨t1⟩:=FT.of (ps:=["thing"]) X G h1 (fun _ _ _ _ _ _ us hl=>by obtain⟨_,rfl⟩:=usl1 hl;rfl)
 obtain⟨t2⟩:=FT.of (ps:=["store", "thing"]) X G h2 (fun _ _ _ _ _ _ us hl=>by obtain⟨_,_,rfl⟩:=usl2 hl;rfl)
 obtain⟨t3⟩:=FT.of (ps:=["store", "level", "change"]) X G h3 (fun _ _ _ _ _ _ us hl=>by obtain⟨_,_,_,rfl⟩:=usl3 hl;rfl)
 obtain⟨t4⟩:=FT.of (ps:=["store", "level", "changes"]) X G h4 (fun _ _ _ _ _ _ us hl=>by obtain⟨_,_,_,rfl⟩:=usl3 hl;rfl)
 obtain⟨t5⟩:=FT.of (ps:=["many", "thing"]) X G h5 (fun _ _ _ _ _ _ us hl=>by obtain⟨_,_,rfl⟩:=usl2 hl;rfl)
 obtain⟨t6⟩:=FT.of (ps:=["thing"]) X G h6 (fun _ _ _ _ _ _ us hl=>by obtain⟨_,rfl⟩:=usl1 hl;rfl)
 obtain⟨t7⟩:=FT.of (ps:=["many", "thing"]) X G h7 (fun _ _ _ _ _ _ us hl=>by obtain⟨_,_,rfl⟩:=usl2 hl;rfl)
 obtain⟨t8⟩:=FT.of (ps:=["land"]) X G h8 (fun _ _ _ _ _ _ us hl=>by obtain⟨_,rfl⟩:=usl1 hl;rfl)
 obtain⟨t9⟩:=FT.of (ps:=["land", "numbers"]) X G h9 (fun _ _ _ _ _ _ us hl=>by obtain⟨_,_,rfl⟩:=usl2 hl;rfl)
 obtain⟨t10⟩:=FT.of (ps:=["many", "store", "thing"]) X G h10 (fun _ _ _ _ _ _ us hl=>by obtain⟨_,_,_,rfl⟩:=usl3 hl;rfl)
 obtain⟨t11⟩:=FT.of (ps:=["one", "other"]) X G h11 (fun _ _ _ _ _ _ us hl=>by obtain⟨_,_,rfl⟩:=usl2 hl;rfl)
 obtain⟨t12⟩:=FT.of (ps:=["store", "table", "way"]) X G h12 (fun _ _ _ _ _ _ us hl=>by obtain⟨_,_,_,rfl⟩:=usl3 hl;rfl)
 obtain⟨t13⟩:=FT.of (ps:=["level", "bound"]) X G h13 (fun _ _ _ _ _ _ us hl=>by obtain⟨_,_,rfl⟩:=usl2 hl;rfl)
 obtain⟨t14⟩:=FT.of (ps:=["store"]) X G h14 (fun _ _ _ _ _ _ us hl=>by obtain⟨_,rfl⟩:=usl1 hl;rfl)
 obtain⟨t15⟩:=FT.of (ps:=["store", "change"]) X G h15 (fun _ _ _ _ _ _ us hl=>by obtain⟨_,_,rfl⟩:=usl2 hl;rfl)
 obtain⟨t16⟩:=FT.of (ps:=["store", "changes"]) X G h16 (fun _ _ _ _ _ _ us hl=>by obtain⟨_,_,rfl⟩:=usl2 hl;rfl)
 obtain⟨t17⟩:=FT.of (ps:=["effect", "level"]) X G h17 (fun _ _ _ _ _ _ us hl=>by obtain⟨_,_,rfl⟩:=usl2 hl;rfl)
 obtain⟨t18⟩:=FT.of (ps:=["one", "other"]) X G h18 (fun _ _ _ _ _ _ us hl=>by obtain⟨_,_,rfl⟩:=usl2 hl;rfl)
 obtain⟨t19⟩:=FT.of (ps:=["table"]) X G h19 (fun _ _ _ _ _ _ us hl=>by obtain⟨_,rfl⟩:=usl1 hl;rfl)
 obtain⟨t20⟩:=FT.of (ps:=["land", "store", "table", "stayed"]) X G h20 (fun _ _ _ _ _ _ us hl=>by obtain⟨_,_,_,_,rfl⟩:=usl4 hl;rfl)
 obtain⟨t21⟩:=FT.of (ps:=["land", "rows", "place"]) X G h21 (fun _ _ _ _ _ _ us hl=>by obtain⟨_,_,_,rfl⟩:=usl3 hl;rfl)
 obtain⟨t22⟩:=FT.of (ps:=["land", "place", "numbers"]) X G h22 (fun _ _ _ _ _ _ us hl=>by obtain⟨_,_,_,rfl⟩:=usl3 hl;rfl)
 obtain⟨t23⟩:=FT.of (ps:=["land", "place", "part"]) X G h23 (fun _ _ _ _ _ _ us hl=>by obtain⟨_,_,_,rfl⟩:=usl3 hl;rfl)
 obtain⟨t24⟩:=FT.of (ps:=["land", "place", "trip"]) X G h24 (fun _ _ _ _ _ _ us hl=>by obtain⟨_,_,_,rfl⟩:=usl3 hl;rfl)
 obtain⟨t25⟩:=FT.of (ps:=["land", "store", "table"]) X G h25 (fun _ _ _ _ _ _ us hl=>by obtain⟨_,_,_,rfl⟩:=usl3 hl;rfl)
 obtain⟨t26⟩:=FT.of (ps:=["land", "rows"]) X G h26 (fun _ _ _ _ _ _ us hl=>by obtain⟨_,_,rfl⟩:=usl2 hl;rfl)
 obtain⟨t27⟩:=FT.of (ps:=["land", "rows"]) X G h27 (fun _ _ _ _ _ _ us hl=>by obtain⟨_,_,rfl⟩:=usl2 hl;rfl)
 obtain⟨t28⟩:=FT.of (ps:=["land", "walk"]) X G h28 (fun _ _ _ _ _ _ us hl=>by obtain⟨_,_,rfl⟩:=usl2 hl;rfl)
 obtain⟨t29⟩:=FT.of (ps:=["numbers"]) X G h29 (fun _ _ _ _ _ _ us hl=>by obtain⟨_,rfl⟩:=usl1 hl;rfl)
 obtain⟨t30⟩:=FT.of (ps:=["land", "store", "level", "walk"]) X G h30 (fun _ _ _ _ _ _ us hl=>by obtain⟨_,_,_,_,rfl⟩:=usl4 hl;rfl)
 obtain⟨t31⟩:=FT.of (ps:=["land", "store", "base"]) X G h31 (fun _ _ _ _ _ _ us hl=>by obtain⟨_,_,_,rfl⟩:=usl3 hl;rfl)
 obtain⟨t32⟩:=FT.of (ps:=["land", "store", "base"]) X G h32 (fun _ _ _ _ _ _ us hl=>by obtain⟨_,_,_,rfl⟩:=usl3 hl;rfl)
 obtain⟨t33⟩:=FT.of (ps:=["store", "table"]) X G h33 (fun _ _ _ _ _ _ us hl=>by obtain⟨_,_,rfl⟩:=usl2 hl;rfl)
 obtain⟨t35⟩:=FT.of (ps:=["thing"]) X G h35 (fun _ _ _ _ _ _ us hl=>by obtain⟨_,rfl⟩:=usl1 hl;rfl)
 obtain⟨t36⟩:=FT.of (ps:=["table", "other"]) X G h36 (fun _ _ _ _ _ _ us hl=>by obtain⟨_,_,rfl⟩:=usl2 hl;rfl)
 obtain⟨t37⟩:=FT.of (ps:=["_law_script"]) X G h37 (fun _ _ _ _ _ _ us hl=>by obtain⟨_,rfl⟩:=usl1 hl;rfl)
 obtain⟨t38⟩:=FT.of (ps:=["_law_hand_here"]) X G h38 (fun _ _ _ _ _ _ us hl=>by obtain⟨_,rfl⟩:=usl1 hl;rfl)
 obtain⟨t39⟩:=FT.of (ps:=["_law_hand_here"]) X G h39 (fun _ _ _ _ _ _ us hl=>by obtain⟨_,rfl⟩:=usl1 hl;rfl)
 obtain⟨t40⟩:=FT.of (ps:=["_law_hand_here", "_law_many"]) X G h40 (fun _ _ _ _ _ _ us hl=>by obtain⟨_,_,rfl⟩:=usl2 hl;rfl)
 obtain⟨t41⟩:=FT.of (ps:=["_law_hand_here", "_law_scale"]) X G h41 (fun _ _ _ _ _ _ us hl=>by obtain⟨_,_,rfl⟩:=usl2 hl;rfl)
 obtain⟨t42⟩:=FT.of (ps:=["_law_hand_here", "_law_many", "_law_store"]) X G h42 (fun _ _ _ _ _ _ us hl=>by obtain⟨_,_,_,rfl⟩:=usl3 hl;rfl)
 obtain⟨t43⟩:=FT.of (ps:=["_law_thing"]) X G h43 (fun _ _ _ _ _ _ us hl=>by obtain⟨_,rfl⟩:=usl1 hl;rfl)
 obtain⟨t44⟩:=FT.of (ps:=["_law_one", "_law_other"]) X G h44 (fun _ _ _ _ _ _ us hl=>by obtain⟨_,_,rfl⟩:=usl2 hl;rfl)
 obtain⟨t45⟩:=FT.of (ps:=["_law_land", "_law_store", "_law_goal"]) X G h45 (fun _ _ _ _ _ _ us hl=>by obtain⟨_,_,_,rfl⟩:=usl3 hl;rfl)
 obtain⟨t46⟩:=FT.of (ps:=["_law_old", "_law_new"]) X G h46 (fun _ _ _ _ _ _ us hl=>by obtain⟨_,_,rfl⟩:=usl2 hl;rfl)
 obtain⟨t47⟩:=FT.of (ps:=["_law_many", "_law_store", "_law_goal"]) X G h47 (fun _ _ _ _ _ _ us hl=>by obtain⟨_,_,_,rfl⟩:=usl3 hl;rfl)
 obtain⟨t48⟩:=FT.of (ps:=["_law_state_here"]) X G h48 (fun _ _ _ _ _ _ us hl=>by obtain⟨_,rfl⟩:=usl1 hl;rfl)
 obtain⟨t49⟩:=FT.of (ps:=["_law_hand_here", "_law_state_here", "_law_scale", "_law_most"]) X G h49 (fun _ _ _ _ _ _ us hl=>by obtain⟨_,_,_,_,rfl⟩:=usl4 hl;rfl)
 obtain⟨t50⟩:=FT.of (ps:=["_law_state_here", "_law_deed_here"]) X G h50 (fun _ _ _ _ _ _ us hl=>by obtain⟨_,_,rfl⟩:=usl2 hl;rfl)
 obtain⟨t51⟩:=FT.of (ps:=["_law_keeper", "_law_deed_here"]) X G h51 (fun _ _ _ _ _ _ us hl=>by obtain⟨_,_,rfl⟩:=usl2 hl;rfl)
 obtain⟨t52⟩:=FT.of (ps:=["_law_keeper", "_law_state_here"]) X G h52 (fun _ _ _ _ _ _ us hl=>by obtain⟨_,_,rfl⟩:=usl2 hl;rfl)
 obtain⟨t53⟩:=FT.of (ps:=["_law_state_here"]) X G h53 (fun _ _ _ _ _ _ us hl=>by obtain⟨_,rfl⟩:=usl1 hl;rfl)
 have Fx34:=fun_mk (st:=s_least) l34 c34 k34
 have Fl:=fun_mk (st:=s_law) l54 c54 k54
 let T:Txt K mg:={
  n_abs:=PySem.W.mg_none_of X G z_abs,
  n_all:=PySem.W.mg_none_of X G z_all,
  n_bool:=PySem.W.mg_none_of X G z_bool,
  n_dict:=PySem.W.mg_none_of X G z_dict,
  n_enumerate:=PySem.W.mg_none_of X G z_enumerate,
  n_int:=PySem.W.mg_none_of X G z_int,
  n_isinstance:=PySem.W.mg_none_of X G z_isinstance,
  n_len:=PySem.W.mg_none_of X G z_len,
  n_list:=PySem.W.mg_none_of X G z_list,
  n_max:=PySem.W.mg_none_of X G z_max,
  n_min:=PySem.W.mg_none_of X G z_min,
  n_range:=PySem.W.mg_none_of X G z_range,
  n_reversed:=PySem.W.mg_none_of X G z_reversed,
  n_sorted:=PySem.W.mg_none_of X G z_sorted,
  n_tuple:=PySem.W.mg_none_of X G z_tuple,
  al_least_least:=PySem.W.mg_of X G qal_least_least,
  c_Keeper:=c_Keeper,mg_Keeper:=PySem.W.mg_of X G xa_Keeper,cl_Keeper:=⟨kpg,khd,kpo,ksa⟩,na_many:=kn_many,na_full:=kn_full,na_wanted:=kn_wanted,na_laid:=kn_laid,na_lowest:=kn_lowest,
  a_m_init:=mf_m_init,d_m_init:=_,F_m_init:=fun_mk (st:=s_m_init) ml_m_init mc_m_init mk_m_init,me_m_init:=⟨ma_m_init,mi_m_init,mk_m_init⟩,
  a_m_lay:=mf_m_lay,d_m_lay:=_,F_m_lay:=fun_mk (st:=s_m_lay) ml_m_lay mc_m_lay mk_m_lay,me_m_lay:=⟨ma_m_lay,mi_m_lay,mk_m_lay⟩,
  a_m_lift:=mf_m_lift,d_m_lift:=_,F_m_lift:=fun_mk (st:=s_m_lift) ml_m_lift mc_m_lift mk_m_lift,me_m_lift:=⟨ma_m_lift,mi_m_lift,mk_m_lift⟩,
  a_m_turn:=mf_m_turn,d_m_turn:=_,F_m_turn:=fun_mk (st:=s_m_turn) ml_m_turn mc_m_turn mk_m_turn,me_m_turn:=⟨ma_m_turn,mi_m_turn,mk_m_turn⟩,
  a_m_refill:=mf_m_refill,d_m_refill:=_,F_m_refill:=fun_mk (st:=s_m_refill) ml_m_refill mc_m_refill mk_m_refill,me_m_refill:=⟨ma_m_refill,mi_m_refill,mk_m_refill⟩,
  a_m_aim:=mf_m_aim,d_m_aim:=_,F_m_aim:=fun_mk (st:=s_m_aim) ml_m_aim mc_m_aim mk_m_aim,me_m_aim:=⟨ma_m_aim,mi_m_aim,mk_m_aim⟩,
  a_m_found:=mf_m_found,d_m_found:=_,F_m_found:=fun_mk (st:=s_m_found) ml_m_found mc_m_found mk_m_found,me_m_found:=⟨ma_m_found,mi_m_found,mk_m_found⟩,
  a_m_moved:=mf_m_moved,d_m_moved:=_,F_m_moved:=fun_mk (st:=s_m_moved) ml_m_moved mc_m_moved mk_m_moved,me_m_moved:=⟨ma_m_moved,mi_m_moved,mk_m_moved⟩,
  a_m_ways:=mf_m_ways,d_m_ways:=_,F_m_ways:=fun_mk (st:=s_m_ways) ml_m_ways mc_m_ways mk_m_ways,me_m_ways:=⟨ma_m_ways,mi_m_ways,mk_m_ways⟩,
  a_m_store:=mf_m_store,d_m_store:=_,F_m_store:=fun_mk (st:=s_m_store) ml_m_store mc_m_store mk_m_store,me_m_store:=⟨ma_m_store,mi_m_store,mk_m_store⟩,
  a_m_goal:=mf_m_goal,d_m_goal:=_,F_m_goal:=fun_mk (st:=s_m_goal) ml_m_goal mc_m_goal mk_m_goal,me_m_goal:=⟨ma_m_goal,mi_m_goal,mk_m_goal⟩,
  a_m_land:=mf_m_land,d_m_land:=_,F_m_land:=fun_mk (st:=s_m_land) ml_m_land mc_m_land mk_m_land,me_m_land:=⟨ma_m_land,mi_m_land,mk_m_land⟩,
  a_m_least:=mf_m_least,d_m_least:=_,F_m_least:=fun_mk (st:=s_m_least) ml_m_least mc_m_least mk_m_least,me_m_least:=⟨ma_m_least,mi_m_least,mk_m_least⟩,
  mk_Keeper:=⟨kmk,ma_m_init,mi_m_init,kkc⟩,
  t_MANY:=tk_MANY,mg_MANY:=PySem.W.mg_of X G q_MANY,
  t_WAYS:=tk_WAYS,mg_WAYS:=PySem.W.mg_of X G q_WAYS,
  t_START:=tk_START,mg_START:=PySem.W.mg_of X G q_START,
  t_END:=tk_END,mg_END:=PySem.W.mg_of X G q_END,
  t_CHANGE:=tk_CHANGE,mg_CHANGE:=PySem.W.mg_of X G q_CHANGE,
  t_MOST_WAYS:=tk_MOST_WAYS,mg_MOST_WAYS:=PySem.W.mg_of X G q_MOST_WAYS,
  t_LEAST:=tk_LEAST,mg_LEAST:=PySem.W.mg_of X G q_LEAST,
  t_GAIN:=tk_GAIN,mg_GAIN:=PySem.W.mg_of X G q_GAIN,
  t_TOP:=tk_TOP,mg_TOP:=PySem.W.mg_of X G q_TOP,
  t_TABLE:=tk_TABLE,mg_TABLE:=PySem.W.mg_of X G q_TABLE,
  t_RISEN:=tk_RISEN,mg_RISEN:=PySem.W.mg_of X G q_RISEN,
  t_FROM:=tk_FROM,mg_FROM:=PySem.W.mg_of X G q_FROM,
  t_BY:=tk_BY,mg_BY:=PySem.W.mg_of X G q_BY,
  t_NUMBERS:=tk_NUMBERS,mg_NUMBERS:=PySem.W.mg_of X G q_NUMBERS,
  t_TIMES:=tk_TIMES,mg_TIMES:=PySem.W.mg_of X G q_TIMES,
  f_is_whole:=t0,
  f_is_store:=t1,
  f_is_level:=t2,
  f_stepped:=t3,
  f_levels_along:=t4,
  f_is_place:=t5,
  f_is_change:=t6,
  f_is_way:=t7,
  f_turned_land:=t8,
  f_changes_of:=t9,
  f_is_table:=t10,
  f_is_more:=t11,
  f_behind_way:=t12,
  f_is_within:=t13,
  f_effect_of_none:=t14,
  f_effect_of_one:=t15,
  f_effect_of:=t16,
  f_passed:=t17,
  f_joined:=t18,
  f_first_row:=t19,
  f_row_behind:=t20,
  f_walk_to:=t21,
  f_behind_ways:=t22,
  f_behind_part:=t23,
  f_end_of:=t24,
  f_rows_from:=t25,
  f_still_rises:=t26,
  f_rising_walk:=t27,
  f_parted_at_round:=t28,
  f_parts_by:=t29,
  f_filling_parts:=t30,
  f_settled:=t31,
  f_highest:=t32,
  f_lacking:=t33,
  f_least:=⟨f34,_,Fx34,PySem.W.mg_of X G a34,Fx34.binds (fun _ _ _ _ _ _ us hl=>by obtain⟨_,_,_,rfl⟩:=usl3 hl;rfl)⟩,
  f_is_label:=t35,
  f_places_below:=t36,
  f_hand:=t37,
  f_next:=t38,
  f_take:=t39,
  f_draw:=t40,
  f_change:=t41,
  f_table:=t42,
  f_law_is_whole:=t43,
  f_less:=t44,
  f_own_least:=t45,
  f_moved:=t46,
  f_state:=t47,
  f_own_land:=t48,
  f_deed:=t49,
  f_after:=t50,
  f_do:=t51,
  f_asked:=t52,
  f_own:=t53,
  f_law:=⟨fa,_,Fl,hfa,Fl.binds (fun _ _ _ _ _ _ us hl=>by obtain⟨_,rfl⟩:=usl1 hl;rfl)⟩ }
 exact⟨PySem.W.fnOf "law" "law" (defArgs s_law) (defBody s_law) (defScope s_law) .none kV54 dc54 pm54 an54 cd54 ct54,fun s v=>.of_eq rfl,fun base _ _=>ok_law T⟩
end
theorem walk {l:PySem.W.OpenLaw} {q:Program} {loose:List Str} {XP:(Str→Option Value)→Heap→Prop} {YP:World→Heap→Prop} {d:DefRec} {K:Params→PySem.W.Frag} (hn:l.most=some 63) (hdf:d.params.defaults=[])
  (hY:∀(w:World) (h:Heap),YP w h→(K w.params).In h)
  (F:∀(w:World) (mg:Str→Option Value) (fa:Addr) (h:Heap),(K w.params).In h→h.Ns mainGlobals mg→mg d.name=some (.ref fa)→
   ∃fd:FuncData,(∀(s:Shared) (u:Value),BindsTo s fd ⟨[u],[]⟩ [("_law_script",u)])∧∀base:Heap,(K w.params).In base→base.Ns mainGlobals mg→FnOk l.prog w (K w.params) mg base CX0 14 fa fd ["_law_script"] (spLaw (K w.params))) :
  PySem.W.WalkO q loose XP YP l.row.toRowW d [] (fun f vs=>PySem.call f vs):=
 L2.walk_of (n:=63) (k:=14) (x:= "_law_script") (CX:=fun _=>CX0) (sp:=fun w=>spLaw (K w.params)) hn (by decide) hdf ⟨rfl,by decide,by decide,rfl⟩ hY F (fun _ _ a ns hl _ hS=>⟨a,ns,rfl,hS,hl,fun _=>rfl⟩) fun _ _ _ _ _ z=>z
end My
structure PySem.W.Fast:Prop where(tw560684391301920742 tw14664396581768369651 tw3324645587922709939 tw8797088900777267189 tw10600254422330852602 tw8599018416337203289 tw3922995441986953230 tw7929170299214487554 tw6760859764205270865 tw12100865537109668985 tw16151965492211724194 tw11695076259812314433 tw6478311684101977249 tw15800671063722268938 tw6580997130768012678 tw15488908299714328433 tw14159418336912521915 tw18037084361676637242 tw982510390479114250 tw3655832888958738727 tw15230159363450645273 tw15501542876638764148 tw9481200582843475090 tw6237637214679003003 tw6052911298531972223 tw10857953646989978909 tw1215407868475478002 tw9608985141587213233 tw16544323674201777912 tw8921018735704589629 tw13265173066689962036 tw2508846266789393915 tw5032582610538286592 tw2783247868885823070 tw17957500888294285361 tw15697578381859310891 tw4789341083361798868 tw5725499201227902620 tw1436179543824795740 tw3350982384237021332 tw16583601765114122519 tw8891068107717020272 tw13763852834748021975 tw11072422233791729212 tw18088805262806653964 tw8948294239097373460 tw7553568541903654207 tw16351139723718290908 tw11376647875197143569 tw10900382574240194010 tw6428378339538322902 tw13693091095712639072 tw4499028314832710392 tw3378638794788165623 tw12094037200605207736 tw13450462230107196126 tw3126495976967296691 tw2732376918166235873 tw15157958823078818325 tw12171319346992061852 tw11847935633430241545 tw17888280709195796268 tw11267506380608062296 tw15614853426783204005 tw510069810600203574 tw190088953080131729 tw3555758729613509836 tw12088369502692907954 tw10487101376023080037 tw1106252125272579244 tw1623202882927431467 tw7820020593673784642 tw3103656196224076587 tw15808812606985942496 tw8395317982196008403 tw10270531726595842919 tw3115241096934089980 tw6453716819805992495 tw14685919601203091467 tw6852121049251196953 tw7435052498809527780 tw393576170493049728 tw2902286167534641804 tw9852557729305378496 tw1099241616779483027 tw15274420451602469765 tw16695722835012878243 tw5702135712086465683 tw10253652980177361260 tw8605371004348079178 tw211313722952162120 tw7102546003713394073 tw8726630724694466456 tw3102676560509237923 tw14992068037245262898 tw17202638060573688383 tw9864315415829148433 tw10955736358379790960 tw4206457664969620502 tw10072054008245824305 tw6514350210916753004 tw12365803762914080459 tw16676296754809365283 tw3216414802919257013 tw9241541752912608549 tw11254341066634867304 tw2418792818857710800 tw652726566357893082 tw3115202395115587011 tw16463967628796592894 tw14096454232398082656 tw1962121120023657851 tw11955734306968626536 tw14759923221020112373 tw3210773351888535927 tw3788186312563407422 tw4184835252450195792 tw12298942109165796899 tw12391147568426777696 tw4759806273590009349 tw16173762918864874880 tw9344682497576139722 tw15800724017855382975 tw13261153116614641868 tw4108823868107840279 tw17279206360942743700 tw11951569487458960222 tw1181900413705471196 tw4265794771957252298 tw18415014378905705418 tw866067093014253375 tw11525336733136711125 tw6479833395583393672 tw12188579235720302127 tw1155752517766838953 tw17171643560183331439 tw6416973488351265454 tw17495368070046642614 tw12084114542399038127 tw8734776513091448295 tw12414620386734574029 tw16155796079268278777 tw12574567286850484835 tw15789181851047239431 tw5527979323199246993 tw226053200894241421 tw10292822900862131539 tw885927672875134561 tw8807737085014427151 tw5325445863730424769 tw5258744656979919006 tw17057358172288335743 tw7796699319808556031 tw164176267851569548 tw7029844821098702963 tw17517920391720222881 tw3428930263114412431 tw6191137860376878761 tw12075333457405019085 tw5782489617943123566 tw16005423180381273110 tw14553528428062358035 tw9716939093420287980 tw13413631771840239484 tw12801370590369005453 tw13125498834296010187 tw7687614994697149566 tw8539879232050795022 tw2719293614622588564 tw12474070173791443352 tw5153680313722079732 tw9904697960780334830 tw10992915137747167113 tw12206113116648646103 tw1806020694843075742 tw7240686041996982379 tw9837636156375354905 tw17908410433372660813 tw5291784268895865967 tw17160216277527558220 tw13388037522501302387 tw10432360937648581530 tw13205264784923995757 tw7601195341453768956 tw6372348630412639607 tw17614293304103906464 tw16171255925458021627 tw10824314043059911989 tw17777225943404733238 tw2727941101262546774 tw4244834575043178631 tw14586981914434860440 tw12893480489664210618 tw12271406659932541274 tw16036318998420468956 tw14385310130731203674 tw1651083804504385091 tw18292771313167713918 tw8892369738374936605 tw9806438480730704287 tw908736779081757962 tw17018706602057664763 tw15650897158274564441 tw2966500229116996610 tw17088906372873225094 tw4916937475368935581 tw15790843544926701388 tw9055685793133989685 tw9049521536517234774 tw1321114614682316333 tw14167403227976820318 tw5919753213499325074 tw15085839463718800689 tw854792851308711715 tw2651759346334004759 tw5549696232546421631 tw12916050123103999406 tw11365474284377992436 tw18059762467022322336 tw13774568120867866636 tw15766849615881117777 tw14751564785898060728 tw13971840931204617407 tw12688420802467363923 tw5487128673295996835 tw2605109168790043376 tw3585042010309882103 tw3001611907489862320 tw7415271177689659759 tw16389639696247370757 tw9793056658483879816 tw14707187807522038263 tw185265507351230810 tw3794511835264691114 tw1456332596106044193 tw11925919262114925633 tw62594482310410116 tw14540236144308265974 tw16826779448254240477 tw4182342209491639133 tw14652723870129677302 tw7995080903695930933 tw16416972812301771999 tw13596448587563707308 tw14305036148678864608 tw15386670734631131595 tw7081723887241926723 tw17724493108891995479 tw11695133571992219039 tw1304024562072474669 tw16252108255059565616 tw10145429914155322673 tw2636018446875518550 tw12226506010225175472 tw14368111456348339519 tw10332673290368116935 tw2011692217373941654 tw13108221720081309369 tw18215423216140337673 tw6257036833922740722 tw15271890784829231815 tw3623636117202674587 tw3217352398339519174 tw799354519336121097 tw5165170526849247611 tw16278400770538958559 tw12607037310703172609 tw16146317340516853112 tw17955152558823866339 tw16021417494376583698 tw11515068012978608322 tw449698435254780441 tw11493429416892992635 tw11527331183212900352 tw11638184391441778467 tw8551692341964965249 tw4865552746654757042 tw16866549038152433625 tw9058639032212883876 tw7382228359985253421 tw7696575504216089151 tw8831028804167082458 tw7214113257306804511 tw8281959614731592123 tw5444607979659091601 tw5164101792473001541 tw15256001888873899469 tw13874932225917464252 tw165127500196851244 tw16768765370708611114 tw6462749825773767558 tw2894671477273591983 tw6068199601355600212 tw13318145978665874283 tw10082310352384423138 tw16476695479911005046 tw8827655393424866200 tw333409196780474739 tw14121797963511426981 tw9295214962210134741:True)
open PySem PySem.W PyProof.Rows
set_option maxRecDepth 100000 in
set_option maxHeartbeats 0 in
theorem PySem.Challenge.cw_trudge_k91_deeds_told_holds : PySem.Challenge.rw_trudge_k91_deeds_told.Holds := by
 w_on;o_law;k_head;(case hw=>w_witness2)
 k_fill
 refine My.walk (l:=PySem.Challenge.rw_trudge_k91_deeds_told) rfl rfl (fun w h Y=>PySem.W.kIn_of Y) ?F
 case F=>
  intro w mg fa h KX G hmg
  refine' My.all_mk KX G hmg ?h0 ?h1 ?h2 ?h3 ?h4 ?h5 ?h6 ?h7 ?h8 ?h9 ?h10 ?h11 ?h12 ?h13 ?h14 ?h15 ?h16 ?h17 ?h18 ?h19 ?h20 ?h21 ?h22 ?h23 ?h24 ?h25 ?h26 ?h27 ?h28 ?h29 ?h30 ?h31 ?h32 ?h33 ?h35 ?h36 ?h37 ?h38 ?h39 ?h40 ?h41 ?h42 ?h43 ?h44 ?h45 ?h46 ?h47 ?h48 ?h49 ?h50 ?h51 ?h52 ?h53 ?a34 ?l34 ?c34 ?k34 ?a54 ?l54 ?c54 ?k54 ?q_MANY ?q_WAYS ?q_START ?q_END ?q_CHANGE ?q_MOST_WAYS ?q_LEAST ?q_GAIN ?q_TOP ?q_TABLE ?q_RISEN ?q_FROM ?q_BY ?q_NUMBERS ?q_TIMES ?z_abs ?z_all ?z_bool ?z_dict ?z_enumerate ?z_int ?z_isinstance ?z_len ?z_list ?z_max ?z_min ?z_range ?z_reversed ?z_sorted ?z_tuple ?qal_least_least ?xa_Keeper ?kpg ?khd ?kpo ?ksa ?kmk ?kkc ?kn_many ?kn_full ?kn_wanted ?kn_laid ?kn_lowest ?ma_m_init ?mi_m_init ?ml_m_init ?mc_m_init ?mk_m_init ?ma_m_lay ?mi_m_lay ?ml_m_lay ?mc_m_lay ?mk_m_lay ?ma_m_lift ?mi_m_lift ?ml_m_lift ?mc_m_lift ?mk_m_lift ?ma_m_turn ?mi_m_turn ?ml_m_turn ?mc_m_turn ?mk_m_turn ?ma_m_refill ?mi_m_refill ?ml_m_refill ?mc_m_refill ?mk_m_refill ?ma_m_aim ?mi_m_aim ?ml_m_aim ?mc_m_aim ?mk_m_aim ?ma_m_found ?mi_m_found ?ml_m_found ?mc_m_found ?mk_m_found ?ma_m_moved ?mi_m_moved ?ml_m_moved ?mc_m_moved ?mk_m_moved ?ma_m_ways ?mi_m_ways ?ml_m_ways ?mc_m_ways ?mk_m_ways ?ma_m_store ?mi_m_store ?ml_m_store ?mc_m_store ?mk_m_store ?ma_m_goal ?mi_m_goal ?ml_m_goal ?mc_m_goal ?mk_m_goal ?ma_m_land ?mi_m_land ?ml_m_land ?mc_m_land ?mk_m_land ?ma_m_least ?mi_m_least ?ml_m_least ?mc_m_least ?mk_m_least
  all_goals try (exact⟨_,by k_is,_,⟨_,_,_,_,_,_,_,_,_,rfl,by k_is,by k_is⟩,by k_is⟩)
  (case a34=>k_is);(case l34=>k_is);(case c34=>k_is);(case k34=>k_is);(case a54=>k_is);(case l54=>k_is);(case c54=>k_is);(case k54=>k_is)
  (case q_MANY=>k_is);(case q_WAYS=>k_is);(case q_START=>k_is);(case q_END=>k_is);(case q_CHANGE=>k_is);(case q_MOST_WAYS=>k_is);(case q_LEAST=>k_is);(case q_GAIN=>k_is);(case q_TOP=>k_is);(case q_TABLE=>k_is);(case q_RISEN=>k_is);(case q_FROM=>k_is);(case q_BY=>k_is);(case q_NUMBERS=>k_is);(case q_TIMES=>k_is)
  (case z_abs=>k_is);(case z_all=>k_is);(case z_bool=>k_is);(case z_dict=>k_is);(case z_enumerate=>k_is);(case z_int=>k_is);(case z_isinstance=>k_is);(case z_len=>k_is);(case z_list=>k_is);(case z_max=>k_is);(case z_min=>k_is);(case z_range=>k_is);(case z_reversed=>k_is);(case z_sorted=>k_is);(case z_tuple=>k_is)
  (case qal_least_least=>k_is);(case xa_Keeper=>k_is);(case kpg=>k_is);(case khd=>k_is);(case kpo=>k_is);(case ksa=>k_is);(case kmk=>k_is);(case kkc=>k_is);(case kn_many=>k_is);(case kn_full=>k_is);(case kn_wanted=>k_is);(case kn_laid=>k_is);(case kn_lowest=>k_is);(case ma_m_init=>k_is);(case mi_m_init=>k_is);(case ml_m_init=>k_is);(case mc_m_init=>k_is);(case mk_m_init=>k_is);(case ma_m_lay=>k_is);(case mi_m_lay=>k_is);(case ml_m_lay=>k_is);(case mc_m_lay=>k_is);(case mk_m_lay=>k_is);(case ma_m_lift=>k_is);(case mi_m_lift=>k_is);(case ml_m_lift=>k_is);(case mc_m_lift=>k_is);(case mk_m_lift=>k_is);(case ma_m_turn=>k_is);(case mi_m_turn=>k_is);(case ml_m_turn=>k_is);(case mc_m_turn=>k_is);(case mk_m_turn=>k_is);(case ma_m_refill=>k_is);(case mi_m_refill=>k_is);(case ml_m_refill=>k_is);(case mc_m_refill=>k_is);(case mk_m_refill=>k_is);(case ma_m_aim=>k_is);(case mi_m_aim=>k_is);(case ml_m_aim=>k_is);(case mc_m_aim=>k_is);(case mk_m_aim=>k_is);(case ma_m_found=>k_is);(case mi_m_found=>k_is);(case ml_m_found=>k_is);(case mc_m_found=>k_is);(case mk_m_found=>k_is);(case ma_m_moved=>k_is);(case mi_m_moved=>k_is);(case ml_m_moved=>k_is);(case mc_m_moved=>k_is);(case mk_m_moved=>k_is);(case ma_m_ways=>k_is);(case mi_m_ways=>k_is);(case ml_m_ways=>k_is);(case mc_m_ways=>k_is);(case mk_m_ways=>k_is);(case ma_m_store=>k_is);(case mi_m_store=>k_is);(case ml_m_store=>k_is);(case mc_m_store=>k_is);(case mk_m_store=>k_is);(case ma_m_goal=>k_is);(case mi_m_goal=>k_is);(case ml_m_goal=>k_is);(case mc_m_goal=>k_is);(case mk_m_goal=>k_is);(case ma_m_land=>k_is);(case mi_m_land=>k_is);(case ml_m_land=>k_is);(case mc_m_land=>k_is);(case mk_m_land=>k_is);(case ma_m_least=>k_is);(case mi_m_least=>k_is);(case ml_m_least=>k_is);(case mc_m_least=>k_is);(case mk_m_least=>k_is)
