import PyProof.Rows.All
import Wide.All
import OpenK.AllK
import Wide.FinOn
import Lean
import PyProof.EqAt
import PyProof.EqKinds
import PyProof.NeData
import PyProof.TupleCall
import KE.KRevIter
import KE.KRevSl
import PyProof.MinMaxWalk
import PyProof.ZipIter
import PyProof.Rows.Range3
import PyProof.Rows.CallKwBuiltin
import PyProof.DictWalks
import PyProof.ReprRoads
import PyProof.ReprLen
import PyProof.CallFns
import PyProof.Rows.SortWalk
import PySem.Challenge.RW_trudge_k85_needs_small
set_option Elab.async false
set_option linter.all false
set_option maxRecDepth 100000
set_option genInjectivity false
set_option genSizeOf false
namespace L2
open PySem PySem.Spec PyProof.Rows
theorem el3 {α β γ:Type} {R T K:α→β→γ→Prop} {p:Prop} (h:∃a b c,R a b c∧T a b c∧K a b c) (f:∀a b c,R a b c→T a b c→K a b c→p):p:=h.elim fun a h=>h.elim fun b h=>h.elim fun c h=>f a b c h.1 h.2.1 h.2.2
theorem el5 {α β:Type} {R T K:α→β→Prop} {p:Prop} (h:∃a b,R a b∧T a b∧K a b) (f:∀a b,R a b→T a b→K a b→p):p:=h.elim fun a h=>h.elim fun b h=>f a b h.1 h.2.1 h.2.2
theorem el2 {α:Type} {A B:α→Prop} {p:Prop} (h:∃a,A a∧B a) (f:∀a,A a→B a→p):p:=h.elim fun a h=>f a h.1 h.2
abbrev Key:=Sum Int Str
def keyIs:Key→Value→Bool
  | .inl k,v=>Value.isInt k v
  | .inr x,v=>Value.isStrOf x v
def keyH (w:World):Key→Int
  | .inl k=>hashInt k
  | .inr x=>hashStr w x
theorem keyIs_shape:∀{k:Key} {v:Value},keyIs k v=true→(∃i t,k=Sum.inl i∧v=Value.int i t)∨(∃x t,k=Sum.inr x∧v=Value.str x t)
  | .inl i,v,h=>by
    obtain⟨t,e⟩:=Value.isInt_shape (k:=i) (v:=v) h
    exact .inl ⟨i,t,rfl,e⟩
  | .inr x,v,h=>by
    obtain⟨t,e⟩:=Value.isStrOf_shape (x:=x) (v:=v) h
    exact .inr ⟨x,t,rfl,e⟩
theorem keyIs_int (i:Int) (t:Tok):keyIs (.inl i) (.int i t)=true:=by simp [keyIs,Value.isInt]
theorem keyIs_str (x:Str) (t:Tok):keyIs (.inr x) (.str x t)=true:=by simp [keyIs,Value.isStrOf]
theorem key_ll (a b:Int):decide ((Sum.inl a:Key)=Sum.inl b)=(a == b):=by
  by_cases e:a=b
  · subst e;simp
  · have h:¬ (Sum.inl a:Key)=Sum.inl b:=fun q=>e (Sum.inl.inj q)
    rw[decide_eq_false h]
    exact (beq_eq_false_iff_ne.mpr e).symm
theorem key_rr (a b:Str):decide ((Sum.inr a:Key)=Sum.inr b)=decide (a=b):=by
  by_cases e:a=b
  · subst e;simp
  · have h:¬ (Sum.inr a:Key)=Sum.inr b:=fun q=>e (Sum.inr.inj q)
    rw[decide_eq_false h,decide_eq_false e]
theorem key_lr (a:Int) (b:Str):decide ((Sum.inl a:Key)=Sum.inr b)=false:=decide_eq_false (fun q=>nomatch q)
theorem key_rl (a:Str) (b:Int):decide ((Sum.inr a:Key)=Sum.inl b)=false:=decide_eq_false (fun q=>nomatch q)
def mixKind (prog:Program) (w:World):PySem.KeyKind prog w Key where
  is:=keyIs
  hash:=keyH w
  inj:=fun v a b ha hb=>by
    rcases keyIs_shape ha with ⟨i,t,rfl,rfl⟩ | ⟨x,t,rfl,rfl⟩
    · rcases keyIs_shape hb with ⟨j,u,rfl,e⟩ | ⟨y,u,rfl,e⟩
      · injection e with e1 _;rw[e1]
      · exact nomatch e
    · rcases keyIs_shape hb with ⟨j,u,rfl,e⟩ | ⟨y,u,rfl,e⟩
      · exact nomatch e
      · injection e with e1 _;rw[e1]
  byValue:=fun k v h=>by
    rcases keyIs_shape h with ⟨i,t,rfl,rfl⟩ | ⟨x,t,rfl,rfl⟩ <;> rfl
  pyHash:=fun hv h=>by
    rcases keyIs_shape hv with ⟨i,t,rfl,rfl⟩ | ⟨x,t,rfl,rfl⟩
    · exact wpAny_pyHash_int h
    · exact wpAny_pyHash_str h
  eqBool:=fun hu hv h=>by
    rcases keyIs_shape hu with ⟨i,t,rfl,rfl⟩ | ⟨x,t,rfl,rfl⟩
    · rcases keyIs_shape hv with ⟨j,u,rfl,rfl⟩ | ⟨y,u,rfl,rfl⟩
      · rw[key_ll] at h;exact wpAny_eqBool_int h
      · rw[key_lr] at h;exact SeqAt.EqAt.int_str i t y u _ _ _ _ h
    · rcases keyIs_shape hv with ⟨j,u,rfl,rfl⟩ | ⟨y,u,rfl,rfl⟩
      · rw[key_rl] at h;exact SeqAt.EqAt.str_int x t j u _ _ _ _ h
      · rw[key_rr] at h;exact wpAny_eqBool_str h
  «strs»:=fun k x t v h=>by
    rcases keyIs_shape h with ⟨i,u,rfl,e⟩ | ⟨y,u,rfl,e⟩
    · exact nomatch e
    · injection e with e1 _
      subst e1
      cases v <;> rfl
theorem mixKind_int (prog:Program) (w:World) (i:Int) (t:Tok):(mixKind prog w).is (.inl i) (.int i t)=true:=keyIs_int i t
theorem mixKind_str (prog:Program) (w:World) (x:Str) (t:Tok):(mixKind prog w).is (.inr x) (.str x t)=true:=keyIs_str x t
set_option genInjectivity true in
inductive V where
  | non | bl (b:Bool) | int (i:Int) | str (x:Str) | byt (b:Array UInt8) | flt (b:UInt64) | ref (a:Addr) | ty (n:String)
  deriving DecidableEq
def RelV:V→Value→Prop
  | .non,u=>u=Value.none
  | .bl b,u=>u=Value.bool b
  | .int i,u=>∃t,u=Value.int i t
  | .str x,u=>∃t,u=Value.str x t
  | .byt b,u=>∃t,u=Value.bytes b t
  | .flt b,u=>∃t,u=Value.float b t
  | .ref a,u=>u=Value.ref a
  | .ty n,u=>u=Value.type n
abbrev Vals:List V→List Value→Prop:=Paired RelV
theorem Vals.length {xs:List V} {us:List Value} (r:Vals xs us):xs.length=us.length:=Paired.length r
theorem Vals.get:∀{xs:List V} {us:List Value} {i:Nat} {x:V},Vals xs us→xs[i]?=some x→∃u,us[i]?=some u∧RelV x u
  | _,_,_,_,.nil,e=>by simp at e
  | _,_,0,_,.cons r _,e=>by simp at e;subst e;exact⟨_,rfl,r⟩
  | _,_,i + 1,x,.cons _ t,e=>by
    obtain⟨u,h1,h2⟩:=Vals.get (i:=i) (x:=x) t (by simpa using e)
    exact⟨u,by simpa using h1,h2⟩
theorem Vals.set {x:V} {u:Value} (r:RelV x u):∀{xs:List V} {us:List Value} (i:Nat),Vals xs us→Vals (xs.set i x) (us.set i u)
  | _,_,_,.nil=>.nil
  | _,_,0,.cons _ t=>.cons r t
  | _,_,i + 1,.cons q t=>.cons q (Vals.set r i t)
theorem Vals.append {xs ys:List V} {us ws:List Value} (h:Vals xs us) (s:Vals ys ws):Vals (xs++ys) (us++ws):=by
  induction h with
  | nil=>exact s
  | cons r t ih=>exact .cons r ih
theorem Vals.take:∀{xs:List V} {us:List Value} (n:Nat),Vals xs us→Vals (xs.take n) (us.take n)
  | _,_,0,_=>.nil
  | _,_,_ + 1,.nil=>.nil
  | _,_,n + 1,.cons r t=>.cons r (Vals.take n t)
theorem Vals.drop:∀{xs:List V} {us:List Value} (n:Nat),Vals xs us→Vals (xs.drop n) (us.drop n)
  | _,_,0,r=>r
  | _,_,_ + 1,.nil=>.nil
  | _,_,n + 1,.cons _ t=>Vals.drop n t
def RelO:Option V→Option Value→Prop
  | some v,some u=>RelV v u
  | none,none=>True
  | _,_=>False
def KV {κ:Type}:List (κ×V)→List (κ×Value)→Prop:=Paired fun (p:κ×V) (q:κ×Value)=>p.1=q.1∧RelV p.2 q.2
def kV:Key→V
  | .inl i=>.int i
  | .inr x=>.str x
inductive HO where
  | lst (xs:List V)
  | tup (xs:List V)
  | dK (kvs:List (Key×V)) | dT (kvs:List (List Key×V))
  | set (S:Int→Bool) (n:Nat)
  | ins (C dx:Addr) (fs:List (Str×V))
  | own (x:Addr)
  | xd (fs:List (Str×V))
  | met (f x:Addr)
  | rng (lo hi:Int)
  | frz (o:Obj) (u:HO)
  | tbl (ps:Array Value)
  | ext (φ:Heap→Prop)
abbrev Hp:=Addr→Option HO
def upd (H:Hp) (a:Addr) (o:HO):Hp:=fun b=>if b=a then some o else H b
theorem upd_same {H:Hp} {a:Addr} {o:HO}:upd H a o a=some o:=by unfold upd;rw[if_pos rfl]
theorem upd_ne {H:Hp} {a b:Addr} {o:HO} (h:b≠a):upd H a o b=H b:=by unfold upd;rw[if_neg h]
theorem ne_of {H:Hp} {a b:Addr} {o u:HO} (h:H a=some o) (h':H b=some u) (d:o≠u):a≠b:=by
  intro e;subst e;rw[h] at h';exact d (Option.some.inj h')
theorem ne_of_none {H:Hp} {a b:Addr} {o:HO} (h:H a=some o) (h':H b=none):a≠b:=by
  intro e;subst e;rw[h] at h';cases h'
section
variable (P:Program) (w:World)
def ObjOk (H:Hp) (h:Heap) (a:Addr):HO→Prop
  | .lst xs=>xs.length≤sizeLine∧∃(its:List Value) (n:Nat),Vals xs its∧h.get? a=some { cls:=.type "list",data:=.seq its.toArray n }
  | .tup xs=>xs.length≤sizeLine∧∃its:List Value,Vals xs its∧IsTup h a its.toArray
  | .dK kvs=>kvs.length≤sizeLine∧(a == sysModules)=false∧∃vs,KV kvs vs∧h.DictOf (mixKind P w) a vs
  | .dT kvs=>kvs.length≤sizeLine∧(a == sysModules)=false∧∃xs:List (List Key×Addr×Value),
      Paired (fun (p:List Key×V) (q:List Key×Addr×Value)=>p.1=q.1∧H q.2.1=some (.tup (p.1.map kV))∧RelV p.2 q.2.2) kvs xs∧
      ∃o es ep,h.get? a=some o∧o.ExactDict∧o.data=.dict es ep∧es.toList=xs.map (entryOfKey (tupleKind (mixKind P w)))∧(xs.map (·.1)).Nodup
  | .set S n=>h.SetOf (intKind P w) a S n
  | .ins C dx fs=>H dx=some (.own a)∧fs.length≤1000∧dx≠a∧h.get? a=some (PySem.W.instObj C dx)∧
      ∃mA,h.Ns1 dx mA∧(∀f,RelO (fs.lookup f) (mA f))∧PySem.Within mA (fs.map (·.1))
  | .own _=>∃o,h.get? a=some o
  | .xd fs=>∃mA,h.Ns1 a mA∧∀f,RelO (fs.lookup f) (mA f)
  | .rng lo hi=>∃t u v,h.get? a=some { cls:=.type "range",data:=.fields #[.int lo t,.int hi u,.int 1 v] }
  | .frz o u=>h.get? a=some o∧ObjOk H h a u
  | .tbl ps=>h.get? a=some { cls:=.none,data:=.fields ps }
  | .met f x=>h.get? a=some (PySem.W.methodObj (.ref f) (.ref x))
  | .ext φ=>φ h∧(∃o,h.get? a=some o)∧∀h1 h2:Heap,φ h1→(∀o,h1.get? a=some o→h2.get? a=some o)→φ h2
def HOk (H:Hp) (h:Heap):Prop:=∀a o,H a=some o→ObjOk P w H h a o
end
section
variable {P:Program} {w:World} {H H':Hp} {h h':Heap} {a:Addr} {o:HO}
theorem ObjOk.lt (x:ObjOk P w H h a o):a < h.objs.size:=by
  cases o with
  | lst xs=>obtain⟨_,_,_,_,e⟩:=x;exact Heap.lt_size e
  | tup xs=>obtain⟨_,_,_,p⟩:=x;exact p.lt
  | dK kvs=>obtain⟨_,_,_,_,o,_,_,e,_⟩:=x;exact Heap.lt_size e
  | dT kvs=>obtain⟨_,_,_,_,o,_,_,e,_⟩:=x;exact Heap.lt_size e
  | set S n=>obtain⟨o,_,_,_,e,_⟩:=x;exact Heap.lt_size e
  | ins C dx fs=>obtain⟨_,_,_,e,_⟩:=x;exact Heap.lt_size e
  | own y=>obtain⟨_,e⟩:=x;exact Heap.lt_size e
  | xd fs=>obtain⟨_,⟨_,_,_,e,_⟩,_⟩:=x;exact Heap.lt_size e
  | rng lo hi=>obtain⟨_,_,_,e⟩:=x;exact Heap.lt_size e
  | frz ob u=>obtain⟨e,_⟩:=x;exact Heap.lt_size e
  | tbl ps=>exact Heap.lt_size (show h.get? a=some _ from x)
  | met f y=>exact Heap.lt_size (show h.get? a=some _ from x)
  | ext φ=>obtain⟨_,⟨_,e⟩,_⟩:=x;exact Heap.lt_size e
theorem Paired.mapP {α β:Type} {F G:α→β→Prop} {l₁:List α} {l₂:List β} (h:Paired F l₁ l₂) (f:∀a b,F a b→G a b):Paired G l₁ l₂:=by
  induction h with
  | nil=>exact .nil
  | cons r t ih=>exact .cons (f _ _ r) ih
theorem ObjOk.stay (x:ObjOk P w H h a o) (k:∀b u,(b=a∨H b=some (.own a))→h.get? b=some u→h'.get? b=some u)
    (ho:∀b,H b=some (.own a)→H' b=some (.own a)) (ht:∀b xs,H b=some (.tup xs)→H' b=some (.tup xs)):ObjOk P w H' h' a o:=by
  induction o with
  | lst xs=>obtain⟨z,its,n,r,e⟩:=x;exact⟨z,its,n,r,k _ _ (.inl rfl) e⟩
  | tup xs=>obtain⟨z,its,r,ob,e,c⟩:=x;exact⟨z,its,r,ob,k _ _ (.inl rfl) e,c⟩
  | dK kvs=>obtain⟨z,y,vs,r,ob,es,ep,e,c⟩:=x;exact⟨z,y,vs,r,ob,es,ep,k _ _ (.inl rfl) e,c⟩
  | dT kvs=>
    obtain⟨z,y,xs,r,ob,es,ep,e,c⟩:=x
    exact⟨z,y,xs,Paired.mapP r fun p q z=>⟨z.1,ht _ _ z.2.1,z.2.2⟩,ob,es,ep,k _ _ (.inl rfl) e,c⟩
  | set S n=>obtain⟨ob,es,ep,t,e,c⟩:=x;exact⟨ob,es,ep,t,k _ _ (.inl rfl) e,c⟩
  | ins C dx fs=>
    obtain⟨d,z,ne,e,mA,⟨od,es,ep,e2,c⟩,r⟩:=x
    exact⟨ho _ d,z,ne,k _ _ (.inl rfl) e,mA,⟨od,es,ep,k _ _ (.inr d) e2,c⟩,r⟩
  | own y=>obtain⟨ob,e⟩:=x;exact⟨ob,k _ _ (.inl rfl) e⟩
  | xd fs=>obtain⟨mA,⟨od,es,ep,e,c⟩,r⟩:=x;exact⟨mA,⟨od,es,ep,k _ _ (.inl rfl) e,c⟩,r⟩
  | rng lo hi=>obtain⟨t,u,v,e⟩:=x;exact⟨t,u,v,k _ _ (.inl rfl) e⟩
  | frz ob u ih=>obtain⟨e,q⟩:=x;exact⟨k _ _ (.inl rfl) e,ih q⟩
  | tbl ps=>
    have e:h.get? a=some { cls:=.none,data:=.fields ps }:=x
    show h'.get? a=some { cls:=.none,data:=.fields ps }
    exact k a _ (.inl rfl) e
  | met f y=>
    have e:h.get? a=some (PySem.W.methodObj (.ref f) (.ref y)):=x
    show h'.get? a=some (PySem.W.methodObj (.ref f) (.ref y))
    exact k a _ (.inl rfl) e
  | ext φ=>obtain⟨p,⟨o,e⟩,st⟩:=x;exact⟨st _ _ p fun o q=>k _ _ (.inl rfl) q,⟨o,k _ _ (.inl rfl) e⟩,st⟩
theorem HOk.lt (x:HOk P w H h) (e:H a=some o):a < h.objs.size:=(x a o e).lt
theorem HOk.fresh (x:HOk P w H h) (e:h.objs.size≤a):H a=none:=by
  cases q:H a with
  | none=>rfl
  | some u=>exact absurd (Nat.lt_of_lt_of_le (x.lt q) e) (Nat.lt_irrefl _)
theorem HOk.kept (x:HOk P w H h) (k:∀b u,h.get? b=some u→h'.get? b=some u):HOk P w H h':=fun a o e=>
  (x a o e).stay (fun b u _ q=>k b u q) (fun _ q=>q) fun _ _ q=>q
theorem HOk.laid (x:HOk P w H h) (k:∀b u,h.get? b=some u→h'.get? b=some u) (hp:h.objs.size≤a) (new:ObjOk P w (upd H a o) h' a o):HOk P w (upd H a o) h':=fun b u e=>by
  have hn:=x.fresh hp
  by_cases hb:b=a
  · subst hb;rw[upd_same] at e;cases e;exact new
  · rw[upd_ne hb] at e
    exact (x b u e).stay (fun c v _ q=>k c v q) (fun c q=>by rw[upd_ne (ne_of_none q hn)];exact q) fun c xs q=>by rw[upd_ne (ne_of_none q hn)];exact q
end
def Rd (H:Hp) (a:Addr) (u:HO):Prop:=H a=some u∨∃o,H a=some (.frz o u)
theorem Rd.ok {P:Program} {w:World} {H:Hp} {h:Heap} {a:Addr} {u:HO} (r:Rd H a u) (x:HOk P w H h):ObjOk P w H h a u:=by
  rcases r with r | ⟨o,r⟩
  · exact x a u r
  · obtain⟨_,q⟩:=x a _ r
    exact q
def Mut:Option HO→Prop
  | some (.lst _)=>True
  | some (.dK _)=>True
  | some (.dT _)=>True
  | some (.set _ _)=>True
  | some (.ins _ _ _)=>True
  | some (.ext _)=>True
  | _=>False
section
variable {P:Program} {w:World} {H:Hp} {h h':Heap} {x e:Addr} {o':HO}
theorem HOk.write (ok:HOk P w H h) (mu:Mut (H x)) (he:e=x∨H e=some (.own x)) (k:∀b u,b≠e→h.get? b=some u→h'.get? b=some u) (heo:∃u,h'.get? e=some u)
    (new:ObjOk P w (upd H x o') h' x o'):HOk P w (upd H x o') h':=fun b u q=>by
  have nown:∀c y,H c=some (.own y)→c≠x:=fun c y r z=>by subst z;rw[r] at mu;exact mu
  have ntup:∀c xs,H c=some (.tup xs)→c≠x:=fun c xs r z=>by subst z;rw[r] at mu;exact mu
  by_cases hb:b=x
  · subst hb;rw[upd_same] at q;cases q;exact new
  · rw[upd_ne hb] at q
    by_cases hbe:b=e
    · have q':H b=some (.own x):=by
        rcases he with z | z
        · exact absurd (hbe.trans z) hb
        · rw[hbe];exact z
      rw[q] at q';cases q'
      obtain⟨v,hv⟩:=heo
      exact⟨v,by rw[hbe];exact hv⟩
    · refine (ok b u q).stay (fun c v hc r=>k c v ?_ r) (fun c r=>by rw[upd_ne (nown c b r)];exact r) fun c xs r=>by rw[upd_ne (ntup c xs r)];exact r
      rcases hc with rfl | hc
      · exact hbe
      · rintro rfl
        rcases he with z | z
        · exact nown c b hc z
        · rw[hc] at z;cases z;exact hb rfl
end
structure Un (fs ex:List Addr) (H H':Hp) (h h':Heap):Prop where
  keep:∀b o,h.get? b=some o→H b=none→b∉fs→b∉ex→h'.get? b=some o
  slot:∀b o,h.get? b=some o→H b=none→b∈fs→b∉ex→∃sl,h'.get? b=some { o with slots:=sl }
  free:∀b o,h.get? b=some o→H b=none→b∉ex→H' b=none
  there:∀b o,h.get? b=some o→b∉ex→∃o',h'.get? b=some o'
  tups:∀b xs,H b=some (.tup xs)→H' b=some (.tup xs)
  frzs:∀b o u,H b=some (.frz o u)→H' b=some (.frz o u)
  tbls:∀b ps,H b=some (.tbl ps)→∃more,H' b=some (.tbl (ps++more))
section
variable {fs fs' ex ex':List Addr} {H H1 H2:Hp} {h h1 h2 h':Heap} {a x e:Addr} {o:HO}
theorem Un.any (u:Un fs ex H H1 h h1) {b:Addr} {ob:Obj} (q:h.get? b=some ob) (n:H b=none) (hx:b∉ex):∃sl,h1.get? b=some { ob with slots:=sl }:=by
  by_cases hb:b∈fs
  · exact u.slot b ob q n hb hx
  · exact⟨ob.slots,u.keep b ob q n hb hx⟩
theorem Un.kept (k:∀b u,h.get? b=some u→h'.get? b=some u):Un fs ex H H h h':=
  ⟨fun b ob q _ _ _=>k b ob q,fun b ob q _ _ _=>⟨ob.slots,k b ob q⟩,fun _ _ _ n _=>n,fun b ob q _=>⟨ob,k b ob q⟩,fun _ _ q=>q,fun _ _ _ q=>q,fun _ ps q=>⟨#[],by rw[q];simp⟩⟩
theorem Un.refl:Un fs ex H H h h:=Un.kept fun _ _ q=>q
theorem Un.laid (k:∀b u,h.get? b=some u→h'.get? b=some u) (hp:h.objs.size≤a) (hn:H a=none):Un fs ex H (upd H a o) h h' where
  keep:=fun b u q _ _ _=>k b u q
  slot:=fun b u q _ _ _=>⟨u.slots,k b u q⟩
  free:=fun b u q n _=>by rw[upd_ne (Nat.ne_of_lt (Nat.lt_of_lt_of_le (Heap.lt_size q) hp))];exact n
  there:=fun b u q _=>⟨u,k b u q⟩
  tups:=fun b xs q=>by rw[upd_ne (ne_of_none q hn)];exact q
  frzs:=fun b u xs q=>by rw[upd_ne (ne_of_none q hn)];exact q
  tbls:=fun b ps q=>⟨#[],by rw[upd_ne (ne_of_none q hn),q];simp⟩
theorem Un.write (mu:Mut (H x)) (he:e=x∨H e=some (.own x)) (k:∀b u,b≠e→h.get? b=some u→h'.get? b=some u) (heo:∃u,h'.get? e=some u):Un fs ex H (upd H x o) h h':=by
  have hx:∀b,H b=none→b≠x:=fun b n z=>by subst z;rw[n] at mu;exact mu
  have hb:∀b,H b=none→b≠e:=fun b n z=>by
    subst z
    rcases he with r | r
    · exact hx b n r
    · rw[n] at r;cases r
  have hm:∀b u,H b=some u→¬ Mut (some u)→b≠x:=fun b u q nm z=>by subst z;rw[q] at mu;exact nm mu
  refine⟨fun b u q n _ _=>k b u (hb b n) q,fun b u q n _ _=>⟨u.slots,k b u (hb b n) q⟩,fun b u q n _=>by rw[upd_ne (hx b n)];exact n,fun b u q _=>?_,
    fun b xs q=>by rw[upd_ne (hm b _ q fun z=>z)];exact q,fun b u xs q=>by rw[upd_ne (hm b _ q fun z=>z)];exact q,fun b ps q=>⟨#[],by rw[upd_ne (hm b _ q fun z=>z),q];simp⟩⟩
  by_cases hbe:b=e
  · subst hbe;exact heo
  · exact⟨u,k b u hbe q⟩
end
def trk (h:Heap) (H:Hp):List Addr:=(List.range h.objs.size).filter fun a=>(H a).isSome
def hidT (h:Heap) (H:Hp):Heap:=PySem.W.hideAll h (trk h H)
theorem hidT_size (h:Heap) (H:Hp):(hidT h H).objs.size=h.objs.size:=PySem.W.hideAll_size _ _
theorem hidT_get {h:Heap} {H:Hp} {b:Addr} {o:Obj} (e:h.get? b=some o) (n:H b=none):(hidT h H).get? b=some o:=
  PySem.W.hideAll_get _ e fun hm=>by
    have q:(H b).isSome=true:=(List.mem_filter.mp hm).2
    rw[n] at q;simp at q
theorem of_hidT {h:Heap} {H:Hp} {b:Addr} {o:Obj} (e:(hidT h H).get? b=some o):h.get? b=some o∧H b=none:=by
  have e':h.get? b=some o:=PySem.W.of_hideAll (trk h H) e
  refine⟨e',?_⟩
  cases q:H b with
  | none=>rfl
  | some x=>
    have hm:b∈trk h H:=List.mem_filter.mpr ⟨List.mem_range.mpr (Heap.lt_size e'),by simp [q]⟩
    have z:(hidT h H).get? b=none:=PySem.W.hideAll_none (trk h H) hm
    rw[z] at e;cases e
def allNews (g h:Heap) (L:Addr):List (Addr×Obj):=(List.range h.objs.size).filterMap fun a=>if a=L∨(g.get? a).isSome=true then none else (h.get? a).map fun o=>(a,o)
def rest (g h:Heap) (L d:Addr):List (Addr×Obj):=(allNews g h L).filter fun p=>decide (p.1≠d)
structure Mod (K:PySem.W.Frag) (mg:Str→Option Value) (base:Heap):Prop where
  kin:K.In base
  glob:base.Ns mainGlobals mg
  blt:∃mb,base.Ns builtinsNs mb∧∀x:Str,x≠ "__name__" →mb x=bootBuiltins x
  nolimit:base.NoLimit
structure Cx where
  prog:Program
  w:World
  K:PySem.W.Frag
  mg:Str→Option Value
  base:Heap
  A:Around
  N:List Str
  s₀:Shared
  H₀:Hp
  env:Env
  outer:List Env
  stack:List Env
  ex:List Addr
  fn:Str→Bool
  calm:Bool
  pn:List (Addr×Obj)
  xe:Value→Shared→Prop
def frs (l:List Env):List Addr:=l.filterMap (·.frame)
abbrev Cx.fs (X:Cx):List Addr:=frs X.outer
def Vis (sc:Scope) (x:Str):Prop:=sc.names.lookup x=some .local∨sc.names.lookup x=some .cell∨sc.names.lookup x=some .free
def Loc (sc:Scope) (x:Str):Prop:=sc.names.lookup x=some .local∨sc.names.lookup x=some .cell
def Look (env:Env) (h:Heap) (m:Str→Option Value) (x:Str) (u:Value):Prop:=
  (env.kindOf x=some .local∧m x=some u)∨((env.kindOf x=some .cell∨env.kindOf x=some .free)∧∃c,env.cells.lookup x=some c∧h.IsCell c (some u))
structure Cx.Ok (X:Cx):Prop where
  mod:Mod X.K X.mg X.base
  kind:X.env.scope.kind=.function
  glob:X.env.globals=mainGlobals
  blt:X.env.builtins=builtinsNs
  above:X.s₀.heap.objs.size≤X.env.locals
  inj:∀x y c,X.env.cells.lookup x=some c→X.env.cells.lookup y=some c→x=y
  has:∀x,(X.env.kindOf x=some .cell∨X.env.kindOf x=some .free)→∃c,X.env.cells.lookup x=some c
  cab:∀x c,X.fn x=true→X.env.cells.lookup x=some c→X.s₀.heap.objs.size≤c
  hd:X.calm=true→X.A.handled=none
  frames:X.A.frames=some X.stack
  stk:X.stack=X.outer∨(X.stack=X.env::X.outer∧X.env.frame=some X.env.locals)
  exf:∀b∈X.ex,b≠X.env.locals∧∀x c,X.env.cells.lookup x=some c→c≠b
  bs:∀b o,X.base.get? b=some o→X.s₀.heap.get? b=some o∧X.H₀ b=none
  bsz:X.base.objs.size≤X.s₀.heap.objs.size
  noex:∀b o,X.base.get? b=some o→b∉X.ex
  exfs:∀b∈X.ex,b∉X.fs
  funs:X.s₀.heap.FunFrames X.base X.outer
  frf:∀b∈X.fs,X.H₀ b=none
structure Inv (X:Cx) (pins:List (Addr×Obj)) (σ:List (Option V)) (H:Hp) (s:Shared):Prop where
  ok:X.Ok
  os:s.os=X.s₀.os
  bare:AllBare s.gens
  base:Un X.fs X.ex X.H₀ H X.s₀.heap s.heap
  loc:∃m,s.heap.Ns X.env.locals m∧∀(i:Nat) (x:Str) (v:V),X.N[i]?=some x→σ[i]?=some (some v)→Vis X.env.scope x→∃u,RelV v u∧Look X.env s.heap m x u
  cell:∀x c,X.env.cells.lookup x=some c→∃v,s.heap.IsCell c v
  free:H X.env.locals=none
  freeC:∀x c,X.env.cells.lookup x=some c→H c=none
  pin:∀p∈X.pn++pins,s.heap.get? p.1=some p.2∧H p.1=none∧p.1≠X.env.locals∧p.1∉X.fs∧∀v,p.2.data≠.cell v
  hok:HOk X.prog X.w H s.heap
  len:σ.length=X.N.length
section
variable {X:Cx} {pins:List (Addr×Obj)} {σ:List (Option V)} {H H':Hp} {s:Shared} {h':Heap}
theorem Cx.Ok.nofr (ok:X.Ok) {b:Addr} {o:Obj} (e:X.base.get? b=some o):b∉X.fs:=fun hb=>by
  have:=(ok.funs.mem hb).1
  rw[e] at this;cases this
theorem Inv.bs (I:Inv X pins σ H s):∀b o,X.base.get? b=some o→s.heap.get? b=some o∧H b=none:=fun b o e=>
  ⟨I.base.keep b o (I.ok.bs b o e).1 (I.ok.bs b o e).2 (I.ok.nofr e) (I.ok.noex b o e),I.base.free b o (I.ok.bs b o e).1 (I.ok.bs b o e).2 (I.ok.noex b o e)⟩
theorem Inv.bk (I:Inv X pins σ H s):∀b o,X.base.get? b=some o→s.heap.get? b=some o:=fun b o e=>(I.bs b o e).1
theorem Inv.mod (I:Inv X pins σ H s):Mod X.K X.mg X.base:=I.ok.mod
theorem Inv.kIn (I:Inv X pins σ H s):X.K.In s.heap:=I.ok.mod.kin.keeps I.bk
theorem Inv.lt (I:Inv X pins σ H s):X.env.locals < s.heap.objs.size:=let ⟨_,hn,_⟩:=I.loc;hn.lt
theorem Inv.sz (I:Inv X pins σ H s):X.s₀.heap.objs.size≤s.heap.objs.size:=Nat.le_trans I.ok.above (Nat.le_of_lt I.lt)
theorem Inv.nofs (I:Inv X pins σ H s) {a:Addr} (h:s.heap.objs.size≤a):a∉X.fs:=fun hb=>by
  obtain⟨_,o,ho,_⟩:=I.ok.funs.mem hb
  exact absurd (Nat.lt_of_lt_of_le (Heap.lt_size ho) (Nat.le_trans I.sz h)) (Nat.lt_irrefl _)
theorem Inv.cne (I:Inv X pins σ H s):∀x c,X.env.cells.lookup x=some c→c≠X.env.locals:=fun x c e z=>by
  obtain⟨v,o,ho,hd⟩:=I.cell x c e
  obtain⟨m,⟨o',es,ep,ho',hd',_⟩,_⟩:=I.loc
  rw[z,ho'] at ho;cases ho;rw[hd'] at hd;cases hd
theorem Inv.funs (I:Inv X pins σ H s):s.heap.FunFrames X.base X.outer:=by
  have all:∀(l:List Env),(∀b∈frs l,b∈X.fs)→X.s₀.heap.FunFrames X.base l→s.heap.FunFrames X.base l:=by
    intro l
    induction l with
    | nil=>intro _ _;trivial
    | cons env r ih=>
      intro hs hl
      obtain⟨hk,⟨L,o,hf,hn,ho,hd⟩,hr⟩:=hl
      have hL:L∈X.fs:=hs L (by unfold frs;rw[List.filterMap_cons,hf];exact List.mem_cons_self)
      obtain⟨sl,e⟩:=I.base.slot L o ho (I.ok.frf L hL) hL fun z=>I.ok.exfs L z hL
      exact⟨hk,⟨L,_,hf,hn,e,hd⟩,ih (fun b hb=>hs b (by unfold frs;rw[List.filterMap_cons,hf];exact List.mem_cons_of_mem _ hb)) hr⟩
  exact all X.outer (fun _ hb=>hb) I.ok.funs
theorem Inv.stack (I:Inv X pins σ H s):s.heap.FunFrames X.base X.stack:=by
  rcases I.ok.stk with e | ⟨e,hf⟩
  · rw[e];exact I.funs
  · rw[e]
    obtain⟨m,hn,_⟩:=I.loc
    refine .cons (by rw[I.ok.kind];decide) hf hn ?_ I.funs
    exact Heap.get?_none_of_le (Nat.le_trans I.ok.bsz I.ok.above)
theorem Inv.stkSub (I:Inv X pins σ H s):∀b∈frs X.stack,b∈X.env.locals::X.fs:=fun b hb=>by
  rcases I.ok.stk with e | ⟨e,hf⟩
  · rw[e] at hb;exact List.mem_cons_of_mem _ hb
  · rw[e] at hb
    unfold frs at hb
    rw[List.filterMap_cons,hf] at hb
    exact hb
theorem Inv.stkFree (I:Inv X pins σ H s):∀b∈frs X.stack,H b=none:=fun b hb=>by
  rcases List.mem_cons.mp (I.stkSub b hb) with e | hb
  · rw[e];exact I.free
  · obtain⟨_,o,ho,_⟩:=I.ok.funs.mem hb
    exact I.base.free b o ho (I.ok.frf b hb) fun z=>I.ok.exfs b z hb
theorem Inv.step {g':Array GenState} {t':Nat} {d':Drawn} {ch:List Addr} (I:Inv X pins σ H s)
    (hch:∀b∈ch,(b∈X.ex∨X.s₀.heap.objs.size≤b)∧b≠X.env.locals∧(∀x c,X.env.cells.lookup x=some c→c≠b)∧∀p∈X.pn++pins,p.1≠b)
    (keep:∀b o,b≠X.env.locals→b∉X.fs→b∉ch→s.heap.get? b=some o→H b=none→h'.get? b=some o)
    (slot:∀b o,b≠X.env.locals→b∈X.fs→b∉ch→s.heap.get? b=some o→H b=none→∃sl,h'.get? b=some { o with slots:=sl }) (free:∀b o,b∉ch→s.heap.get? b=some o→H b=none→H' b=none)
    (there:∀b o,b∉ch→s.heap.get? b=some o→∃o',h'.get? b=some o')
    (tups:∀b xs,H b=some (.tup xs)→H' b=some (.tup xs)) (frzs:∀b o u,H b=some (.frz o u)→H' b=some (.frz o u)) (tbls:∀b ps,H b=some (.tbl ps)→∃more,H' b=some (.tbl (ps++more)))
    (ns:∀m,s.heap.Ns X.env.locals m→h'.Ns X.env.locals m) (hok:HOk X.prog X.w H' h') (hg:AllBare g') :
    Inv X pins σ H' { s with heap:=h',gens:=g',drawn:=d',toks:=t' }:=by
  have neL:∀b o,X.s₀.heap.get? b=some o→b≠X.env.locals:=fun b o e=>Nat.ne_of_lt (Nat.lt_of_lt_of_le (Heap.lt_size e) I.ok.above)
  have neC:∀b o,X.s₀.heap.get? b=some o→b∉X.ex→b∉ch:=fun b o e hx hb=>by
    rcases (hch b hb).1 with z | z
    · exact hx z
    · exact absurd (Nat.lt_of_lt_of_le (Heap.lt_size e) z) (Nat.lt_irrefl _)
  have cellK:∀x c,X.env.cells.lookup x=some c→∀v,s.heap.IsCell c v→h'.IsCell c v:=fun x c e v zz1=>el2 zz1 fun o ho hd=>by
    have nch:c∉ch:=fun z=>(hch c z).2.2.1 x c e rfl
    by_cases hc:c∈X.fs
    · obtain⟨sl,q⟩:=slot c o (I.cne x c e) hc nch ho (I.freeC x c e)
      exact⟨_,q,hd⟩
    · exact⟨o,keep c o (I.cne x c e) hc nch ho (I.freeC x c e),hd⟩
  refine⟨I.ok,I.os,hg,⟨fun b o e n hb hx=>?_,fun b o e n hb hx=>?_,fun b o e n hx=>?_,fun b o e hx=>?_,fun b xs e=>tups b xs (I.base.tups b xs e),fun b o xs e=>frzs b o xs (I.base.frzs b o xs e),fun b ps e=>?_⟩,?_,fun x c e=>?_,?_,fun x c e=>?_,fun p hp=>?_,hok,I.len⟩
  · exact keep b o (neL b o e) hb (neC b o e hx) (I.base.keep b o e n hb hx) (I.base.free b o e n hx)
  · obtain⟨sl,e1⟩:=I.base.slot b o e n hb hx
    obtain⟨sl',e2⟩:=slot b _ (neL b o e) hb (neC b o e hx) e1 (I.base.free b o e n hx)
    exact⟨sl',e2⟩
  · obtain⟨o',e1⟩:=I.base.there b o e hx
    exact free b o' (neC b o e hx) e1 (I.base.free b o e n hx)
  · obtain⟨o',e1⟩:=I.base.there b o e hx
    exact there b o' (neC b o e hx) e1
  · obtain⟨m1,e1⟩:=I.base.tbls b ps e
    obtain⟨m2,e2⟩:=tbls b _ e1
    exact⟨m1++m2,by rw[e2,Array.append_assoc]⟩
  · obtain⟨m,hn,hl⟩:=I.loc
    refine⟨m,ns m hn,fun i x v e1 e2 e3=>?_⟩
    obtain⟨u,r,l⟩:=hl i x v e1 e2 e3
    refine⟨u,r,?_⟩
    rcases l with l | ⟨k,c,e,z⟩
    · exact .inl l
    · exact .inr ⟨k,c,e,cellK x c e _ z⟩
  · obtain⟨v,z⟩:=I.cell x c e
    exact⟨v,cellK x c e v z⟩
  · obtain⟨m,⟨o,_,_,ho,_⟩,_⟩:=I.loc
    exact free _ o (fun z=>(hch _ z).2.1 rfl) ho I.free
  · obtain⟨v,o,ho,hd⟩:=I.cell x c e
    exact free c o (fun z=>(hch c z).2.2.1 x c e rfl) ho (I.freeC x c e)
  · obtain⟨e,n,ne,nf,d⟩:=I.pin p hp
    have nch:p.1∉ch:=fun z=>(hch p.1 z).2.2.2 p hp rfl
    exact⟨keep p.1 p.2 ne nf nch e n,free p.1 p.2 nch e n,ne,nf,d⟩
theorem Inv.un {t':Nat} (I:Inv X pins σ H s) (u:Un X.fs [] H H' s.heap h') (hok:HOk X.prog X.w H' h'):Inv X pins σ H' { s with heap:=h',toks:=t' }:=by
  obtain⟨m,⟨o,es,ep,ho,r⟩,_⟩:=id I.loc
  obtain⟨sl,hL⟩:=u.any ho I.free (by simp)
  exact I.step (g':=s.gens) (d':=s.drawn) (ch:=[]) (fun _ z=>nomatch z) (fun b o _ hb _ e n=>u.keep b o e n hb (by simp)) (fun b o _ hb _ e n=>u.slot b o e n hb (by simp)) (fun b o _ e n=>u.free b o e n (by simp)) (fun b o _ e=>u.there b o e (by simp)) u.tups u.frzs u.tbls (fun m' hm=>by
    obtain⟨o',es',ep',ho',r'⟩:=hm
    rw[ho] at ho';cases ho'
    exact⟨_,es',ep',hL,r'⟩) hok I.bare
theorem Inv.call {g':Array GenState} {t':Nat} {d':Drawn} {ch:List Addr} (I:Inv X pins σ H s) (u:Un (frs X.stack) ch H H' s.heap h') (hok:HOk X.prog X.w H' h') (hg:AllBare g')
    (hch:∀b∈ch,(b∈X.ex∨X.s₀.heap.objs.size≤b)∧b≠X.env.locals∧(∀x c,X.env.cells.lookup x=some c→c≠b)∧∀p∈X.pn++pins,p.1≠b) :
    Inv X pins σ H' { s with heap:=h',gens:=g',drawn:=d',toks:=t' }:=by
  obtain⟨m,⟨o,es,ep,ho,r⟩,_⟩:=id I.loc
  obtain⟨sl,hL⟩:=u.any ho I.free fun z=>(hch _ z).2.1 rfl
  exact I.step (ch:=ch) hch (fun b o hL hb hc e n=>u.keep b o e n (fun z=>(List.mem_cons.mp (I.stkSub b z)).elim hL hb) hc) (fun b o _ _ hc e n=>u.any e n hc) (fun b o hc e n=>u.free b o e n hc) (fun b o hc e=>u.there b o e hc) u.tups u.frzs u.tbls (fun m' hm=>by
    obtain⟨o',es',ep',ho',r'⟩:=hm
    rw[ho] at ho';cases ho'
    exact⟨_,es',ep',hL,r'⟩) hok hg
theorem Inv.turned {t':Nat} {it:Addr} (I:Inv X pins σ H s) (k:∀b o,b≠it→s.heap.get? b=some o→h'.get? b=some o) (hn:H it=none) (hL:it≠X.env.locals)
    (h1:it∈X.ex∨X.s₀.heap.objs.size≤it) (h2:∀x c,X.env.cells.lookup x=some c→c≠it) (h3:∀p∈X.pn++pins,p.1≠it):Inv X pins σ H { s with heap:=h',toks:=t' }:=by
  have nit:∀b u,H b=some u→b≠it:=fun b u e z=>by rw[z,hn] at e;cases e
  refine I.step (g':=s.gens) (d':=s.drawn) (ch:=[it]) (fun b hb=>?_) (fun b o _ _ hc e _=>k b o (fun z=>hc (by simp [z])) e) (fun b o _ _ hc e _=>⟨o.slots,k b o (fun z=>hc (by simp [z])) e⟩) (fun _ _ _ _ n=>n)
    (fun b o hc e=>⟨o,k b o (fun z=>hc (by simp [z])) e⟩) (fun _ _ e=>e) (fun _ _ _ e=>e) (fun b ps e=>⟨#[],by rw[e];simp⟩) (fun m hm=>?_) (fun b u e=>?_) I.bare
  · have e:b=it:=by simpa using hb
    subst e
    exact⟨h1,hL,h2,h3⟩
  · obtain⟨o,es,ep,ho,r⟩:=hm
    exact⟨o,es,ep,k _ o (Ne.symm hL) ho,r⟩
  · refine (I.hok b u e).stay (fun c v hc q=>k c v ?_ q) (fun _ q=>q) fun _ _ q=>q
    rcases hc with z | z
    · rw[z];exact nit b u e
    · exact nit c _ z
theorem Inv.tok (I:Inv X pins σ H s) (t:Nat):Inv X pins σ H { s with toks:=t }:=I.un (h':=s.heap) (t':=t) Un.refl I.hok
theorem Inv.kept {t':Nat} (I:Inv X pins σ H s) (k:∀b u,s.heap.get? b=some u→h'.get? b=some u):Inv X pins σ H { s with heap:=h',toks:=t' }:=I.un (Un.kept k) (I.hok.kept k)
theorem Inv.laid {a:Addr} {o:HO} {t':Nat} (I:Inv X pins σ H s) (k:∀b u,s.heap.get? b=some u→h'.get? b=some u) (hp:s.heap.objs.size≤a) (new:ObjOk X.prog X.w (upd H a o) h' a o) :
    Inv X pins σ (upd H a o) { s with heap:=h',toks:=t' }:=I.un (Un.laid k hp (I.hok.fresh hp)) (I.hok.laid k hp new)
theorem Inv.write {x e:Addr} {o:HO} {t':Nat} (I:Inv X pins σ H s) (mu:Mut (H x)) (he:e=x∨H e=some (.own x)) (k:∀b u,b≠e→s.heap.get? b=some u→h'.get? b=some u) (heo:∃u,h'.get? e=some u)
    (new:ObjOk X.prog X.w (upd H x o) h' x o):Inv X pins σ (upd H x o) { s with heap:=h',toks:=t' }:=I.un (Un.write mu he k heo) (I.hok.write mu he k heo new)
theorem Inv.weak {σ':List (Option V)} (I:Inv X pins σ H s) (hl:σ'.length=σ.length) (w:∀(i:Nat) v,σ'[i]?=some (some v)→σ[i]?=some (some v)):Inv X pins σ' H s:=
  ⟨I.ok,I.os,I.bare,I.base,let ⟨m,hn,hl'⟩:=I.loc;⟨m,hn,fun i x v e1 e2 e3=>hl' i x v e1 (w i v e2) e3⟩,I.cell,I.free,I.freeC,I.pin,I.hok,hl.trans I.len⟩
theorem Inv.pins_of {pins':List (Addr×Obj)} (I:Inv X pins σ H s) (h:∀p∈pins',s.heap.get? p.1=some p.2∧H p.1=none∧p.1≠X.env.locals∧p.1∉X.fs∧∀v,p.2.data≠.cell v):Inv X pins' σ H s:=
  ⟨I.ok,I.os,I.bare,I.base,I.loc,I.cell,I.free,I.freeC,fun p hp=>(List.mem_append.mp hp).elim (fun z=>I.pin p (List.mem_append_left _ z)) (h p),I.hok,I.len⟩
theorem nodup_ix {N:List Str} (hN:N.Nodup) {i j:Nat} {x:Str} (a:N[i]?=some x) (b:N[j]?=some x):i=j:=by
  obtain⟨h1,e1⟩:=List.getElem?_eq_some_iff.mp a
  obtain⟨h2,e2⟩:=List.getElem?_eq_some_iff.mp b
  exact (List.getElem_inj hN).mp (e1.trans e2.symm)
theorem store_ok2 {M:Model} {A:Around} {E:Value→Shared→Prop} {i:Nat} {x:Str} {v:V} {u:Value} {Q:Unit→Shared→Prop} (I:Inv X pins σ H s) (hN:X.N.Nodup) (hi:X.N[i]?=some x) (hx:Loc X.env.scope x) (r:RelV v u)
    (h:∀s',Inv X pins (σ.set i (some v)) H s'→(∃a,Heap.SameBut a s.heap s'.heap∧(a=X.env.locals∨X.env.cells.lookup x=some a))→Q () s') (hf:X.fn x=true∨X.env.scope.names.lookup x=some .local:=by first | exact .inl rfl | exact .inr rfl | assumption):wpAny M A (storeName X.env x u) Q E s:=by
  obtain⟨m,hn,hl⟩:=id I.loc
  have hcls:(X.env.scope.kind == .class||(X.env.scope.kind == .module&&X.env.locals != X.env.globals))=false:=by rw[I.ok.kind];rfl
  have hiσ:i < σ.length:=by rw[I.len];exact (List.getElem?_eq_some_iff.mp hi).1
  have cne:=I.cne
  have tracked:∀{a:Addr} {h':Heap},(∃o,s.heap.get? a=some o∧H a=none)→Heap.SameBut a s.heap h'→HOk X.prog X.w H h':=fun {a h'} ha hs b ob e=>by
    obtain⟨_,_,hfree⟩:=ha
    refine (I.hok b ob e).stay (fun c w' hc q=>(hs.2 c ?_).trans q) (fun _ q=>q) fun _ _ q=>q
    rintro rfl
    rcases hc with rfl | hc
    · rw[hfree] at e;cases e
    · rw[hfree] at hc;cases hc
  rcases hx with hk | hk
  · refine wpAny_storeName_local hk hn (fun h' hn' hs=>?_) hcls
    obtain⟨oL,_,_,hoL,_⟩:=id hn
    refine h _ ⟨I.ok,I.os,I.bare,⟨fun b o e n hb hx=>?_,fun b o e n hb hx=>?_,I.base.free,fun b o e hx=>?_,I.base.tups,I.base.frzs,I.base.tbls⟩,⟨_,hn',fun j y v' e1 e2 e3=>?_⟩,fun y c e=>?_,I.free,I.freeC,fun p hp=>?_,tracked ⟨oL,hoL,I.free⟩ hs,by simpa using I.len⟩ ⟨_,hs,.inl rfl⟩
    · exact (hs.2 b (Nat.ne_of_lt (Nat.lt_of_lt_of_le (Heap.lt_size e) I.ok.above))).trans (I.base.keep b o e n hb hx)
    · obtain⟨sl,e1⟩:=I.base.slot b o e n hb hx
      exact⟨sl,(hs.2 b (Nat.ne_of_lt (Nat.lt_of_lt_of_le (Heap.lt_size e) I.ok.above))).trans e1⟩
    · obtain⟨o',e1⟩:=I.base.there b o e hx
      exact⟨o',(hs.2 b (Nat.ne_of_lt (Nat.lt_of_lt_of_le (Heap.lt_size e) I.ok.above))).trans e1⟩
    · by_cases hj:j=i
      · subst hj
        rw[hi] at e1;cases e1
        rw[List.getElem?_set_self hiσ] at e2
        cases e2
        exact⟨u,r,.inl ⟨hk,by simp⟩⟩
      · rw[List.getElem?_set_ne (Ne.symm hj)] at e2
        obtain⟨u',r',q⟩:=hl j y v' e1 e2 e3
        refine⟨u',r',?_⟩
        rcases q with ⟨k,e⟩ | ⟨k,c,e,z⟩
        · refine .inl ⟨k,?_⟩
          have:y≠x:=fun e=>hj (nodup_ix hN e1 (e▸hi))
          simp [this,e]
        · exact .inr ⟨k,c,e,z.sameBut hs (cne y c e)⟩
    · obtain⟨w',z⟩:=I.cell y c e
      exact⟨w',z.sameBut hs (cne y c e)⟩
    · obtain⟨e,n,ne,nf,d⟩:=I.pin p hp
      exact⟨(hs.2 p.1 ne).trans e,n,ne,nf,d⟩
  · have hfn:X.fn x=true:=by
      rcases hf with z | z
      · exact z
      · rw[z] at hk;cases hk
    obtain⟨c,hc⟩:=I.ok.has x (.inl hk)
    obtain⟨w',z⟩:=I.cell x c hc
    refine wpAny_storeName_cell I.ok.kind hk hc z (fun h' hc' hs=>?_)
    obtain⟨oc,hoc,hocd⟩:=id z
    refine h { s with heap:=h' } ⟨I.ok,I.os,I.bare,⟨fun b o e n hb hx=>?_,fun b o e n hb hx=>?_,I.base.free,fun b o e hx=>?_,I.base.tups,I.base.frzs,I.base.tbls⟩,⟨m,hn.sameBut hs (Ne.symm (cne x c hc)),fun j y v' e1 e2 e3=>?_⟩,fun y c' e=>?_,I.free,I.freeC,fun p hp=>?_,tracked ⟨oc,hoc,I.freeC x c hc⟩ hs,by simpa using I.len⟩ ⟨c,hs,.inr hc⟩
    · exact (hs.2 b (Nat.ne_of_lt (Nat.lt_of_lt_of_le (Heap.lt_size e) (I.ok.cab x c hfn hc)))).trans (I.base.keep b o e n hb hx)
    · obtain⟨sl,e1⟩:=I.base.slot b o e n hb hx
      exact⟨sl,(hs.2 b (Nat.ne_of_lt (Nat.lt_of_lt_of_le (Heap.lt_size e) (I.ok.cab x c hfn hc)))).trans e1⟩
    · obtain⟨o',e1⟩:=I.base.there b o e hx
      exact⟨o',(hs.2 b (Nat.ne_of_lt (Nat.lt_of_lt_of_le (Heap.lt_size e) (I.ok.cab x c hfn hc)))).trans e1⟩
    · by_cases hj:j=i
      · subst hj
        rw[hi] at e1;cases e1
        rw[List.getElem?_set_self hiσ] at e2
        cases e2
        exact⟨u,r,.inr ⟨.inl hk,c,hc,hc'⟩⟩
      · rw[List.getElem?_set_ne (Ne.symm hj)] at e2
        obtain⟨u',r',q⟩:=hl j y v' e1 e2 e3
        refine⟨u',r',?_⟩
        rcases q with q | ⟨k,c',e,z'⟩
        · exact .inl q
        · refine .inr ⟨k,c',e,z'.sameBut hs ?_⟩
          rintro rfl
          exact hj (nodup_ix hN e1 (I.ok.inj _ _ _ e hc▸hi))
    · by_cases hcc:c'=c
      · subst hcc;exact⟨_,hc'⟩
      · obtain⟨w2,z2⟩:=I.cell y c' e
        exact⟨w2,z2.sameBut hs hcc⟩
    · obtain⟨e,n,ne,nf,d⟩:=I.pin p hp
      refine⟨(hs.2 p.1 ?_).trans e,n,ne,nf,d⟩
      intro q
      rw[q,hoc] at e
      have q':oc=p.2:=Option.some.inj e
      exact d w' (by rw[←q'];exact hocd)
theorem store_ok {M:Model} {A:Around} {E:Value→Shared→Prop} {i:Nat} {x:Str} {v:V} {u:Value} {Q:Unit→Shared→Prop} (I:Inv X pins σ H s) (hN:X.N.Nodup) (hi:X.N[i]?=some x) (hx:Loc X.env.scope x) (r:RelV v u)
    (h:∀s',Inv X pins (σ.set i (some v)) H s'→Q () s') (hf:X.fn x=true∨X.env.scope.names.lookup x=some .local:=by first | exact .inl rfl | exact .inr rfl | assumption):wpAny M A (storeName X.env x u) Q E s:=
  store_ok2 I hN hi hx r (fun s' I' _=>h s' I') hf
theorem Inv.call' {s':Shared} {ch:List Addr} (I:Inv X pins σ H s) (ho:s'.os=s.os) (u:Un (frs X.stack) ch H H' s.heap s'.heap) (hok:HOk X.prog X.w H' s'.heap) (hg:AllBare s'.gens)
    (hch:∀b∈ch,(b∈X.ex∨X.s₀.heap.objs.size≤b)∧b≠X.env.locals∧(∀x c,X.env.cells.lookup x=some c→c≠b)∧∀p∈X.pn++pins,p.1≠b):Inv X pins σ H' s':=by
  obtain⟨h',g',d',t',o'⟩:=s'
  have e:o'=s.os:=ho
  subst e
  exact I.call (g':=g') (t':=t') (d':=d') u hok hg hch
end
abbrev XK:=Value→Option Addr→Hp→Prop
abbrev St:=List (Option V)
abbrev VK:=V→Hp→Prop
abbrev TE:=St→Hp→VK→Prop
abbrev TT:=St→Hp→(Bool→Hp→Prop)→Prop
abbrev TA:=St→Hp→(List V→Hp→Prop)→Prop
structure Ends where
  nx:St→Hp→Prop
  rt:VK
  bk:St→Hp→Prop:=fun _ _=>False
  ct:St→Hp→Prop:=fun _ _=>False
abbrev TS:=Ends→St→Hp→Prop
def EP (X:Cx) (pins:List (Addr×Obj)) (σ:St) (Q:VK) (u:Value) (s':Shared):Prop:=∃v H',Inv X pins σ H' s'∧RelV v u∧Q v H'
def TP (X:Cx) (pins:List (Addr×Obj)) (σ:St) (Q:Bool→Hp→Prop) (b:Bool) (s':Shared):Prop:=∃H',Inv X pins σ H' s'∧Q b H'
def AP (X:Cx) (pins:List (Addr×Obj)) (σ:St) (Q:List V→Hp→Prop) (us:List Value) (s':Shared):Prop:=∃vs H',Inv X pins σ H' s'∧Vals vs us∧Q vs H'
def SP (X:Cx) (pins:List (Addr×Obj)) (D:Ends) (f:Flow) (s':Shared):Prop:=
  match f with
  | .next=>∃σ' H',Inv X pins σ' H' s'∧D.nx σ' H'
  | .brk=>∃σ' H',Inv X pins σ' H' s'∧D.bk σ' H'
  | .cont=>∃σ' H',Inv X pins σ' H' s'∧D.ct σ' H'
  | .ret u=>∃v σ' H',Inv X pins σ' H' s'∧RelV v u∧D.rt v H'
def PE (X:Cx) (e:Expr) (t:TE):Prop:=
  ∀(pins:List (Addr×Obj)) (s:Shared) (σ:St) (H:Hp) (Q:VK),Inv X pins σ H s→t σ H Q→wpAny (model X.prog X.w) X.A (eval e X.env) (EP X pins σ Q) X.xe s
def PT (X:Cx) (e:Expr) (t:TT):Prop:=
  ∀(pins:List (Addr×Obj)) (s:Shared) (σ:St) (H:Hp) (Q:Bool→Hp→Prop),Inv X pins σ H s→t σ H Q→wpAny (model X.prog X.w) X.A (isTrue e X.env (eval e X.env)) (TP X pins σ Q) X.xe s
def PW (X:Cx) (e:Expr) (t:TT):Prop:=
  ∀(whole:Sem Value) (pins:List (Addr×Obj)) (s:Shared) (σ:St) (H:Hp) (Q:Bool→Hp→Prop),Inv X pins σ H s→t σ H Q→wpAny (model X.prog X.w) X.A (isTrue e X.env whole) (TP X pins σ Q) X.xe s
theorem PW.pt {X:Cx} {e:Expr} {t:TT} (h:PW X e t):PT X e t:=h _
def PA (X:Cx) (es:List Expr) (t:TA):Prop:=
  ∀(pos:Pos) (pins:List (Addr×Obj)) (s:Shared) (σ:St) (H:Hp) (Q:List V→Hp→Prop),Inv X pins σ H s→t σ H Q→wpAny (model X.prog X.w) X.A (spliced (backTo pos (starEach es X.env))) (AP X pins σ Q) X.xe s
def PS (X:Cx) (st:Stmt) (t:TS):Prop:=
  ∀(pins:List (Addr×Obj)) (s:Shared) (σ:St) (H:Hp) (D:Ends),Inv X pins σ H s→t D σ H→wpAny (model X.prog X.w) X.A (exec st X.env) (SP X pins D) X.xe s
def PSs (X:Cx) (st:List Stmt) (t:TS):Prop:=
  ∀(pins:List (Addr×Obj)) (s:Shared) (σ:St) (H:Hp) (D:Ends),Inv X pins σ H s→t D σ H→wpAny (model X.prog X.w) X.A (execs st X.env) (SP X pins D) X.xe s
theorem thn {α:Type} {t:Sem α} {Q Q':α→Shared→Prop} {M:Model} {A:Around} {E:Value→Shared→Prop} {s:Shared} (h:wpAny M A t Q E s) (hQ:∀a s,Q a s→Q' a s):wpAny M A t Q' E s:=wpAny_mono h hQ fun _ _ x=>x
section
variable {X:Cx}
def tVar (i:Nat):TE:=fun σ H Q=>∃v,σ[i]?=some (some v)∧Q v H
def tC (v:V):TE:=fun _ H Q=>Q v H
theorem pe_var {i:Nat} {x:Str} {pos:Pos} (hN:X.N[i]?=some x) (hv:Vis X.env.scope x) (hd:(x == ("__debug__" : Str))=false:=by decide) (hcd:(x == ("__classdict__" : Str))=false:=by decide):PE X (.Name x pos) (tVar i):=by
  intro pins s σ H Q I h
  obtain⟨v,e,h⟩:=h
  obtain⟨m,hn,hl⟩:=I.loc
  obtain⟨u,r,l⟩:=hl i x v hN e hv
  have fin:EP X pins σ Q u s:=⟨v,H,I,r,h⟩
  rcases l with ⟨hk,hm⟩ | ⟨hk,c,hc,hcell⟩
  · exact wpAny_Name (wpAny_loadName_local I.ok.kind hk hn hm fin) hd
  · rcases hk with hk | hk
    · exact wpAny_Name (wpAny_loadName_cell I.ok.kind hk hc hcell fin) hd
    · exact wpAny_Name (wpAny_loadName_free I.ok.kind hk hc hcell fin hcd) hd
theorem pe_int {i j pos}:PE X (.Constant (.int i) j pos) (tC (.int i)):=fun _ _ _ H _ I h=>wpAny_Constant_int ⟨.int i,H,I.tok _,⟨_,rfl⟩,h⟩
theorem pe_bl {b j pos}:PE X (.Constant (.bool b) j pos) (tC (.bl b)):=fun _ _ _ H _ I h=>Constant_bool ⟨.bl b,H,I,rfl,h⟩
theorem pe_non {j pos}:PE X (.Constant .none j pos) (tC .non):=fun _ _ _ H _ I h=>Constant_none ⟨.non,H,I,rfl,h⟩
def Gl (X:Cx) (x:Str):Prop:=X.env.kindOf x=some .globalImplicit
theorem ld_glob {E:Value→Shared→Prop} {pins:List (Addr×Obj)} {s:Shared} {σ:St} {H:Hp} {x:Str} {u:Value} {pos:Pos} {Q:Value→Shared→Prop} (I:Inv X pins σ H s) (hg:Gl X x) (hm:X.mg x=some u) (h:Q u s)
    (hd:(x == ("__debug__" : Str))=false:=by decide):wpAny (model X.prog X.w) X.A (eval (.Name x pos) X.env) Q E s:=
  Calls.Name_function_global I.ok.kind hg (Calls.loadGlobal_global (by rw[I.ok.glob];exact I.mod.glob.keeps I.bk) hm h) hd
theorem ld_blt {E:Value→Shared→Prop} {pins:List (Addr×Obj)} {s:Shared} {σ:St} {H:Hp} {x:Str} {u:Value} {pos:Pos} {Q:Value→Shared→Prop} (I:Inv X pins σ H s) (hg:Gl X x) (hm:X.mg x=none) (hv:bootBuiltins x=some u) (h:Q u s)
    (hn:x≠ "__name__" :=by decide) (hd:(x == ("__debug__" : Str))=false:=by decide):wpAny (model X.prog X.w) X.A (eval (.Name x pos) X.env) Q E s:=by
  obtain⟨mb,h1,h2⟩:=I.mod.blt
  exact Calls.Name_function_global I.ok.kind hg (Calls.loadGlobal_builtin (by rw[I.ok.glob];exact I.mod.glob.keeps I.bk) hm (by rw[I.ok.blt];exact h1.keeps I.bk) ((h2 x hn).trans hv) h) hd
theorem pe_glob {x:Str} {v:V} {u:Value} {pos:Pos} (hg:Gl X x) (hm:X.mg x=some u) (r:RelV v u) (hd:(x == ("__debug__" : Str))=false:=by decide):PE X (.Name x pos) (tC v):=
  fun _ _ _ H _ I h=>ld_glob I hg hm ⟨v,H,I,r,h⟩ hd
theorem pe_bltn {x:Str} {v:V} {u:Value} {pos:Pos} (hg:Gl X x) (hm:X.mg x=none) (hv:bootBuiltins x=some u) (r:RelV v u) (hn:x≠ "__name__" :=by decide) (hd:(x == ("__debug__" : Str))=false:=by decide):PE X (.Name x pos) (tC v):=
  fun _ _ _ H _ I h=>ld_blt I hg hm hv ⟨v,H,I,r,h⟩ hn hd
variable {a b:Expr} {ta tb:TE} {pos:Pos}
def PC (X:Cx) (op:CmpOp) (a b:Expr) (t:TE):Prop:=
  ∀(pins:List (Addr×Obj)) (s:Shared) (σ:St) (H:Hp) (Q:VK),Inv X pins σ H s→t σ H Q→
    wpAny (model X.prog X.w) X.A (eval a X.env) (fun v s₁=>wpAny (model X.prog X.w) X.A (eval b X.env) (fun u s₂=>wpAny (model X.prog X.w) X.A (compareOp op v u) (EP X pins σ Q) X.xe s₂) X.xe s₁) X.xe s
def tB (t:TE):TT:=fun σ H Q=>t σ H fun x H1=>∃c,x=.bl c∧Q c H1
theorem pt_cmp {op:CmpOp} {t:TE} (h:PC X op a b t) (h1:behindInMarks op b=false:=by first | exact nobehind _ (by decide) (by decide) | rfl):PT X (.Compare a [op] [b] pos) (tB t):=by
  intro pins s σ H Q I hw
  refine wpAny_isTrue_Compare1 (thn (h pins s σ H _ I hw) fun v s1 h1=>thn h1 fun u s2 h2=>thn h2 fun c s3 zz6=>el5 zz6 fun x H1 I1 r1 q1=>?_) h1
  obtain⟨d,rfl,q⟩:=q1
  cases r1
  exact wpAny_truthy_bool ⟨H1,I1,q⟩
theorem pt_val {e:Expr} {t:TE} (h:PE X e t) (he:∀whole,isTrue e X.env whole=(do let v ←whole;standAt e.pos;holding [v] (truthy v)):=by intro _;rfl):PT X e (tB t):=by
  intro pins s σ H Q I hw
  refine isTrue_plain (thn (h pins s σ H _ I hw) fun v s1 zz7=>el5 zz7 fun x H1 I1 r1 q1=>?_) (he _)
  obtain⟨d,rfl,q⟩:=q1
  cases r1
  exact wpAny_truthy_bool ⟨H1,I1,q⟩
variable {tA tB':TT} {rest:List Expr}
def tAnd (t u:TT):TT:=fun σ H Q=>t σ H fun c H1=>if c=true then u σ H1 Q else Q false H1
def tOr (t u:TT):TT:=fun σ H Q=>t σ H fun c H1=>if c=true then Q true H1 else u σ H1 Q
def tNot (t:TT):TT:=fun σ H Q=>t σ H fun c H1=>Q (!c) H1
theorem pw_and1 (ha:PT X a tA):PW X (.BoolOp .And [a] pos) tA:=by
  intro wh pins s σ H Q I h
  refine isTrue_and (thn (ha pins s σ H Q I h) fun c s1 e=>?_)
  cases c with
  | true=>exact isTrue_and_nil e
  | false=>exact e
theorem pw_or1 (ha:PT X a tA):PW X (.BoolOp .Or [a] pos) tA:=by
  intro wh pins s σ H Q I h
  refine isTrue_or (thn (ha pins s σ H Q I h) fun c s1 e=>?_)
  cases c with
  | false=>exact isTrue_or_nil e
  | true=>exact e
theorem pw_and (ha:PT X a tA) (hb:PW X (.BoolOp .And (b::rest) pos) tB'):PW X (.BoolOp .And (a::b::rest) pos) (tAnd tA tB'):=by
  intro wh pins s σ H Q I h
  refine isTrue_and (thn (ha pins s σ H _ I h) fun c s1 zz8=>el2 zz8 fun H1 I1 q1=>?_)
  cases c with
  | true=>exact hb wh pins s1 σ H1 Q I1 q1
  | false=>exact⟨H1,I1,q1⟩
theorem pw_or (ha:PT X a tA) (hb:PW X (.BoolOp .Or (b::rest) pos) tB'):PW X (.BoolOp .Or (a::b::rest) pos) (tOr tA tB'):=by
  intro wh pins s σ H Q I h
  refine isTrue_or (thn (ha pins s σ H _ I h) fun c s1 zz9=>el2 zz9 fun H1 I1 q1=>?_)
  cases c with
  | true=>exact⟨H1,I1,q1⟩
  | false=>exact hb wh pins s1 σ H1 Q I1 q1
theorem pt_not (ha:PT X a tA):PT X (.UnaryOp .Not a pos) (tNot tA):=by
  intro pins s σ H Q I h
  exact isTrue_not (ha pins s σ H (fun c H1=>Q (!c) H1) I h)
def tAndV (ta tb:TE):TE:=fun σ H Q=>ta σ H fun x H1=>∃c,x=.bl c∧if c=true then tb σ H1 Q else Q (.bl false) H1
def tOrV (ta tb:TE):TE:=fun σ H Q=>ta σ H fun x H1=>∃c,x=.bl c∧if c=true then Q (.bl true) H1 else tb σ H1 Q
def tNotV (ta:TE):TE:=fun σ H Q=>ta σ H fun x H1=>∃c,x=.bl c∧Q (.bl (!c)) H1
theorem pe_one {op} {t:TE} (h:PE X a t):PE X (.BoolOp op [a] pos) t:=fun pins s σ H Q I hw=>BoolOp_one (h pins s σ H Q I hw)
theorem pe_and (ha:PE X a ta) (hb:PE X (.BoolOp .And (b::rest) pos) tb):PE X (.BoolOp .And (a::b::rest) pos) (tAndV ta tb):=by
  intro pins s σ H Q I h
  refine BoolOp_and (thn (ha pins s σ H _ I h) fun v s1 zz10=>el5 zz10 fun x H1 I1 r1 q1=>?_)
  obtain⟨c,rfl,q1⟩:=q1
  cases r1
  refine wpAny_truthy_bool ?_
  cases c with
  | true=>exact hb pins s1 σ H1 Q I1 q1
  | false=>exact⟨.bl false,H1,I1,rfl,q1⟩
theorem pe_or (ha:PE X a ta) (hb:PE X (.BoolOp .Or (b::rest) pos) tb):PE X (.BoolOp .Or (a::b::rest) pos) (tOrV ta tb):=by
  intro pins s σ H Q I h
  refine BoolOp_or (thn (ha pins s σ H _ I h) fun v s1 zz11=>el5 zz11 fun x H1 I1 r1 q1=>?_)
  obtain⟨c,rfl,q1⟩:=q1
  cases r1
  refine wpAny_truthy_bool ?_
  cases c with
  | false=>exact hb pins s1 σ H1 Q I1 q1
  | true=>exact⟨.bl true,H1,I1,rfl,q1⟩
theorem pe_not (ha:PE X a ta):PE X (.UnaryOp .Not a pos) (tNotV ta):=by
  intro pins s σ H Q I h
  refine UnaryOp_ (thn (ha pins s σ H _ I h) fun v s1 zz12=>el5 zz12 fun x H1 I1 r1 q1=>?_)
  obtain⟨c,rfl,q1⟩:=q1
  cases r1
  exact not_of (wpAny_truthy_bool ⟨.bl (!c),H1,I1,rfl,q1⟩)
def tIf (t:TT) (ta tb:TE):TE:=fun σ H Q=>t σ H fun c H1=>if c=true then ta σ H1 Q else tb σ H1 Q
theorem pe_ifExp {c:Expr} (hc:PT X c tA) (ha:PE X a ta) (hb:PE X b tb):PE X (.IfExp c a b pos) (tIf tA ta tb):=by
  intro pins s σ H Q I h
  refine wpAny_IfExp (thn (hc pins s σ H _ I h) fun d s1 zz13=>el2 zz13 fun H1 I1 q1=>?_)
  cases d with
  | true=>exact ha pins s1 σ H1 Q I1 q1
  | false=>exact hb pins s1 σ H1 Q I1 q1
end
def SqL (K:PySem.W.Frag) (H:Hp) (a:Addr) (xs:List V):Prop:=
  Rd H a (.lst xs)∨
    ∃(o:Obj) (its:Array Value) (n:Nat),K.lookup a=some o∧o.cls=.type "list" ∧o.dict=none∧o.data=.seq its n∧its.size≤sizeLine∧Vals xs its.toList
def SqT (K:PySem.W.Frag) (H:Hp) (a:Addr) (xs:List V):Prop:=
  Rd H a (.tup xs)∨
    ∃(o:Obj) (its:Array Value) (n:Nat),K.lookup a=some o∧o.cls=.type "tuple" ∧o.data=.seq its n∧its.size≤sizeLine∧Vals xs its.toList
def absV:Value→Option V
  | .none=>some .non
  | .bool b=>some (.bl b)
  | .int i _=>some (.int i)
  | .str x _=>some (.str x)
  | .bytes b _=>some (.byt b)
  | .float b _=>some (.flt b)
  | .ref a=>some (.ref a)
  | .type n=>some (.ty n)
  | _=>none
theorem RelV.abs {x:V} {u:Value} (r:RelV x u):absV u=some x:=by
  cases x with
  | non=>cases r;rfl
  | bl _=>cases r;rfl
  | int _=>obtain⟨t,rfl⟩:=r;rfl
  | str _=>obtain⟨t,rfl⟩:=r;rfl
  | byt _=>obtain⟨t,rfl⟩:=r;rfl
  | flt _=>obtain⟨t,rfl⟩:=r;rfl
  | ref _=>cases r;rfl
  | ty _=>cases r;rfl
theorem RelV.inj {x y:V} {u:Value} (r:RelV x u) (q:RelV y u):x=y:=Option.some.inj (r.abs.symm.trans q.abs)
theorem Vals.inj {xs ys:List V} {us:List Value} (h:Vals xs us) (k:Vals ys us):xs=ys:=by
  induction h generalizing ys with
  | nil=>cases k;rfl
  | cons r t ih=>
    cases k with
    | cons r' t'=>rw[r.inj r',ih t']
section
variable {X:Cx} {pins:List (Addr×Obj)} {σ:St} {H:Hp} {s:Shared} {a:Addr} {xs ys:List V}
theorem SqL.of {K:PySem.W.Frag} (h:H a=some (.lst xs)):SqL K H a xs:=.inl (.inl h)
theorem SqT.of {K:PySem.W.Frag} (h:H a=some (.tup xs)):SqT K H a xs:=.inl (.inl h)
theorem Inv.list (I:Inv X pins σ H s) (h:SqL X.K H a xs):∃its:List Value,Vals xs its∧PlainL s.heap a its.toArray∧xs.length≤sizeLine:=by
  rcases h with h | ⟨o,its,n,hk,hc,hd,hs,hz,r⟩
  · obtain⟨z,its,n,r,e⟩:=h.ok I.hok
    exact⟨its,r,⟨_,n,e,rfl,rfl,rfl⟩,z⟩
  · refine⟨its.toList,r,⟨o,n,I.kIn a o hk,hc,hd,by simpa using hs⟩,?_⟩
    have e:=r.length
    simp only[Array.length_toList] at e
    lia
theorem Inv.tuple (I:Inv X pins σ H s) (h:SqT X.K H a xs):∃its:List Value,Vals xs its∧IsTup s.heap a its.toArray∧xs.length≤sizeLine:=by
  rcases h with h | ⟨o,its,n,hk,hc,hs,hz,r⟩
  · obtain⟨z,its,r,p⟩:=h.ok I.hok
    exact⟨its,r,p,z⟩
  · refine⟨its.toList,r,⟨o,I.kIn a o hk,hc,n,by simpa using hs⟩,?_⟩
    have e:=r.length
    simp only[Array.length_toList] at e
    lia
theorem Inv.list_inj (I:Inv X pins σ H s) (h:SqL X.K H a xs) (h':SqL X.K H a ys):xs=ys:=by
  obtain⟨its,r,⟨o,n,e,_,_,d⟩,_⟩:=I.list h
  obtain⟨its',r',⟨o',n',e',_,_,d'⟩,_⟩:=I.list h'
  rw[e] at e';cases e'
  rw[d] at d'
  injection d' with d1 _
  have:its=its':=by simpa using congrArg Array.toList d1
  subst this
  exact r.inj r'
end
abbrev Cx.wish (X:Cx) (E:Value→Shared→Prop):Cx:={ X with xe:=E }
abbrev Cx.nox (X:Cx):Cx:=X.wish fun _ _=>False
theorem Cx.Ok.wish {X:Cx} (ok:X.Ok) (E:Value→Shared→Prop):(X.wish E).Ok:=
  ⟨ok.mod,ok.kind,ok.glob,ok.blt,ok.above,ok.inj,ok.has,ok.cab,ok.hd,ok.frames,ok.stk,ok.exf,ok.bs,ok.bsz,ok.noex,ok.exfs,ok.funs,ok.frf⟩
theorem Cx.Ok.unwish {X:Cx} {E:Value→Shared→Prop} (ok:(X.wish E).Ok):X.Ok:=
  ⟨ok.mod,ok.kind,ok.glob,ok.blt,ok.above,ok.inj,ok.has,ok.cab,ok.hd,ok.frames,ok.stk,ok.exf,ok.bs,ok.bsz,ok.noex,ok.exfs,ok.funs,ok.frf⟩
section
variable {X:Cx} {pins:List (Addr×Obj)} {σ:St} {H:Hp} {s:Shared} {E:Value→Shared→Prop}
theorem Inv.wish (I:Inv X pins σ H s) (E:Value→Shared→Prop):Inv (X.wish E) pins σ H s:=⟨I.ok.wish E,I.os,I.bare,I.base,I.loc,I.cell,I.free,I.freeC,I.pin,I.hok,I.len⟩
theorem Inv.unwish (I:Inv (X.wish E) pins σ H s):Inv X pins σ H s:=⟨I.ok.unwish,I.os,I.bare,I.base,I.loc,I.cell,I.free,I.freeC,I.pin,I.hok,I.len⟩
theorem SP.unwish {D:Ends} {f:Flow} {s':Shared} (h:SP (X.wish E) pins D f s'):SP X pins D f s':=by
  cases f with
  | next=>obtain⟨σ',H',I,q⟩:=h;exact⟨σ',H',I.unwish,q⟩
  | brk=>obtain⟨σ',H',I,q⟩:=h;exact⟨σ',H',I.unwish,q⟩
  | cont=>obtain⟨σ',H',I,q⟩:=h;exact⟨σ',H',I.unwish,q⟩
  | ret u=>obtain⟨v,σ',H',I,r,q⟩:=h;exact⟨v,σ',H',I.unwish,r,q⟩
theorem PSs.nox {st:List Stmt} {t:TS} (h:PSs X.nox st t):PSs X st t:=fun pins s σ H D I hw=>
  wpAny_mono (h pins s σ H D (I.wish _) hw) (fun _ _ q=>q.unwish) fun _ _ z=>False.elim z
end
section
variable {X:Cx} {st:Stmt} {rest:List Stmt} {t u:TS} {e:Expr} {te:TE} {pos:Pos}
def tNext:TS:=fun D σ H=>D.nx σ H
def tSeq (t u:TS):TS:=fun D σ H=>t { D with nx:=u D } σ H
theorem pss_nil:PSs X [] tNext:=fun _ _ σ H _ I h=>wpAny_execs_nil ⟨σ,H,I,h⟩
theorem pss_cons (h1:PS X st t) (h2:PSs X rest u):PSs X (st::rest) (tSeq t u):=by
  intro pins s σ H D I h
  refine wpAny_execs_cons (thn (h1 pins s σ H { D with nx:=u D } I h) fun f s1 q=>?_)
  cases f with
  | next=>
    obtain⟨σ',H',I',q⟩:=q
    exact h2 pins s1 σ' H' D I' q
  | ret v=>exact q
  | brk=>exact q
  | cont=>exact q
theorem pss_one (h1:PS X st t):PSs X [st] t:=by
  intro pins s σ H D I h
  refine wpAny_execs_cons (thn (h1 pins s σ H D I h) fun f s1 q=>?_)
  cases f with
  | next=>exact wpAny_execs_nil q
  | ret v=>exact q
  | brk=>exact q
  | cont=>exact q
theorem Inv.quiet {pins:List (Addr×Obj)} {σ:St} {H:Hp} {s:Shared} (I:Inv X pins σ H s):interactive X.env=false:=by simp [interactive,I.ok.kind]
def tDrop (te:TE):TS:=fun D σ H=>te σ H fun _ H1=>D.nx σ H1
theorem ps_expr (he:PE X e te) (hs:swapsWith e none pos.line X.env=pure false:=by rfl):PS X (.Expr e pos) (tDrop te):=by
  intro pins s σ H D I h
  exact wpAny_Expr_any (thn (he pins s σ H _ I h) fun v s1 zz20=>el5 zz20 fun x H1 I1 r1 q1=>⟨σ,H1,I1,q1⟩) I.quiet hs
def tRet (te:TE):TS:=fun D σ H=>te σ H D.rt
theorem ps_ret (he:PE X e te):PS X (.Return (some e) pos) (tRet te):=by
  intro pins s σ H D I h
  exact wpAny_Return_some (thn (he pins s σ H _ I h) fun v s1 zz21=>el5 zz21 fun x H1 I1 r1 q1=>⟨x,σ,H1,I1,r1,q1⟩)
def tIfS (c:TT) (t u:TS):TS:=fun D σ H=>c σ H fun b H1=>if b=true then t D σ H1 else u D σ H1
theorem ps_if {c:Expr} {a b:List Stmt} {tc:TT} (hc:PT X c tc) (ha:PSs X a t) (hb:PSs X b u):PS X (.If c a b pos) (tIfS tc t u):=by
  intro pins s σ H D I h
  refine wpAny_If (thn (hc pins s σ H _ I h) fun d s1 zz22=>el2 zz22 fun H1 I1 q1=>?_)
  cases d with
  | true=>exact ha pins s1 σ H1 D I1 q1
  | false=>exact hb pins s1 σ H1 D I1 q1
end
abbrev TG:=V→St→Hp→(St→Hp→Prop)→Prop
abbrev TGs:=List V→St→Hp→(St→Hp→Prop)→Prop
def PG (X:Cx) (target:Expr) (t:TG):Prop:=
  ∀(pins:List (Addr×Obj)) (s:Shared) (σ:St) (H:Hp) (v:V) (u:Value) (Q:St→Hp→Prop),Inv X pins σ H s→RelV v u→t v σ H Q→
    wpAny (model X.prog X.w) X.A (assign target X.env u) (fun _ s'=>∃σ' H',Inv X pins σ' H' s'∧Q σ' H') X.xe s
def PGs (X:Cx) (ts:List Expr) (t:TGs):Prop:=
  ∀(pins:List (Addr×Obj)) (s:Shared) (σ:St) (H:Hp) (vs:List V) (us:List Value) (Q:St→Hp→Prop),Inv X pins σ H s→Vals vs us→t vs σ H Q→
    wpAny (model X.prog X.w) X.A (assignInOrder ((assignEach ts X.env).map (·.2)) us) (fun _ s'=>∃σ' H',Inv X pins σ' H' s'∧Q σ' H') X.xe s
abbrev TSet:=V→V→V→Hp→(Hp→Prop)→Prop
def PSet (X:Cx) (t:TSet):Prop:=
  ∀(pins:List (Addr×Obj)) (s:Shared) (σ:St) (H:Hp) (o i v:V) (ov iv u:Value) (Q:Hp→Prop),Inv X pins σ H s→RelV o ov→RelV i iv→RelV v u→t o i v H Q→
    wpAny (model X.prog X.w) X.A (setItem ov iv u) (fun _ s'=>∃H',Inv X pins σ H' s'∧Q H') X.xe s
abbrev TIp:=V→V→Hp→VK→Prop
def PIp (X:Cx) (op:Operator) (t:TIp):Prop:=
  ∀(pins:List (Addr×Obj)) (s:Shared) (σ:St) (H:Hp) (x y:V) (v u:Value) (Q:VK),Inv X pins σ H s→RelV x v→RelV y u→t x y H Q→
    wpAny (model X.prog X.w) X.A (inplaceOp op v u) (EP X pins σ Q) X.xe s
section
variable {X:Cx} {pos:Pos}
def gName (i:Nat):TG:=fun v σ H Q=>Q (σ.set i (some v)) H
theorem pg_name {i:Nat} {x:Str} (hN:X.N.Nodup) (hi:X.N[i]?=some x) (hx:Loc X.env.scope x) (hf:X.fn x=true∨X.env.scope.names.lookup x=some .local:=by first | exact .inl rfl | exact .inr rfl | assumption):PG X (.Name x pos) (gName i):=by
  intro pins s σ H v u Q I r h
  exact wpAny_assign_Name (store_ok I hN hi hx r (fun s' I'=>⟨_,H,I',h⟩) hf)
def gNil:TGs:=fun vs σ H Q=>vs=[]∧Q σ H
def gCons (t:TG) (u:TGs):TGs:=fun vs σ H Q=>∃v r,vs=v::r∧t v σ H fun σ' H'=>u r σ' H' Q
theorem pgs_nil:PGs X [] gNil:=by
  intro pins s σ H vs us Q I r h
  obtain⟨e,h⟩:=h
  subst e
  cases r
  exact assignInOrder_nil ⟨σ,H,I,h⟩
theorem pgs_cons {e:Expr} {es:List Expr} {t:TG} {u:TGs} (h1:PG X e t) (h2:PGs X es u)
    (hs:(assignEach (e::es) X.env).map (·.2)=assign e X.env::(assignEach es X.env).map (·.2):=by rfl):PGs X (e::es) (gCons t u):=by
  intro pins s σ H vs us Q I r h
  obtain⟨v,vr,e1,h⟩:=h
  subst e1
  cases r with
  | cons r rr=>
    rw[hs]
    refine assignInOrder_cons (thn (h1 pins s σ H _ _ _ I r h) fun _ s1 zz23=>zz23.elim fun σ1 zz24=>zz24.elim fun H1 zz25=>zz25.elim fun I1 q1=>?_)
    exact h2 pins s1 σ1 H1 _ _ Q I1 rr q1
def gTup (K:PySem.W.Frag) (n:Nat) (t:TGs):TG:=fun v σ H Q=>∃a xs,v=.ref a∧SqT K H a xs∧xs.length=n∧t xs σ H Q
theorem pg_tup {es:List Expr} {k:Nat} {t:TGs} {n:Nat} (hc:X.calm=true) (h:PGs X es t)
    (hn:(assignEach es X.env).length=n:=by rfl) (hst:(assignEach es X.env).findIdx? (·.1)=none:=by rfl):PG X (.Tuple es k pos) (gTup X.K n t):=by
  intro pins s σ H v u Q I r hw
  obtain⟨a,xs,e1,hq,hl,hw⟩:=hw
  subst e1
  cases r
  obtain⟨its,rv,ht,hz⟩:=I.tuple hq
  refine assign_Tuple_tuple (I.ok.hd hc) ht (by simp [hn,←hl,rv.length]) hst fun h' hx=>?_
  have I1:Inv X pins σ H { s with heap:=h' }:=I.kept (t':=s.toks) fun b o e=>hx b o (Nat.ne_of_lt (Heap.lt_size e)) e
  exact h pins _ σ H xs _ Q I1 (by simpa using rv) hw
def gSub (to ti:TE) (t:TSet):TG:=fun v σ H Q=>to σ H fun o H1=>ti σ H1 fun i H2=>t o i v H2 fun H3=>Q σ H3
theorem pg_sub {o i:Expr} {to ti:TE} {t:TSet} (ho:PE X o to) (hi:PE X i ti) (hs:PSet X t)
    (ha:∀v,assign (.Subscript o i pos) X.env v=(do
      let ov ←holding [v] (eval o X.env)
      let iv ←holding [v,ov] (eval i X.env)
      standAt pos
      holding [v,ov,iv] (setItem ov iv v)
      release [v,ov,iv] []):=by intro _;rfl):PG X (.Subscript o i pos) (gSub to ti t):=by
  intro pins s σ H v u Q I r h
  rw[ha]
  refine wpAny_bind (wpAny_holding (thn (ho pins s σ H _ I h) fun ov s1 zz26=>el5 zz26 fun x H1 I1 r1 q1=>?_))
  refine wpAny_bind (wpAny_holding (thn (hi pins s1 σ H1 _ I1 q1) fun iv s2 zz27=>el5 zz27 fun y H2 I2 r2 q2=>?_))
  refine wpAny_bind (wpAny_standAt (wpAny_bind (wpAny_holding (thn (hs pins s2 σ H2 x y v ov iv u _ I2 r1 r2 r q2) fun _ s3 zz28=>el2 zz28 fun H3 I3 q3=>?_))))
  exact wpAny_release ⟨σ,H3,I3,q3⟩
def tAsg (te:TE) (g:TG):TS:=fun D σ H=>te σ H fun x H1=>g x σ H1 D.nx
theorem ps_asg {tg e:Expr} {te:TE} {g:TG} (he:PE X e te) (hg:PG X tg g) (hs:swapsWithSole [tg] e pos.line X.env=pure false:=by rfl) (hw:swappedStores [tg] e X.env=pure none:=by rfl)
    (h1:(assignEach [tg] X.env).map (·.2)=[assign tg X.env]:=by rfl):PS X (.Assign [tg] e pos) (tAsg te g):=by
  intro pins s σ H D I h
  refine wpAny_Assign_stores (thn (he pins s σ H _ I h) fun v s1 zz29=>el5 zz29 fun x H1 I1 r1 q1=>?_) hs hw
  rw[h1]
  exact thn (hg pins s1 σ H1 x v _ I1 r1 q1) fun _ s2 q=>q
theorem ps_set {i:Nat} {x:Str} {e:Expr} {te:TE} {pos':Pos} (hN:X.N.Nodup) (hi:X.N[i]?=some x) (hx:Loc X.env.scope x) (he:PE X e te) (hs:swapsWith e (some (.Name x pos')) pos.line X.env=pure false:=by rfl) (hf:X.fn x=true∨X.env.scope.names.lookup x=some .local:=by first | exact .inl rfl | exact .inr rfl | assumption) :
    PS X (.Assign [.Name x pos'] e pos) (tAsg te (gName i)):=by
  intro pins s σ H D I h
  refine wpAny_Assign_Name (thn (he pins s σ H _ I h) fun v s1 zz30=>el5 zz30 fun y H1 I1 r1 q1=>?_) hs
  exact store_ok I1 hN hi hx r1 (fun s2 I2=>⟨_,H1,I2,q1⟩) hf
def tAugS (to ti te:TE) (tget:V→V→Hp→VK→Prop) (tip:TIp) (tset:TSet):TS:=fun D σ H=>to σ H fun o H1=>ti σ H1 fun i H2=>tget o i H2 fun x H3=>te σ H3 fun y H4=>tip x y H4 fun z H5=>tset o i z H5 fun H6=>D.nx σ H6
def PGet (X:Cx) (t:V→V→Hp→VK→Prop):Prop:=
  ∀(pins:List (Addr×Obj)) (s:Shared) (σ:St) (H:Hp) (o i:V) (ov iv:Value) (Q:VK),Inv X pins σ H s→RelV o ov→RelV i iv→t o i H Q→
    wpAny (model X.prog X.w) X.A (getItem ov iv) (EP X pins σ Q) X.xe s
theorem ps_augS {o i e:Expr} {to ti te:TE} {tget:V→V→Hp→VK→Prop} {tip:TIp} {tset:TSet} {op:Operator} {tpos:Pos} (ho:PE X o to) (hi:PE X i ti) (hg:PGet X tget) (he:PE X e te) (hp:PIp X op tip) (hs:PSet X tset)
    (ha:∀ov iv new,augStore i ov iv new=(do holding [new,ov,iv] (setItem ov iv new);release [new,ov,iv] [];pure .next):=by intros;rfl):PS X (.AugAssign (.Subscript o i tpos) op e pos) (tAugS to ti te tget tip tset):=by
  intro pins s σ H D I h
  refine wpAny_AugAssign_SubscriptAny (thn (ho pins s σ H _ I h) fun ov s1 zz34=>el5 zz34 fun x1 H1 I1 r1 q1=>?_) ha
  refine thn (hi pins s1 σ H1 _ I1 q1) fun iv s2 zz35=>el5 zz35 fun x2 H2 I2 r2 q2=>?_
  refine thn (hg pins s2 σ H2 x1 x2 ov iv _ I2 r1 r2 q2) fun old s3 zz36=>el5 zz36 fun x3 H3 I3 r3 q3=>?_
  refine thn (he pins s3 σ H3 _ I3 q3) fun v s4 zz37=>el5 zz37 fun x4 H4 I4 r4 q4=>?_
  refine thn (hp pins s4 σ H4 x3 x4 old v _ I4 r3 r4 q4) fun new s5 zz38=>el5 zz38 fun x5 H5 I5 r5 q5=>?_
  exact thn (hs pins s5 σ H5 x1 x2 x5 ov iv new _ I5 r1 r2 r5 q5) fun _ s6 zz39=>el2 zz39 fun H6 I6 q6=>⟨σ,H6,I6,q6⟩
def ipI (f:Int→Int→Int):TIp:=fun x y H Q=>∃i j,x=.int i∧y=.int j∧Q (.int (f i j)) H
theorem ip_add:PIp X .Add (ipI fun i j=>i + j):=by
  intro pins s σ H x y v u Q I r1 r2 h
  obtain⟨i,j,e1,e2,q⟩:=h
  subst e1;subst e2
  obtain⟨t,rfl⟩:=r1
  obtain⟨t',rfl⟩:=r2
  exact iadd_int ⟨.int _,H,I.tok _,⟨_,rfl⟩,q⟩
theorem ip_sub:PIp X .Sub (ipI fun i j=>i - j):=by
  intro pins s σ H x y v u Q I r1 r2 h
  obtain⟨i,j,e1,e2,q⟩:=h
  subst e1;subst e2
  obtain⟨t,rfl⟩:=r1
  obtain⟨t',rfl⟩:=r2
  exact isub_int ⟨.int _,H,I.tok _,⟨_,rfl⟩,q⟩
def tWhile (c:TT) (tb:TS):TS:=fun D σ H=>∃W:Nat→St→Hp→Prop,(∃m,W m σ H)∧∀m σ H,W m σ H→
  c σ H fun b H1=>if b=true then ∃N:St→Hp→Prop,(∀σ' H',N σ' H'→∃m',m' < m∧W m' σ' H')∧tb { D with nx:=N,ct:=N,bk:=D.nx } σ H1 else D.nx σ H1
theorem ps_while {c:Expr} {body:List Stmt} {tc:TT} {tb:TS} (hp:PassesOwn (model X.prog X.w) X.A X.env X.xe) (hc:PT X c tc) (hb:PSs X body tb):PS X (.While c body [] pos) (tWhile tc tb):=by
  intro pins s σ H D I h
  obtain⟨W,⟨m0,w0⟩,turn⟩:=h
  refine wpAny_While (codeAny_whileLoop (fun n s'=>∃σ' H',Inv X pins σ' H' s'∧W n σ' H') ?_ m0 ⟨σ,H,I,w0⟩)
  rintro n s1 ⟨σ1,H1,I1,w1⟩
  refine wpAny_passesOwn hp (thn (hc pins s1 σ1 H1 _ I1 (turn n σ1 H1 w1)) fun b s2 zz40=>el2 zz40 fun H2 I2 q2=>?_)
  cases b with
  | true=>
    obtain⟨N,hN,q2⟩:=q2
    rw[if_pos rfl]
    refine wpAny_passesOwn hp (thn (hb pins s2 σ1 H2 _ I2 q2) fun f s3 q3=>?_)
    cases f with
    | next=>
      obtain⟨σ3,H3,I3,n3⟩:=q3
      obtain⟨m',hm,w3⟩:=hN σ3 H3 n3
      exact⟨m',hm,σ3,H3,I3,w3⟩
    | cont=>
      obtain⟨σ3,H3,I3,n3⟩:=q3
      obtain⟨m',hm,w3⟩:=hN σ3 H3 n3
      exact⟨m',hm,σ3,H3,I3,w3⟩
    | brk=>exact q3
    | ret v=>exact q3
  | false=>
    rw[if_neg Bool.false_ne_true]
    exact wpAny_execs_nil ⟨σ1,H2,I2,q2⟩
end
structure It where
  go:Nat→Hp→Prop
  yld:Nat→Hp→V→Hp→Prop
  stop:Nat→Hp→Prop
def FpOk (X:Cx) (pins:List (Addr×Obj)) (H:Hp) (b:Addr):Prop:=
  H b=none∧b≠X.env.locals∧b∉X.fs∧(b∈X.ex∨X.s₀.heap.objs.size≤b)∧(∀x c,X.env.cells.lookup x=some c→c≠b)∧∀p∈X.pn++pins,p.1≠b
theorem Inv.fpOk {X:Cx} {pins:List (Addr×Obj)} {σ:St} {H H':Hp} {s:Shared} {b:Addr} (I:Inv X pins σ H s) (hb:s.heap.objs.size≤b) (hn:H' b=none):FpOk X pins H' b:=by
  refine⟨hn,Nat.ne_of_gt (Nat.lt_of_lt_of_le I.lt hb),I.nofs hb,.inr (Nat.le_trans I.sz hb),fun x c e z=>?_,fun p hp z=>?_⟩
  · obtain⟨v,q⟩:=I.cell x c e
    exact absurd (Nat.lt_of_lt_of_le q.lt (by rw[z];exact hb)) (Nat.lt_irrefl _)
  · exact absurd (Nat.lt_of_lt_of_le (Heap.lt_size (I.pin p hp).1) (by rw[z];exact hb)) (Nat.lt_irrefl _)
structure Turn (P:Program) (w:World) (K:PySem.W.Frag) (tg:Expr) (J:It) (fp:List Addr) (it:Addr) (tn:Nat→Heap→Prop):Prop where
  mem:it∈fp
  obj:∀i h,tn i h→∀b∈fp,∃o,h.get? b=some o∧∀v,o.data≠.cell v
  keep:∀i h h',tn i h→(∀b∈fp,∀o,h.get? b=some o→h'.get? b=some o)→tn i h'
  item:∀(X:Cx),X.prog=P→X.w=w→X.K=K→X.calm=true→∀(i:Nat) (pins:List (Addr×Obj)) (s:Shared) (σ:St) (H:Hp) (E:Value→Shared→Prop),Inv X pins σ H s→(∀b∈fp,FpOk X pins H b)→tn i s.heap→J.go i H→
    wpAny (model P w) X.A (pyNext (.ref it)) (fun r s1=>∃u,r=some u∧
      wpAny (model P w) X.A (letOwnedTupleGo tg (.ref it) u) (fun _ s2=>∃x H',Inv X pins σ H' s2∧RelV x u∧J.yld i H x H'∧tn (i + 1) s2.heap∧∀b∈fp,H' b=none) E s1) E s
  done:∀(X:Cx),X.prog=P→X.w=w→X.K=K→X.calm=true→∀(i:Nat) (pins:List (Addr×Obj)) (s:Shared) (σ:St) (H:Hp) (E:Value→Shared→Prop),Inv X pins σ H s→(∀b∈fp,FpOk X pins H b)→tn i s.heap→J.stop i H→
    wpAny (model P w) X.A (pyNext (.ref it)) (fun r s1=>r=none∧Inv X pins σ H s1) E s
  self:∀(A:Around) (i:Nat) (s:Shared) (Q:Value→Shared→Prop) (E:Value→Shared→Prop),tn i s.heap→Q (.ref it) s→wpAny (model P w) A (pyIter (.ref it)) Q E s
abbrev TI:=St→Hp→(It→Hp→Prop)→Prop
def PIE (X:Cx) (pins:List (Addr×Obj)) (σ:St) (tg:Expr) (R:It→Hp→Prop) (itv:Value) (s2:Shared):Prop:=
  ∃(it:Addr) (fp:List Addr) (tn:Nat→Heap→Prop) (J:It) (H':Hp),itv=.ref it∧Inv X pins σ H' s2∧Turn X.prog X.w X.K tg J fp it tn∧tn 0 s2.heap∧(∀b∈fp,FpOk X pins H' b)∧R J H'
def PI (X:Cx) (tg iter:Expr) (wi:TI):Prop:=
  ∀(pins:List (Addr×Obj)) (s:Shared) (σ:St) (H:Hp) (R:It→Hp→Prop),Inv X pins σ H s→wi σ H R→
    wpAny (model X.prog X.w) X.A (eval iter X.env) (fun v s1=>wpAny (model X.prog X.w) X.A (pyIter v) (PIE X pins σ tg R) X.xe s1) X.xe s
theorem go_of {M:Model} {A:Around} {E:Value→Shared→Prop} {s:Shared} {tg:Expr} {it:Addr} {u:Value} {o:Obj} {n:String} {vs:Array Value} {Q:Unit→Shared→Prop} (ho:s.heap.get? it=some o) (hc:o.cls=.type n) (hd:o.data=.fields vs)
    (hn:["enumerate", "zip", "dict_itemiterator", "dict_reverseitemiterator", "odict_iterator", "itertools.zip_longest", "itertools.pairwise"].contains n=false) (hQ:Q () s):wpAny M A (letOwnedTupleGo tg (.ref it) u) Q E s:=by
  unfold letOwnedTupleGo
  cases tg <;> first
    | exact wpAny_pure hQ
    | (cases u <;> first
        | exact wpAny_pure hQ
        | (refine wpAny_bind (wpAny_load ho ?_)
           rw[hc,hd]
           show wpAny M A (if (["enumerate", "zip", "dict_itemiterator", "dict_reverseitemiterator", "odict_iterator", "itertools.zip_longest", "itertools.pairwise"].contains n&&vs[0]? == some (rawInt _))=true then _ else _) Q E s
           rw[if_neg (by intro h;rw[hn,Bool.false_and] at h;cases h)]
           exact wpAny_pure hQ))
def Itl (K:PySem.W.Frag) (a:Addr):It:=
  ⟨fun i H=>∃xs x,SqL K H a xs∧xs[i]?=some x,fun i H x H'=>H'=H∧∀xs,SqL K H a xs→xs[i]?=some x,fun i H=>∃xs,SqL K H a xs∧xs.length≤i⟩
def Itr (lo:Int) (n:Nat):It:=⟨fun i _=>i < n,fun i H x H'=>H'=H∧x=.int (lo + i),fun i _=>n≤i⟩
theorem turn_list {P:Program} {w:World} {K:PySem.W.Frag} {tg:Expr} (a it:Addr):Turn P w K tg (Itl K a) [it] it (fun i h=>h.IsListIter it a i) where
  mem:=by simp
  obj:=fun i h st b hb=>by
    have e:b=it:=by simpa using hb
    subst e
    obtain⟨o,e,c,d⟩:=st
    exact⟨o,e,fun v z=>by rw[d] at z;cases z⟩
  keep:=fun i h h' st k=>st.at fun o e=>k it (by simp) o e
  item:=by
    intro X hP hw hK hc i pins s σ H E I hf st hg
    subst hP hw hK
    obtain⟨xs,x,hq,hx⟩:=hg
    obtain⟨its,rv,p,hz⟩:=I.list hq
    obtain⟨u,hu,ru⟩:=rv.get hx
    obtain⟨f0,f1,f2,f3,f4,f5⟩:=hf it (by simp)
    refine wpAny_pyNext_list_item st p.isList (x:=u) (by simpa using hu) fun h' st' sb=>?_
    have I1:Inv X pins σ H { s with heap:=h' }:=I.turned (t':=s.toks) (fun b o hb e=>(sb.2 b hb).trans e) f0 f1 f3 f4 f5
    obtain⟨o,e,c,d⟩:=id st'
    exact⟨u,rfl,go_of (s:={ s with heap:=h' }) e c d (by decide) ⟨x,H,I1,ru,⟨rfl,fun ys hy=>by rw[I.list_inj hy hq];exact hx⟩,st',fun b hb=>(hf b hb).1⟩⟩
  done:=by
    intro X hP hw hK hc i pins s σ H E I hf st hg
    subst hP hw hK
    obtain⟨xs,hq,hx⟩:=hg
    obtain⟨its,rv,p,hz⟩:=I.list hq
    obtain⟨f0,f1,f2,f3,f4,f5⟩:=hf it (by simp)
    have hl:=rv.length
    exact wpAny_pyNext_list_end (I.ok.hd hc) st p.isList (by simp;lia) fun h' eb=>⟨rfl,I.turned (t':=s.toks) (fun b o hb e=>eb b o hb e) f0 f1 f3 f4 f5⟩
  self:=fun _ _ _ _ _ st h=>wpAny_pyIter_listiter st h
theorem turn_range {P:Program} {w:World} {K:PySem.W.Frag} {tg:Expr} (it:Addr) (lo:Int) (n:Nat):Turn P w K tg (Itr lo n) [it] it (fun i h=>IsRangeIter h it (lo + (i:Nat) * 1) ((n:Int) - (i:Nat)) 1) where
  mem:=by simp
  obj:=fun i h st b hb=>by
    have e:b=it:=by simpa using hb
    subst e
    exact⟨_,st,fun v z=>by
      have z':Data.fields _=Data.cell v:=z
      cases z'⟩
  keep:=fun i h h' st k=>k it (by simp) _ st
  item:=by
    intro X hP hw hK hc i pins s σ H E I hf st hg
    subst hP hw hK
    obtain⟨f0,f1,f2,f3,f4,f5⟩:=hf it (by simp)
    have W:=Walks.range (prog:=X.prog) (w:=X.w) (I.ok.hd hc) it lo 1 n
    refine W.item i s _ _ hg st fun v h' tk hv st' kk=>?_
    obtain⟨t,rfl⟩:=hv
    have I1:Inv X pins σ H { s with heap:=h',toks:=tk }:=I.turned (fun b o hb e=>kk b o (by simpa using hb) e) f0 f1 f3 f4 f5
    refine⟨_,rfl,go_of (s:={ s with heap:=h',toks:=tk }) (n:= "range_iterator") st' rfl rfl (by decide) ⟨.int (lo + i),H,I1,⟨t,?_⟩,⟨rfl,rfl⟩,st',fun b hb=>(hf b hb).1⟩⟩
    rw[Int.mul_one]
  done:=by
    intro X hP hw hK hc i pins s σ H E I hf st hg
    subst hP hw hK
    obtain⟨f0,f1,f2,f3,f4,f5⟩:=hf it (by simp)
    exact wpAny_pyNext_range_end (I.ok.hd hc) st (by have:n≤i:=hg;lia) fun h' eb=>⟨rfl,I.turned (t':=s.toks) (fun b o hb e=>eb b o hb e) f0 f1 f3 f4 f5⟩
  self:=fun _ _ _ _ _ st h=>wpAny_pyIter_rangeiter st h
section
variable {X:Cx} {tg:Expr}
def iList (K:PySem.W.Frag) (tl:TE):TI:=fun σ H R=>tl σ H fun x H1=>∃a,x=.ref a∧(∃xs,SqL K H1 a xs)∧R (Itl K a) H1
theorem pi_list {l:Expr} {tl:TE} (hl:PE X l tl):PI X tg l (iList X.K tl):=by
  intro pins s σ H R I h
  refine thn (hl pins s σ H _ I h) fun v s1 zz41=>el5 zz41 fun x H1 I1 r1 q1=>?_
  obtain⟨a,e,⟨xs,hq⟩,q⟩:=q1
  subst e
  cases r1
  obtain⟨its,rv,p,hz⟩:=I1.list hq
  refine wpAny_pyIter_list p.isList ?_
  refine⟨s1.heap.objs.size,[s1.heap.objs.size],_,_,H1,rfl,I1.kept (t':=s1.toks) fun b o e=>Heap.get?_push_of_some _ e,turn_list a _,⟨_,Heap.get?_push_size _ rfl,rfl,rfl⟩,fun b hb=>?_,q⟩
  have e:b=s1.heap.objs.size:=by simpa using hb
  subst e
  exact I1.fpOk (Nat.le_refl _) (I1.hok.fresh (Nat.le_refl _))
theorem range_it {pins:List (Addr×Obj)} {σ:St} {H:Hp} {s:Shared} {R:It→Hp→Prop} {E:Value→Shared→Prop} {lo hi:Int} {t u v:Tok} {tk:Nat} (I:Inv X pins σ H s) (h1:-(2 ^ 62)≤lo) (h2:lo < 2 ^ 62) (h3:-(2 ^ 62)≤hi) (h4:hi < 2 ^ 62)
    (q:R (Itr lo (hi - lo).toNat) H):wpAny (model X.prog X.w) X.A (pyIter (.ref s.heap.objs.size)) (PIE X pins σ tg R) E { s with heap:=s.heap.push { cls:=.type "range",data:=.fields #[.int lo t,.int hi u,.int 1 v] },toks:=tk }:=by
  refine wpAny_pyIter_range (IsRange.new ..) (small_one h1 h2 h3 h4) ?_
  have I1:Inv X pins σ H { s with heap:=s.heap.push { cls:=.type "range",data:=.fields #[.int lo t,.int hi u,.int 1 v] },toks:=tk }:=I.kept fun b o e=>Heap.get?_push_of_some _ e
  refine⟨(s.heap.push { cls:=.type "range",data:=.fields #[.int lo t,.int hi u,.int 1 v] }).objs.size,[(s.heap.push { cls:=.type "range",data:=.fields #[.int lo t,.int hi u,.int 1 v] }).objs.size],_,_,H,rfl,
    I1.kept (t':=tk) fun b o e=>Heap.get?_push_of_some _ e,turn_range _ lo (hi - lo).toNat,?_,fun b hb=>?_,q⟩
  · have e1:lo + ((0:Nat):Int) * 1=lo:=by simp
    have e2:(((hi - lo).toNat:Nat):Int) - ((0:Nat):Int)=Builtin.Range.rangeSize lo hi 1:=by rw[rangeSize_one];split <;> lia
    show IsRangeIter _ _ (lo + ((0:Nat):Int) * 1) ((((hi - lo).toNat:Nat):Int) - ((0:Nat):Int)) 1
    rw[e1,e2]
    exact Heap.get?_push_size _ rfl
  · have e:b=(s.heap.push { cls:=.type "range",data:=.fields #[.int lo t,.int hi u,.int 1 v] }).objs.size:=by simpa using hb
    subst e
    exact I1.fpOk (Nat.le_refl _) (I1.hok.fresh (Nat.le_refl _))
def iRng1 (ta:TA):TI:=fun σ H R=>ta σ H fun vs H1=>∃j:Int,vs=[.int j]∧-(2 ^ 62)≤j∧j < 2 ^ 62∧R (Itr 0 j.toNat) H1
theorem pi_range1 {a:Expr} {ta:TA} {p pos:Pos} (hg:Gl X "range") (hm:X.mg "range" = none) (ha:PA X [a] ta) (hs:starEach [a] X.env=[(false,eval a X.env)]:=by rfl):PI X tg (.Call (.Name "range" p) [a] [] pos) (iRng1 ta):=by
  intro pins s σ H R I h
  refine Call_ (ld_blt I hg hm boot_range (PyProof.Rows.callWith_type1 (thn (ha pos pins s σ H _ I h) fun us s1 zz43=>el5 zz43 fun vs H1 I1 r1 q1=>?_) hs rfl))
  obtain⟨j,e,q1,q2,q⟩:=q1
  subst e
  cases r1 with
  | cons r rr=>
    cases rr
    obtain⟨t,rfl⟩:=r
    exact call_range_1 (range_it I1 (by lia) (by lia) q1 q2 (by simpa using q))
def tFor (wi:TI) (g:TG) (tb:TS):TS:=fun D σ H=>wi σ H fun J H1=>∃W:Nat→Nat→St→Hp→Prop,(∃m,W 0 m σ H1)∧∀i m σ H,W i m σ H→
  (J.stop i H∧D.nx σ H)∨(J.go i H∧∃N:St→Hp→Prop,(∀σ' H',N σ' H'→∃m',m' < m∧W (i + 1) m' σ' H')∧∀x H',J.yld i H x H'→g x σ H' fun σ2 H2=>tb { D with nx:=N,ct:=N,bk:=D.nx } σ2 H2)
def pinsAt (fp:List Addr) (h:Heap):List (Addr×Obj):=fp.filterMap fun b=>(h.get? b).map fun o=>(b,o)
theorem mem_pinsAt {fp:List Addr} {h:Heap} {b:Addr} {o:Obj} (hb:b∈fp) (e:h.get? b=some o):(b,o)∈pinsAt fp h:=List.mem_filterMap.mpr ⟨b,hb,by rw[e];rfl⟩
theorem of_pinsAt {fp:List Addr} {h:Heap} {p:Addr×Obj} (hp:p∈pinsAt fp h):p.1∈fp∧h.get? p.1=some p.2:=by
  obtain⟨b,hb,e⟩:=List.mem_filterMap.mp hp
  cases q:h.get? b with
  | none=>rw[q] at e;cases e
  | some o=>
    rw[q] at e
    have e':(b,o)=p:=Option.some.inj e
    subst e'
    exact⟨hb,q⟩
theorem Inv.pinned {pins:List (Addr×Obj)} {σ:St} {H:Hp} {s:Shared} {fp:List Addr} (I:Inv X pins σ H s) (hf:∀b∈fp,FpOk X pins H b) (ho:∀b∈fp,∃o,s.heap.get? b=some o∧∀v,o.data≠.cell v):Inv X (pins++pinsAt fp s.heap) σ H s:=
  I.pins_of fun p hp=>(List.mem_append.mp hp).elim (fun z=>I.pin p (List.mem_append_right _ z)) fun z=>by
    obtain⟨hb,e⟩:=of_pinsAt z
    obtain⟨f0,f1,f2,_⟩:=hf p.1 hb
    obtain⟨o,e',d⟩:=ho p.1 hb
    rw[e] at e';cases e'
    exact⟨e,f0,f1,f2,d⟩
theorem Inv.unpinned {pins pl:List (Addr×Obj)} {σ:St} {H:Hp} {s:Shared} (I:Inv X (pins++pl) σ H s):Inv X pins σ H s:=I.pins_of fun p hp=>I.pin p (List.mem_append_right _ (List.mem_append_left _ hp))
theorem ps_for {iter:Expr} {body:List Stmt} {wi:TI} {g:TG} {tb:TS} {pos:Pos} (hp:PassesOwn (model X.prog X.w) X.A X.env X.xe) (hc:X.calm=true) (hi:PI X tg iter wi) (hg:PG X tg g) (hb:PSs X body tb)
    (hs:∀x,foldedSetIterable iter X.env x=pure x:=by intro _;rfl):PS X (.For tg iter body [] pos) (tFor wi g tb):=by
  intro pins s σ H D I h
  refine wpAny_For (thn (hi pins s σ H _ I h) fun v s1 h1=>thn h1 fun itv s2 h2=>?_) hs
  obtain⟨it,fp,tn,J,H2,e,I2,T,st2,f2,W,⟨m0,w0⟩,turn⟩:=h2
  subst e
  have stat:∀{H':Hp},(∀b∈fp,H' b=none)→∀b∈fp,FpOk X pins H' b:=fun hn b hb=>⟨hn b hb,(f2 b hb).2⟩
  refine codeAny_forLoop_any (fun n s'=>∃i σ' H',Inv X pins σ' H' s'∧tn i s'.heap∧(∀b∈fp,H' b=none)∧W i n σ' H') ?_ m0 ⟨0,σ,H2,I2,st2,fun b hb=>(f2 b hb).1,w0⟩
  rintro n s3 ⟨i,σ3,H3,I3,st3,fr3,w3⟩
  rcases turn i n σ3 H3 w3 with ⟨stop,qn⟩ | ⟨go,N,hN,step⟩
  · refine wpAny_passesOwn hp (thn (T.done X rfl rfl rfl hc i pins s3 σ3 H3 X.xe I3 (stat fr3) st3 stop) fun r s4 zz45=>zz45.elim fun hr I4=>?_)
    subst hr
    exact wpAny_execs_nil ⟨σ3,H3,I4,qn⟩
  · refine wpAny_passesOwn hp (thn (T.item X rfl rfl rfl hc i pins s3 σ3 H3 X.xe I3 (stat fr3) st3 go) fun r s4 zz46=>el2 zz46 fun u hr h4=>?_)
    subst hr
    refine wpAny_passesOwn hp (thn h4 fun _ s5 zz47=>zz47.elim fun x zz48=>zz48.elim fun H5 zz49=>zz49.elim fun I5 zz50=>zz50.elim fun r5 zz51=>zz51.elim fun y5 zz52=>zz52.elim fun st5 fr5=>?_)
    have I5':=I5.pinned (stat fr5) (T.obj _ _ st5)
    refine wpAny_passesOwn hp (thn (hg _ s5 σ3 H5 x u _ I5' r5 (step x H5 y5)) fun _ s6 zz53=>zz53.elim fun σ6 zz54=>zz54.elim fun H6 zz55=>zz55.elim fun I6 q6=>?_)
    refine wpAny_passesOwn hp (thn (hb _ s6 σ6 H6 _ I6 q6) fun f s7 q7=>?_)
    have again:∀{σ7:St} {H7:Hp},Inv X (pins++pinsAt fp s5.heap) σ7 H7 s7→N σ7 H7→∃m,m < n∧∃i σ' H',Inv X pins σ' H' s7∧tn i s7.heap∧(∀b∈fp,H' b=none)∧W i m σ' H':=fun {σ7 H7} I7 n7=>by
      obtain⟨m',hm,w7⟩:=hN σ7 H7 n7
      refine⟨m',hm,i + 1,σ7,H7,I7.unpinned,T.keep _ _ _ st5 fun b hb o e=>(I7.pin (b,o) (List.mem_append_right _ (List.mem_append_right _ (mem_pinsAt hb e)))).1,fun b hb=>?_,w7⟩
      obtain⟨o,e,d⟩:=T.obj _ _ st5 b hb
      exact (I7.pin (b,o) (List.mem_append_right _ (List.mem_append_right _ (mem_pinsAt hb e)))).2.1
    cases f with
    | next=>obtain⟨σ7,H7,I7,n7⟩:=q7;exact again I7 n7
    | cont=>obtain⟨σ7,H7,I7,n7⟩:=q7;exact again I7 n7
    | brk=>obtain⟨σ7,H7,I7,q7⟩:=q7;exact⟨σ7,H7,I7.unpinned,q7⟩
    | ret v=>obtain⟨x7,σ7,H7,I7,r7,q7⟩:=q7;exact⟨x7,σ7,H7,I7.unpinned,r7,q7⟩
end
theorem while_by {c:TT} {tb:TS} {D:Ends} {σ:St} {H:Hp} (Pv:St→Hp→Prop) (μ:St→Hp→Nat) (h0:Pv σ H)
    (hs:∀σ H,Pv σ H→c σ H fun b H1=>if b=true then tb { D with nx:=fun σ' H'=>Pv σ' H'∧μ σ' H' < μ σ H,ct:=fun σ' H'=>Pv σ' H'∧μ σ' H' < μ σ H,bk:=D.nx } σ H1 else D.nx σ H1)
    (mono:∀σ H Q Q',(∀b H1,Q b H1→Q' b H1)→c σ H Q→c σ H Q'):tWhile c tb D σ H:=by
  refine⟨fun m σ H=>m=μ σ H∧Pv σ H,⟨_,rfl,h0⟩,?_⟩
  rintro m σ H ⟨rfl,p⟩
  refine mono σ H _ _ (fun b H1 q=>?_) (hs σ H p)
  cases b with
  | true=>exact⟨_,fun σ' H' zz56=>zz56.elim fun p' l=>⟨_,l,rfl,p'⟩,q⟩
  | false=>exact q
abbrev R2:=V→V→Hp→VK→Prop
def OpR (X:Cx) (f:Value→Value→Sem Value) (r:R2):Prop:=
  ∀(pins:List (Addr×Obj)) (s:Shared) (σ:St) (H:Hp) (x y:V) (v u:Value) (Q:VK),Inv X pins σ H s→RelV x v→RelV y u→r x y H Q→
    wpAny (model X.prog X.w) X.A (f v u) (EP X pins σ Q) X.xe s
def UnR (X:Cx) (f:Value→Sem Value) (r:V→Hp→VK→Prop):Prop:=
  ∀(pins:List (Addr×Obj)) (s:Shared) (σ:St) (H:Hp) (x:V) (v:Value) (Q:VK),Inv X pins σ H s→RelV x v→r x H Q→
    wpAny (model X.prog X.w) X.A (f v) (EP X pins σ Q) X.xe s
def CallR (X:Cx) (f:Value) (r:List V→Hp→VK→Prop):Prop:=
  ∀(pins:List (Addr×Obj)) (s:Shared) (σ:St) (H:Hp) (xs:List V) (us:List Value) (Q:VK),Inv X pins σ H s→Vals xs us→r xs H Q→
    wpAny (model X.prog X.w) X.A (call f us) (EP X pins σ Q) X.xe s
def tOp (r:R2) (ta tb:TE):TE:=fun σ H Q=>ta σ H fun x H1=>tb σ H1 fun y H2=>r x y H2 Q
def tUn (r:V→Hp→VK→Prop) (ta:TE):TE:=fun σ H Q=>ta σ H fun x H1=>r x H1 Q
def rI (C:Int→Int→Prop) (g:Int→Int→V):R2:=fun x y H Q=>∃i j,x=.int i∧y=.int j∧C i j∧Q (g i j) H
def rI0 (g:Int→Int→V):R2:=fun x y H Q=>∃i j,x=.int i∧y=.int j∧Q (g i j) H
def rU (g:Int→V):V→Hp→VK→Prop:=fun x H Q=>∃i,x=.int i∧Q (g i) H
section
variable {X:Cx} {a b c:Expr} {ta tb tc:TE} {pos:Pos}
theorem binT (ha:PE X a ta) (hb:PE X b tb) {pins:List (Addr×Obj)} {s:Shared} {σ:St} {H:Hp} {R:V→V→Hp→Prop} (I:Inv X pins σ H s)
    (h:ta σ H fun x H1=>tb σ H1 fun y H2=>R x y H2) {Q:Value→Shared→Prop} {f:Value→Value→Sem Value}
    (hf:∀v u s2 x y H2,Inv X pins σ H2 s2→RelV x v→RelV y u→R x y H2→wpAny (model X.prog X.w) X.A (f v u) Q X.xe s2) :
    wpAny (model X.prog X.w) X.A (eval a X.env) (fun v s₁=>wpAny (model X.prog X.w) X.A (eval b X.env) (fun u s₂=>wpAny (model X.prog X.w) X.A (f v u) Q X.xe s₂) X.xe s₁) X.xe s:=by
  refine thn (ha pins s σ H _ I h) fun v s1 zz57=>el5 zz57 fun x H1 I1 r1 q1=>?_
  refine thn (hb pins s1 σ H1 _ I1 q1) fun u s2 zz58=>el5 zz58 fun y H2 I2 r2 q2=>?_
  exact hf v u s2 x y H2 I2 r1 r2 q2
theorem pe_op {op:Operator} {r:R2} (ho:OpR X (binaryOp op) r) (ha:PE X a ta) (hb:PE X b tb):PE X (.BinOp a op b pos) (tOp r ta tb):=by
  intro pins s σ H Q I h
  exact wpAny_BinOp (binT ha hb I h fun v u s2 x y H2 I2 rx ry q=>ho pins s2 σ H2 x y v u Q I2 rx ry q)
theorem pe_un {op:UnaryOp} {r:V→Hp→VK→Prop} (ho:UnR X (unaryOp op) r) (ha:PE X a ta):PE X (.UnaryOp op a pos) (tUn r ta):=by
  intro pins s σ H Q I h
  exact UnaryOp_ (thn (ha pins s σ H _ I h) fun v s1 zz59=>el5 zz59 fun x H1 I1 r1 q1=>ho pins s1 σ H1 x v Q I1 r1 q1)
theorem opI {f:Value→Value→Sem Value} {C:Int→Int→Prop} {g:Int→Int→Int}
    (rule:∀(i j:Int) (t u:Tok) (s:Shared) (Q:Value→Shared→Prop) (E:Value→Shared→Prop),C i j→Q (.int (g i j) s.toks) { s with toks:=s.toks + 1 }→wpAny (model X.prog X.w) X.A (f (.int i t) (.int j u)) Q E s) :
    OpR X f (rI C fun i j=>.int (g i j)):=by
  intro pins s σ H x y v u Q I rx ry h
  obtain⟨i,j,rfl,rfl,hc,q⟩:=h
  obtain⟨t,rfl⟩:=rx
  obtain⟨t',rfl⟩:=ry
  exact rule i j t t' s _ _ hc ⟨.int (g i j),H,I.tok _,⟨_,rfl⟩,q⟩
theorem opI0 {f:Value→Value→Sem Value} {g:Int→Int→Int}
    (rule:∀(i j:Int) (t u:Tok) (s:Shared) (Q:Value→Shared→Prop) (E:Value→Shared→Prop),Q (.int (g i j) s.toks) { s with toks:=s.toks + 1 }→wpAny (model X.prog X.w) X.A (f (.int i t) (.int j u)) Q E s) :
    OpR X f (rI0 fun i j=>.int (g i j)):=by
  intro pins s σ H x y v u Q I rx ry h
  obtain⟨i,j,rfl,rfl,q⟩:=h
  obtain⟨t,rfl⟩:=rx
  obtain⟨t',rfl⟩:=ry
  exact rule i j t t' s _ _ ⟨.int (g i j),H,I.tok _,⟨_,rfl⟩,q⟩
theorem opB0 {f:Value→Value→Sem Value} {g:Int→Int→Bool}
    (rule:∀(i j:Int) (t u:Tok) (s:Shared) (Q:Value→Shared→Prop) (E:Value→Shared→Prop),Q (.bool (g i j)) s→wpAny (model X.prog X.w) X.A (f (.int i t) (.int j u)) Q E s) :
    OpR X f (rI0 fun i j=>.bl (g i j)):=by
  intro pins s σ H x y v u Q I rx ry h
  obtain⟨i,j,rfl,rfl,q⟩:=h
  obtain⟨t,rfl⟩:=rx
  obtain⟨t',rfl⟩:=ry
  exact rule i j t t' s _ _ ⟨.bl (g i j),H,I,rfl,q⟩
def CPow (i j:Int):Prop:=0≤j∧j≤1000000∧i.natAbs < 2 ^ 64
def CMul (i j:Int):Prop:=(-(2 ^ 64) < i∧i < 2 ^ 64)∨(-(2 ^ 64) < j∧j < 2 ^ 64)
theorem CMul.ok {i j:Int} (h:CMul i j):IntMulOk i j:=by
  rcases h with ⟨h1,h2⟩ | ⟨h1,h2⟩
  · exact .of_left (intBits_le_64 h1 h2)
  · exact .of_right (intBits_le_64 h1 h2)
theorem op_add:OpR X (binaryOp .Add) (rI0 fun i j=>.int (i + j)):=opI0 fun _ _ _ _ _ _ _ q=>add_int q
theorem op_sub:OpR X (binaryOp .Sub) (rI0 fun i j=>.int (i - j)):=opI0 fun _ _ _ _ _ _ _ q=>sub_int q
theorem op_mul:OpR X (binaryOp .Mult) (rI CMul fun i j=>.int (i * j)):=opI fun _ _ _ _ _ _ _ hc q=>mul_int q hc.ok
theorem op_mod:OpR X (binaryOp .Mod) (rI (fun _ j=>0 < j) fun i j=>.int (i % j)):=opI fun i j _ _ _ _ _ hc q=>by
  have h1:(0:Int) < j:=hc
  exact mod_int' (by lia) (by rw[Int.fmod_eq_emod_of_nonneg i (by lia)];exact q)
theorem op_pow:OpR X (binaryOp .Pow) (rI CPow fun i j=>.int (i ^ j.toNat)):=opI fun _ _ _ _ _ _ _ hc q=>pow_int_small hc.1 hc.2.1 hc.2.2 q
theorem op_shl:OpR X (binaryOp .LShift) (rI CPow fun i j=>.int (i * 2 ^ j.toNat)):=opI fun _ _ _ _ _ _ _ hc q=>lshift_int_small hc.1 hc.2.1 hc.2.2 q
theorem op_and:OpR X (binaryOp .BitAnd) (rI0 fun i j=>.int (Builtin.bitAnd i j)):=opI0 fun _ _ _ _ _ _ _ q=>and_int q
theorem unI {f:Value→Sem Value} {g:Int→Int}
    (rule:∀(i:Int) (t:Tok) (s:Shared) (Q:Value→Shared→Prop) (E:Value→Shared→Prop),Q (.int (g i) s.toks) { s with toks:=s.toks + 1 }→wpAny (model X.prog X.w) X.A (f (.int i t)) Q E s) :
    UnR X f (rU fun i=>.int (g i)):=by
  intro pins s σ H x v Q I rx h
  obtain⟨i,rfl,q⟩:=h
  obtain⟨t,rfl⟩:=rx
  exact rule i t s _ _ ⟨.int (g i),H,I.tok _,⟨_,rfl⟩,q⟩
theorem un_neg:UnR X (unaryOp .USub) (rU fun i=>.int (-i)):=unI fun _ _ _ _ _ q=>neg_int q
end
def scal:V→V→Bool
  | .non,.non=>true | .non,.int _=>true | .int _,.non=>true | .non,.bl _=>true | .bl _,.non=>true | .non,.str _=>true | .str _,.non=>true
  | .int _,.int _=>true | .bl _,.bl _=>true | .str _,.str _=>true | .byt _,.byt _=>true
  | .int _,.str _=>true | .str _,.int _=>true | .bl _,.str _=>true | .str _,.bl _=>true
  | _,_=>false
def rEq:R2:=fun x y H Q=>scal x y=true∧Q (.bl (decide (x=y))) H
theorem dec_int {i j:Int}:decide (V.int i=V.int j)=(i == j):=by
  rw[Bool.eq_iff_iff]
  simp
theorem dec_bl {i j:Bool}:decide (V.bl i=V.bl j)=(i == j):=by
  rw[Bool.eq_iff_iff]
  simp
theorem dec_str {i j:Str}:decide (V.str i=V.str j)=(i == j):=by
  rw[Bool.eq_iff_iff]
  simp
theorem dec_byt {i j:Array UInt8}:decide (V.byt i=V.byt j)=(i.toList == j.toList):=by
  rw[Bool.eq_iff_iff]
  cases i
  cases j
  simp
section
variable {X:Cx} {a b c:Expr} {ta tb tc:TE} {pos:Pos}
theorem fin_bl {pins:List (Addr×Obj)} {σ:St} {H:Hp} {s:Shared} {Q:VK} {k k':Bool} (I:Inv X pins σ H s) (q:Q (.bl k) H) (e:k=k'):EP X pins σ Q (.bool k') s:=by
  subst e
  exact⟨.bl k,H,I,rfl,q⟩
theorem op_eq:OpR X (compareOp .Eq) rEq:=by
  intro pins s σ H x y v u Q I rx ry h
  obtain⟨hs,q⟩:=h
  cases x with
  | non=>
    cases rx
    cases y with
    | non=>cases ry;exact PySem.EqNone.eq_none_none (fin_bl I q (by simp))
    | bl j=>cases ry;exact PySem.EqNone.eq_none_bool (fin_bl I q (by simp))
    | int j=>obtain⟨t',rfl⟩:=ry;exact PySem.EqNone.eq_none_int (fin_bl I q (by simp))
    | str j=>obtain⟨t',rfl⟩:=ry;exact PySem.EqNone.eq_none_str (fin_bl I q (by simp))
    | _=>exact absurd (show false=true from hs) Bool.false_ne_true
  | bl i=>
    cases rx
    cases y with
    | non=>cases ry;exact PySem.EqNone.eq_bool_none (fin_bl I q (by simp))
    | bl j=>cases ry;exact eq_bool (fin_bl I q dec_bl)
    | str j=>obtain⟨t',rfl⟩:=ry;exact PySem.EqMixed.eq_bool_str (fin_bl I q (by simp))
    | _=>exact absurd (show false=true from hs) Bool.false_ne_true
  | int i=>
    obtain⟨t,rfl⟩:=rx
    cases y with
    | non=>cases ry;exact PySem.EqNone.eq_int_none (fin_bl I q (by simp))
    | int j=>obtain⟨t',rfl⟩:=ry;exact eq_int (fin_bl I q dec_int)
    | str j=>obtain⟨t',rfl⟩:=ry;exact PySem.EqMixed.eq_int_str (fin_bl I q (by simp))
    | _=>exact absurd (show false=true from hs) Bool.false_ne_true
  | str i=>
    obtain⟨t,rfl⟩:=rx
    cases y with
    | non=>cases ry;exact PySem.EqNone.eq_str_none (fin_bl I q (by simp))
    | bl j=>cases ry;exact PySem.EqMixed.eq_str_bool (fin_bl I q (by simp))
    | int j=>obtain⟨t',rfl⟩:=ry;exact PySem.EqMixed.eq_str_int (fin_bl I q (by simp))
    | str j=>obtain⟨t',rfl⟩:=ry;exact eq_str (fin_bl I q dec_str)
    | _=>exact absurd (show false=true from hs) Bool.false_ne_true
  | byt i=>
    obtain⟨t,rfl⟩:=rx
    cases y with
    | byt j=>obtain⟨t',rfl⟩:=ry;exact PySem.W.eq_bytes (fin_bl I q dec_byt)
    | _=>exact absurd (show false=true from hs) Bool.false_ne_true
  | _=>cases y <;> exact absurd (show false=true from hs) Bool.false_ne_true
theorem op_lt:OpR X (compareOp .Lt) (rI0 fun i j=>.bl (decide (i < j))):=opB0 fun _ _ _ _ _ _ _ q=>lt_int q
theorem op_le:OpR X (compareOp .LtE) (rI0 fun i j=>.bl (decide (i≤j))):=opB0 fun _ _ _ _ _ _ _ q=>le_int q
theorem op_gt:OpR X (compareOp .Gt) (rI0 fun i j=>.bl (decide (j < i))):=opB0 fun _ _ _ _ _ _ _ q=>gt_int q
theorem op_ge:OpR X (compareOp .GtE) (rI0 fun i j=>.bl (decide (j≤i))):=opB0 fun _ _ _ _ _ _ _ q=>ge_int q
theorem op_isN:OpR X (compareOp .Is) (fun x y H Q=>y=.non∧Q (.bl (decide (x=.non))) H):=by
  intro pins s σ H x y v u Q I rx ry h
  obtain⟨rfl,q⟩:=h
  cases ry
  refine is_none_gen (fin_bl I q ?_)
  cases x <;> first
    | (cases rx;rfl)
    | (obtain⟨t,rfl⟩:=rx;rfl)
theorem op_notN:OpR X (compareOp .IsNot) (fun x y H Q=>y=.non∧Q (.bl (!decide (x=.non))) H):=by
  intro pins s σ H x y v u Q I rx ry h
  obtain⟨rfl,q⟩:=h
  cases ry
  refine isnot_none_gen (fin_bl I q ?_)
  cases x <;> first
    | (cases rx;rfl)
    | (obtain⟨t,rfl⟩:=rx;rfl)
theorem nomark (b:Expr) {op:CmpOp} (h:op≠.In:=by decide) (h2:op≠.NotIn:=by decide):behindInMarks op b=false:=by
  have e1:(op == CmpOp.In)=false:=by cases op <;> first | rfl | exact absurd rfl h
  have e2:(op == CmpOp.NotIn)=false:=by cases op <;> first | rfl | exact absurd rfl h2
  cases b <;> simp [behindInMarks,e1,e2]
theorem pe_cmpR {op:CmpOp} {r:R2} (ho:OpR X (compareOp op) r) (ha:PE X a ta) (hb:PE X b tb) (hm:behindInMarks op b=false):PE X (.Compare a [op] [b] pos) (tOp r ta tb):=by
  intro pins s σ H Q I h
  exact wpAny_Compare1 (binT ha hb I h fun v u s2 x y H2 I2 rx ry q=>ho pins s2 σ H2 x y v u Q I2 rx ry q) hm
def tTest (t:TE):TT:=fun σ H Q=>t σ H fun x H'=>∃k,x=.bl k∧Q k H'
theorem pt_cmpR {op:CmpOp} {r:R2} (ho:OpR X (compareOp op) r) (ha:PE X a ta) (hb:PE X b tb) (hm:behindInMarks op b=false):PT X (.Compare a [op] [b] pos) (tTest (tOp r ta tb)):=by
  intro pins s σ H Q I h
  refine wpAny_isTrue_Compare1 (thn (ha pins s σ H _ I h) fun v s1 zz60=>el5 zz60 fun x H1 I1 r1 q1=>thn (hb pins s1 σ H1 _ I1 q1) fun u s2 zz61=>el5 zz61 fun y H2 I2 r2 q2=>
    thn (ho pins s2 σ H2 x y v u _ I2 r1 r2 q2) fun c s3 zz62=>zz62.elim fun z zz63=>zz63.elim fun H3 zz64=>zz64.elim fun I3 zz65=>zz65.elim fun r3 zz66=>zz66.elim fun k zz67=>zz67.elim fun e q3=>?_) hm
  subst e
  cases r3
  exact wpAny_truthy_bool ⟨H3,I3,q3⟩
def tChain (r r':R2) (ta tb tc:TE):TE:=fun σ H Q=>ta σ H fun x H1=>tb σ H1 fun y H2=>r x y H2 fun z H3=>∃k,z=.bl k∧
  (if k=true then tc σ H3 fun w' H4=>r' y w' H4 Q else Q (.bl false) H3)
theorem pe_chain {op op':CmpOp} {r r':R2} (ho:OpR X (compareOp op) r) (ho':OpR X (compareOp op') r') (ha:PE X a ta) (hb:PE X b tb) (hc:PE X c tc)
    (hm:lastMarks [op,op'] [b,c]=false:=by with_unfolding_all rfl):PE X (.Compare a [op,op'] [b,c] pos) (tChain r r' ta tb tc):=by
  intro pins s σ H Q I h
  refine Compare_chain (thn (ha pins s σ H _ I h) fun v s1 zz68=>el5 zz68 fun x H1 I1 r1 q1=>chain_link (thn (hb pins s1 σ H1 _ I1 q1) fun u s2 zz69=>el5 zz69 fun y H2 I2 r2 q2=>
    thn (ho pins s2 σ H2 x y v u _ I2 r1 r2 q2) fun d s3 zz70=>zz70.elim fun z zz71=>zz71.elim fun H3 zz72=>zz72.elim fun I3 zz73=>zz73.elim fun r3 zz74=>zz74.elim fun k zz75=>zz75.elim fun e q3=>?_)) hm
  subst e
  cases r3
  refine wpAny_truthy_bool ?_
  cases k with
  | false=>exact ite_ff ⟨.bl false,H3,I3,rfl,q3⟩
  | true=>exact ite_tt (chain_last (thn (hc pins s3 σ H3 _ I3 q3) fun w' s4 zz76=>el5 zz76 fun z' H4 I4 r4 q4=>ho' pins s4 σ H4 y z' u w' Q I4 r2 r4 q4))
theorem pt_chain {op op':CmpOp} {r r':R2} (ho:OpR X (compareOp op) r) (ho':OpR X (compareOp op') r') (ha:PE X a ta) (hb:PE X b tb) (hc:PE X c tc)
    (hm:lastMarks [op,op'] [b,c]=false:=by with_unfolding_all rfl):PT X (.Compare a [op,op'] [b,c] pos) (tTest (tChain r r' ta tb tc)):=by
  intro pins s σ H Q I h
  refine isTrue_chain (thn (ha pins s σ H _ I h) fun v s1 zz77=>el5 zz77 fun x H1 I1 r1 q1=>test_link (thn (hb pins s1 σ H1 _ I1 q1) fun u s2 zz78=>el5 zz78 fun y H2 I2 r2 q2=>
    thn (ho pins s2 σ H2 x y v u _ I2 r1 r2 q2) fun d s3 zz79=>zz79.elim fun z zz80=>zz80.elim fun H3 zz81=>zz81.elim fun I3 zz82=>zz82.elim fun r3 zz83=>zz83.elim fun k zz84=>zz84.elim fun e q3=>?_)) hm
  subst e
  cases r3
  refine wpAny_truthy_bool ?_
  cases k with
  | false=>
    obtain⟨k',e',q'⟩:=q3
    cases e'
    exact ite_ff ⟨H3,I3,q'⟩
  | true=>
    refine ite_tt (test_last (thn (hc pins s3 σ H3 _ I3 q3) fun w' s4 zz85=>el5 zz85 fun z' H4 I4 r4 q4=>thn (ho' pins s4 σ H4 y z' u w' _ I4 r2 r4 q4) fun d' s5 zz86=>zz86.elim fun z2 zz87=>zz87.elim fun H5 zz88=>zz88.elim fun I5 zz89=>zz89.elim fun r5 zz90=>zz90.elim fun k2 zz91=>zz91.elim fun e2 q5=>?_))
    subst e2
    cases r5
    exact wpAny_truthy_bool ⟨H5,I5,q5⟩
theorem line63:(sizeLine:Nat) < 2 ^ 63:=by rw[sizeLine_eq];decide
theorem vals1 {x:V} {us:List Value} (r:Vals [x] us):∃u,us=[u]∧RelV x u:=by
  cases r with
  | cons r1 r2=>cases r2;exact⟨_,rfl,r1⟩
theorem vals2 {x y:V} {us:List Value} (r:Vals [x,y] us):∃u w',us=[u,w']∧RelV x u∧RelV y w':=by
  cases r with
  | cons r1 r2=>
    cases r2 with
    | cons r3 r4=>cases r4;exact⟨_,_,rfl,r1,r3⟩
theorem call_abs:CallR X (.builtin "abs") (fun xs H Q=>∃i,xs=[.int i]∧Q (.int (if i < 0 then -i else i)) H):=by
  intro pins s σ H xs us Q I r h
  obtain⟨i,rfl,q⟩:=h
  obtain⟨u,rfl,t,rfl⟩:=vals1 r
  exact call_abs_int fun u tk=>⟨.int (if i < 0 then -i else i),H,I.tok _,⟨_,rfl⟩,q⟩
theorem call_max2 (hc:X.calm=true):CallR X (.builtin "max") (fun xs H Q=>∃i j,xs=[.int i,.int j]∧Q (.int (if j > i then j else i)) H):=by
  intro pins s σ H xs us Q I r h
  obtain⟨i,j,rfl,q⟩:=h
  obtain⟨u,w',rfl,⟨t,rfl⟩,⟨t',rfl⟩⟩:=vals2 r
  refine max_two_ints (I.ok.hd hc) fun h' tk k=>⟨_,H,I.kept k,?_,q⟩
  by_cases hj:j > i
  · rw[if_pos hj,if_pos hj];exact⟨_,rfl⟩
  · rw[if_neg hj,if_neg hj];exact⟨_,rfl⟩
theorem call_min2 (hc:X.calm=true):CallR X (.builtin "min") (fun xs H Q=>∃i j,xs=[.int i,.int j]∧Q (.int (if j < i then j else i)) H):=by
  intro pins s σ H xs us Q I r h
  obtain⟨i,j,rfl,q⟩:=h
  obtain⟨u,w',rfl,⟨t,rfl⟩,⟨t',rfl⟩⟩:=vals2 r
  refine min_two_ints (I.ok.hd hc) fun h' tk k=>⟨_,H,I.kept k,?_,q⟩
  by_cases hj:j < i
  · rw[if_pos hj,if_pos hj];exact⟨_,rfl⟩
  · rw[if_neg hj,if_neg hj];exact⟨_,rfl⟩
theorem call_int1:CallR X (.type "int") (fun xs H Q=>(∃i,xs=[.int i]∧Q (.int i) H)∨∃k,xs=[.bl k]∧Q (.int (if k then 1 else 0)) H):=by
  intro pins s σ H xs us Q I r h
  rcases h with ⟨i,rfl,q⟩ | ⟨k,rfl,q⟩
  · obtain⟨u,rfl,t,rfl⟩:=vals1 r
    exact call_int_int ⟨.int i,H,I,⟨_,rfl⟩,q⟩
  · obtain⟨u,rfl,r1⟩:=vals1 r
    cases r1
    exact call_int_bool ⟨.int (if k then 1 else 0),H,I.tok _,⟨_,rfl⟩,q⟩
end
structure ObjM (h:Heap) (x dx C:Addr) (mA:Str→Option Value):Prop where
  obj:h.get? x=some (PySem.W.instObj C dx)
  ns:h.Ns1 dx mA
  ne:dx≠x
theorem lookIn_ns {h:Heap} {dx:Addr} {mA:Str→Option Value} (n:h.Ns1 dx mA):∃od,h.get? dx=some od∧∀name,PySem.W.lookIn name od=some (mA name):=by
  obtain⟨o,es,ep,ho,hd,hk,_,hm⟩:=n
  refine⟨o,ho,fun name=>?_⟩
  have e:=hm name
  unfold nsFind findBy at e
  rw[←Array.find?_toList] at e
  unfold PySem.W.lookIn
  rw[hd]
  dsimp only
  split
  · rename_i y q
    rw[q] at e
    exact congrArg some e
  · rename_i q
    rw[q] at e
    have a:es.toList.any (·.refKey)=false:=by
      rw[List.any_eq_false]
      intro y hy
      obtain⟨z,t,hkey⟩:=hk y (Array.mem_toList_iff.mp hy)
      simp [DictEntry.refKey,hkey]
    have a':¬ es.toList.any (·.refKey)=true:=by rw[a];exact Bool.false_ne_true
    rw[if_neg a']
    exact congrArg some e
theorem ObjM.look {h:Heap} {x dx C:Addr} {mA:Str→Option Value} (I:ObjM h x dx C mA):∃od,PySem.W.InstAt h x (PySem.W.instObj C dx) C (some od)∧∀name,PySem.W.lookIn name od=some (mA name):=
  let ⟨od,ho,hl⟩:=lookIn_ns I.ns
  ⟨od,⟨I.obj,rfl,rfl,ho⟩,hl⟩
section
variable {prog:Program} {w:World} {A:Around} {E:Value→Shared→Prop} {s:Shared} {K:PySem.W.Frag} {x dx C f:Addr} {mA:Str→Option Value} {name:Str} {v:Value}
end
section
variable {P:Program} {w:World} {H H':Hp} {h h':Heap} {a C dx:Addr} {fs fs':List (Str×V)}
theorem ins_get (hok:HOk P w H h) (e:H a=some (.ins C dx fs)):∃mA,ObjM h a dx C mA∧(∀f,RelO (fs.lookup f) (mA f))∧PySem.Within mA (fs.map (·.1))∧fs.length≤1000∧H dx=some (.own a):=by
  obtain⟨d,z,ne,ob,mA,n,r,q⟩:=(show ObjOk P w H h a (.ins C dx fs) from hok a _ e)
  exact⟨mA,⟨ob,n,ne⟩,r,q,z,d⟩
end
structure Cls (K:PySem.W.Frag) (C:Addr):Prop where
  pg:PySem.W.plainGet K C Str.empty=true
  hd:PySem.W.hasDictIn K C=true
  po:PySem.W.plainOver K C=true
  sa:PySem.W.findIn K (.ref C) "__setattr__" = some (some (.builtin "object.__setattr__"))
theorem Cls.get {K:PySem.W.Frag} {C:Addr} (c:Cls K C) (f:Str):PySem.W.plainGet K C f=true:=c.pg
section
variable {X:Cx} {pins:List (Addr×Obj)} {σ:St} {H:Hp} {s:Shared} {a C dx:Addr} {fs:List (Str×V)} {f:Str} {v:V} {A:Around} {E:Value→Shared→Prop}
end
section
variable {X:Cx} {o e value:Expr} {f:Str} {pos pos' tpos:Pos} {ta tv:TE}
end
section
variable {X:Cx} {pins:List (Addr×Obj)} {σ:St} {H:Hp} {s:Shared} {A:Around} {E:Value→Shared→Prop} {Q:Value→Shared→Prop} {c:Value} {b:Bool}
inductive TyOf (K:PySem.W.Frag) (H:Hp):V→Value→Prop where
  | non:TyOf K H .non (.type "NoneType")
  | bl (x:Bool):TyOf K H (.bl x) (.type "bool")
  | int (i:Int):TyOf K H (.int i) (.type "int")
  | str (x:Str):TyOf K H (.str x) (.type "str")
  | flt (x:UInt64):TyOf K H (.flt x) (.type "float")
  | lst {a:Addr} {xs:List V} (e:H a=some (.lst xs)):TyOf K H (.ref a) (.type "list")
  | frz {a:Addr} {o:Obj} {xs:List V} (e:H a=some (.frz o (.lst xs))):TyOf K H (.ref a) (.type "list")
  | tup {a:Addr} {xs:List V} (e:H a=some (.tup xs)):TyOf K H (.ref a) (.type "tuple")
  | dK {a:Addr} {kvs:List (Key×V)} (e:H a=some (.dK kvs)):TyOf K H (.ref a) (.type "dict")
  | dT {a:Addr} {kvs:List (List Key×V)} (e:H a=some (.dT kvs)):TyOf K H (.ref a) (.type "dict")
  | ins {a C dx:Addr} {fs:List (Str×V)} (e:H a=some (.ins C dx fs)) (cl:Cls K C) (ha:PySem.W.findIn K (.ref C) "__class__" = some (some (.builtin "object.__class__")))
      (hn:PySem.W.specialIn K (.builtin "object.__class__") "__get__" = some (some (.builtin "getset_descriptor.__get__"))) (htk:PySem.W.takesIn K (.builtin "object.__class__")=some true)
      (hm:PySem.W.mroIn K C (.type "object")=some true):TyOf K H (.ref a) (.ref C)
theorem isinst_ok {x:V} {u t:Value} (I:Inv X pins σ H s) (rx:RelV x u) (ty:TyOf X.K H x t) (e:PySem.W.kitOne X.K t c=some b) (h:∀tk,Q (.bool b) { s with toks:=tk }) :
    wpAny (model X.prog X.w) A (call (.builtin "isinstance") [u,c]) Q E s:=by
  cases ty with
  | non=>cases (show u=Value.none from rx);exact PySem.W.kia_one PySem.W.kitx_none I.kIn True.intro e (fun z=>nomatch z) h
  | bl y=>cases (show u=Value.bool y from rx);exact PySem.W.kia_one PySem.W.kitx_bool I.kIn True.intro e (fun z=>nomatch z) h
  | int i=>obtain⟨t,q⟩:=(show ∃t,u=Value.int i t from rx);cases q;exact PySem.W.kia_one PySem.W.kitx_int I.kIn True.intro e (fun z=>nomatch z) h
  | str y=>obtain⟨t,q⟩:=(show ∃t,u=Value.str y t from rx);cases q;exact PySem.W.kia_one PySem.W.kitx_str I.kIn True.intro e (fun z=>nomatch z) h
  | flt y=>obtain⟨t,q⟩:=(show ∃t,u=Value.float y t from rx);cases q;exact PySem.W.kia_one PySem.W.kitx_float I.kIn True.intro e (fun z=>nomatch z) h
  | @lst a xs ea=>
    cases (show u=Value.ref a from rx)
    obtain⟨_,_,n,_,h1⟩:=(show ObjOk X.prog X.w H s.heap a (.lst xs) from I.hok a _ ea)
    exact PySem.W.kia_one PySem.W.kitx_list I.kIn ⟨_,h1,rfl⟩ e (fun z=>nomatch z) h
  | @frz a ob xs ea=>
    cases (show u=Value.ref a from rx)
    obtain⟨_,_,_,n,_,h1⟩:=(show ObjOk X.prog X.w H s.heap a (.frz ob (.lst xs)) from I.hok a _ ea)
    exact PySem.W.kia_one PySem.W.kitx_list I.kIn ⟨_,h1,rfl⟩ e (fun z=>nomatch z) h
  | @tup a xs ea=>
    cases (show u=Value.ref a from rx)
    obtain⟨_,_,_,p⟩:=(show ObjOk X.prog X.w H s.heap a (.tup xs) from I.hok a _ ea)
    obtain⟨o,h1,h2,_⟩:=p
    exact PySem.W.kia_one PySem.W.kitx_tuple I.kIn ⟨o,h1,h2⟩ e (fun z=>nomatch z) h
  | @dK a kvs ea=>
    cases (show u=Value.ref a from rx)
    obtain⟨_,_,vs,_,p⟩:=(show ObjOk X.prog X.w H s.heap a (.dK kvs) from I.hok a _ ea)
    obtain⟨o,es,ep,h1,h2,_⟩:=p
    exact PySem.W.kia_one PySem.W.kitx_dict I.kIn ⟨o,h1,h2.1⟩ e (fun z=>nomatch z) h
  | @dT a kvs ea=>
    cases (show u=Value.ref a from rx)
    obtain⟨_,_,xs,_,o,es,ep,h1,h2,_⟩:=(show ObjOk X.prog X.w H s.heap a (.dT kvs) from I.hok a _ ea)
    exact PySem.W.kia_one PySem.W.kitx_dict I.kIn ⟨o,h1,h2.1⟩ e (fun z=>nomatch z) h
  | @ins a C dx fs ea cl ha hn htk hm=>
    cases (show u=Value.ref a from rx)
    obtain⟨mA,O,_⟩:=ins_get I.hok ea
    obtain⟨od,J,_⟩:=O.look
    exact PySem.W.kia_one (PySem.W.kitx_own (cl.get _) cl.hd ha hn htk hm) I.kIn J e (fun z=>nomatch z) h
end
structure Room (k:Nat) (A:Around):Prop where
  hd:A.handled=none
  dp:A.depth + 3 * k + 5 < recursionLimit
  un:A.units + 16 * k + 200 < cLine
  gd:A.guards=some []
theorem Room.mono {j k:Nat} {A:Around} (r:Room k A) (h:j≤k):Room j A:=⟨r.hd,by have:=r.dp;lia,by have:=r.un;lia,r.gd⟩
theorem Room.deeper {k:Nat} {A:Around} (r:Room (k + 1) A) (env:Env):Room k (A.deeper env):=
  ⟨r.hd,by have:=r.dp;show A.depth + 1 + 3 * k + 5 < _;lia,by have:=r.un;show A.units + 3 + 16 * k + 200 < _;lia,r.gd⟩
theorem Room.depth {k:Nat} {A:Around} (r:Room k A):A.depth < recursionLimit:=by have:=r.dp;lia
theorem Room.units {k:Nat} {A:Around} (r:Room k A):A.units + 64 < cLine:=by have:=r.un;lia
def tNil:TA:=fun _ H Q=>Q [] H
def tCons (ta:TE) (tr:TA):TA:=fun σ H Q=>ta σ H fun x H1=>tr σ H1 fun xs H2=>Q (x::xs) H2
section
variable {X:Cx} {e:Expr} {es:List Expr} {te:TE} {t:TA} {pos:Pos}
theorem pa_nil:PA X [] tNil:=fun _ _ _ _ H Q I h=>Calls.spliced_nil ⟨[],H,I,.nil,h⟩
theorem pa_cons (ha:PE X e te) (hr:PA X es t) (hs:starEach (e::es) X.env=(false,eval e X.env)::starEach es X.env:=by rfl):PA X (e::es) (tCons te t):=by
  intro pos pins s σ H Q I h
  rw[hs]
  show wpAny _ _ (spliced ((false,eval e X.env)::backTo pos (starEach es X.env))) _ _ s
  refine Calls.spliced_cons (thn (ha pins s σ H _ I h) fun u s1 zz173=>el5 zz173 fun x H1 I1 r1 q1=>?_)
  exact thn (hr pos pins s1 σ H1 _ I1 q1) fun us s2 zz174=>el5 zz174 fun xs H2 I2 r2 q2=>⟨x::xs,H2,I2,.cons r1 r2,q2⟩
def tTup (t:TA):TE:=fun σ H Q=>t σ H fun xs H1=>xs.length≤sizeLine∧∀p,H1 p=none→Q (.ref p) (upd H1 p (.tup xs))
def tLst (t:TA):TE:=fun σ H Q=>t σ H fun xs H1=>xs.length≤sizeLine∧∀p,H1 p=none→Q (.ref p) (upd H1 p (.lst xs))
theorem pe_tup {x1} (h:PA X es t):PE X (.Tuple es x1 pos) (tTup t):=by
  intro pins s σ H Q I hq
  refine wpAny_Tuple_spliced (thn (h pos pins s σ H _ I hq) fun us s1 zz175=>zz175.elim fun xs zz176=>zz176.elim fun H1 zz177=>zz177.elim fun I1 zz178=>zz178.elim fun r zz179=>zz179.elim fun z q=>⟨by rw[←r.length];exact z,?_⟩)
  have hf:H1 s1.heap.objs.size=none:=I1.hok.fresh (Nat.le_refl _)
  refine⟨.ref s1.heap.objs.size,upd H1 s1.heap.objs.size (.tup xs),I1.laid (t':=s1.toks) (fun b u e=>Heap.get?_push_of_some _ e) (Nat.le_refl _) ?_,rfl,q _ hf⟩
  exact⟨z,us,r,⟨_,Heap.get?_push_size _ rfl,rfl,_,rfl⟩⟩
theorem pe_lst (h:PA X es t):PE X (.List es pos) (tLst t):=by
  intro pins s σ H Q I hq
  refine wpAny_List_spliced (thn (h pos pins s σ H _ I hq) fun us s1 zz180=>zz180.elim fun xs zz181=>zz181.elim fun H1 zz182=>zz182.elim fun I1 zz183=>zz183.elim fun r zz184=>zz184.elim fun z q=>⟨by rw[←r.length];exact z,?_⟩)
  have hf:H1 s1.heap.objs.size=none:=I1.hok.fresh (Nat.le_refl _)
  refine⟨.ref s1.heap.objs.size,upd H1 s1.heap.objs.size (.lst xs),I1.laid (t':=s1.toks) (fun b u e=>Heap.get?_push_of_some _ e) (Nat.le_refl _) ?_,rfl,q _ hf⟩
  exact⟨z,us,0,r,Heap.get?_push_size _ rfl⟩
end
abbrev Sp:=List V→Hp→VK→XK→Prop
abbrev CXT:=List Env→Hp→Shared→XK→Value→Shared→Prop
structure Env0 (P:Program) (w:World) (K:PySem.W.Frag) (mg:Str→Option Value) (base:Heap) (A:Around) (outer:List Env) (s:Shared) (H:Hp):Prop where
  frames:A.frames=some outer
  mod:Mod K mg base
  bs:∀b o,base.get? b=some o→s.heap.get? b=some o∧H b=none
  bsz:base.objs.size≤s.heap.objs.size
  funs:s.heap.FunFrames base outer
  frf:∀b∈frs outer,H b=none
  hok:HOk P w H s.heap
  bare:AllBare s.gens
def CE (outer:List Env) (P:Program) (w:World) (H:Hp) (s:Shared) (Q:VK) (u:Value) (s':Shared):Prop:=
  ∃v H',s'.os=s.os∧AllBare s'.gens∧Un (frs outer) [] H H' s.heap s'.heap∧HOk P w H' s'.heap∧RelV v u∧Q v H'
def CR (CX:CXT) (outer:List Env) (P:Program) (w:World) (H:Hp) (s:Shared) (Q:VK) (E:XK) (r:Result) (s':Shared):Prop:=
  match r with
  | .ok (.ret u)=>CE outer P w H s Q u s'
  | .ok _=>False
  | .error e=>CX outer H s E e s'
structure FnOk (P:Program) (w:World) (K:PySem.W.Frag) (mg:Str→Option Value) (base:Heap) (CX:CXT) (k:Nat) (f:Addr) (fd:FuncData) (ps:List Str) (sp:Sp):Prop where
  len:∀vs H Q E,sp vs H Q E→vs.length=ps.length
  run:∀(A:Around) (outer:List Env) (s:Shared) (H:Hp) (args:Args) (us:List Value) (vs:List V) (Q:VK) (E:XK),Room k A→Env0 P w K mg base A outer s H→BindsTo s fd args (ps.zip us)→Vals vs us→sp vs H Q E→
    codeAny (model P w) A (.call (.ref f) args) (CR CX outer P w H s Q E) s
theorem FnOk.imp {P:Program} {w:World} {K:PySem.W.Frag} {mg:Str→Option Value} {base:Heap} {CX:CXT} {k:Nat} {f:Addr} {fd:FuncData} {ps:List Str} {sp sp':Sp} (F:FnOk P w K mg base CX k f fd ps sp)
    (h:∀vs H Q E,sp' vs H Q E→sp vs H Q E):FnOk P w K mg base CX k f fd ps sp':=
  ⟨fun vs H Q E q=>F.len vs H Q E (h _ _ _ _ q),fun A outer s H args us vs Q E hr he hb hv hs=>F.run A outer s H args us vs Q E hr he hb hv (h _ _ _ _ hs)⟩
section
variable {X:Cx} {pins:List (Addr×Obj)} {σ:St} {H:Hp} {s s':Shared}
theorem Inv.env0 (I:Inv X pins σ H s):Env0 X.prog X.w X.K X.mg X.base X.A X.stack s H:=
  ⟨I.ok.frames,I.ok.mod,I.bs,Nat.le_trans I.ok.bsz I.sz,I.stack,I.stkFree,I.hok,I.bare⟩
theorem Inv.after {Q:VK} {u:Value} (I:Inv X pins σ H s) (h:CE X.stack X.prog X.w H s Q u s'):EP X pins σ Q u s':=by
  obtain⟨v,H',os,bare,un,hok,r,q⟩:=h
  obtain⟨hh,g,d,t,os'⟩:=s'
  obtain rfl:os'=s.os:=os
  exact⟨v,H',I.call (h':=hh) (g':=g) (d':=d) (t':=t) (ch:=[]) un hok bare (fun b z=>absurd z (by simp)),r,q⟩
end
def tCall (sp:Sp) (dvs:List V) (E:XK) (t:TA):TE:=fun σ H Q=>t σ H fun vs H1=>sp (vs++dvs) H1 Q E
def Binds (K:PySem.W.Frag) (fd:FuncData) (ps:List Str) (ds:List Value):Prop:=
  ∀(s:Shared) (us:List Value),K.In s.heap→(us++ds).length=ps.length→BindsTo s fd ⟨us,[]⟩ (ps.zip (us++ds))
theorem Binds.all {K:PySem.W.Frag} {fd:FuncData} {ps:List Str} (h:∀us:List Value,us.length=ps.length→bindArgs fd ⟨us,[]⟩=pure (ps.zip us)):Binds K fd ps []:=fun s us _ hl=>by
  rw[List.append_nil] at hl ⊢
  exact .of_eq (h us hl)
def Passes (CX:CXT) (X:Cx) (E:XK):Prop:=∀(pins:List (Addr×Obj)) (σ:St) (H:Hp) (s:Shared) (e:Value) (s':Shared),Inv X pins σ H s→CX X.stack H s E e s'→X.xe e s'
section
variable {X:Cx} {CX:CXT} {k:Nat} {f C:Addr} {fd:FuncData} {ps:List Str} {sp:Sp} {dvs:List V} {ds:List Value} {E:XK} {x m:Str} {p pos apos:Pos} {e o:Expr} {es:List Expr} {ta:TE} {t:TA}
theorem run_fn {pins:List (Addr×Obj)} {σ:St} {H:Hp} {s:Shared} {Q:VK} {us:List Value} {vs:List V} (F:FnOk X.prog X.w X.K X.mg X.base CX k f fd ps sp) (hr:Room k X.A) (hb:Binds X.K fd ps ds) (hd:Vals dvs ds) (hx:Passes CX X E)
    (I:Inv X pins σ H s) (r:Vals vs us) (h:sp (vs++dvs) H Q E):wpAny (model X.prog X.w) X.A (call (.ref f) us) (EP X pins σ Q) X.xe s:=by
  have r2:Vals (vs++dvs) (us++ds):=r.append hd
  have hl:(us++ds).length=ps.length:=by rw[←r2.length];exact F.len _ _ _ _ h
  refine wpAny_call (codeAny_mono (F.run X.A X.stack s H ⟨us,[]⟩ (us++ds) (vs++dvs) Q E hr I.env0 (hb s us I.kIn hl) r2 h) fun r s' hq=>?_)
  cases r with
  | error e=>exact hx pins σ H s e s' I hq
  | ok fl=>
    cases fl with
    | ret u=>exact I.after hq
    | next=>exact False.elim hq
    | brk=>exact False.elim hq
    | cont=>exact False.elim hq
theorem pe_call (F:FnOk X.prog X.w X.K X.mg X.base CX k f fd ps sp) (hr:Room k X.A) (hg:Gl X x) (hm:X.mg x=some (.ref f)) (hk:PySem.W.keepIn X.K (.ref f)=true) (hb:Binds X.K fd ps ds) (hd:Vals dvs ds) (hx:Passes CX X E)
    (ha:PA X (e::es) t) (hdb:(x == ("__debug__" : Str))=false:=by decide) (he:starEach (e::es) X.env=(false,eval e X.env)::starEach es X.env:=by rfl) (hpl:(backTo pos (starEach es X.env)).any (·.1)=false:=by rfl) :
    PE X (.Call (.Name x p) (e::es) [] pos) (tCall sp dvs E t):=by
  intro pins s σ H Q I h
  refine wpAny_Call_Name_kw (ld_glob I hg hm ?_ hdb)
  refine PySem.W.callWith_K (h₀:=X.base) I.ok.mod.kin hk (thn (ha pos pins s σ H _ I h) fun us s1 zz185=>el5 zz185 fun vs H1 I1 r q=>⟨I1.kIn,?_⟩) he hpl
  exact run_fn F hr hb hd hx I1 r q
end
section
variable {X:Cx} {CX:CXT} {k:Nat} {f C:Addr} {fd:FuncData} {ps ks:List Str} {sp:Sp} {E:XK} {x m:Str} {p pos apos kpos:Pos} {e o:Expr} {es:List Expr} {kws:List Keyword} {te ta:TE} {t tk:TA} {nm:Option Str}
variable {g:List Value→List Value→List Value} {gV:List V→List V→List V}
end
structure FnScope (N P:List Str) (sc:Scope):Prop where
  kind:sc.kind=.function
  co:sc.isCoroutine=false
  gen:sc.isGenerator=false
  nd:N.Nodup
  pre:N.take P.length=P
  par:∀x∈P,sc.names.lookup x=some .local∨sc.names.lookup x=some .cell
  nofree:∀y∈sc.names,y.2≠.free
theorem bindL_out {kindOf:Str→Option NameKind} {x:Str}:∀{binds:List (Str×Value)} {m:Str→Option Value},(∀v,(x,v)∉binds)→bindL kindOf binds m x=m x
  | [],_,_=>rfl
  | (n,v)::r,m,h=>by
    unfold bindL
    rw[bindL_out fun w hw=>h w (List.mem_cons_of_mem _ hw)]
    split
    · have:x≠n:=by rintro rfl;exact h v List.mem_cons_self
      simp [this]
    · rfl
theorem bindC_out {kindOf:Str→Option NameKind} {x:Str}:∀{binds:List (Str×Value)} {m:Str→Option Value},(∀v,(x,v)∉binds)→bindC kindOf binds m x=m x
  | [],_,_=>rfl
  | (n,v)::r,m,h=>by
    unfold bindC
    rw[bindC_out fun w hw=>h w (List.mem_cons_of_mem _ hw)]
    split
    · rfl
    · have:x≠n:=by rintro rfl;exact h v List.mem_cons_self
      simp [this]
theorem bindL_get {kindOf:Str→Option NameKind} {x:Str} {v:Value}:∀{P:List Str} {vs:List Value} {i:Nat} {m:Str→Option Value},P.Nodup→P[i]?=some x→vs[i]?=some v→kindOf x=some .local→
    bindL kindOf (P.zip vs) m x=some v
  | [],_,_,_,_,h,_,_=>by simp at h
  | _::_,[],_,_,_,_,h,_=>by simp at h
  | p::P,w::vs,0,m,nd,h1,h2,hk=>by
    simp at h1 h2;subst h1;subst h2
    show bindL kindOf ((p,w)::P.zip vs) m p=_
    unfold bindL
    rw[bindL_out fun v hv=>(List.nodup_cons.mp nd).1 (List.of_mem_zip hv).1,if_pos hk]
    simp
  | p::P,w::vs,i + 1,m,nd,h1,h2,hk=>by
    show bindL kindOf ((p,w)::P.zip vs) m x=_
    unfold bindL
    exact bindL_get (i:=i) (List.nodup_cons.mp nd).2 (by simpa using h1) (by simpa using h2) hk
theorem bindC_get {kindOf:Str→Option NameKind} {x:Str} {v:Value}:∀{P:List Str} {vs:List Value} {i:Nat} {m:Str→Option Value},P.Nodup→P[i]?=some x→vs[i]?=some v→kindOf x≠some .local→
    bindC kindOf (P.zip vs) m x=some v
  | [],_,_,_,_,h,_,_=>by simp at h
  | _::_,[],_,_,_,_,h,_=>by simp at h
  | p::P,w::vs,0,m,nd,h1,h2,hk=>by
    simp at h1 h2;subst h1;subst h2
    show bindC kindOf ((p,w)::P.zip vs) m p=_
    unfold bindC
    rw[bindC_out fun v hv=>(List.nodup_cons.mp nd).1 (List.of_mem_zip hv).1,if_neg hk]
    simp
  | p::P,w::vs,i + 1,m,nd,h1,h2,hk=>by
    show bindC kindOf ((p,w)::P.zip vs) m x=_
    unfold bindC
    exact bindC_get (i:=i) (List.nodup_cons.mp nd).2 (by simpa using h1) (by simpa using h2) hk
def start (N:List Str) (vs:List V):St:=vs.map some++List.replicate (N.length - vs.length) none
def cxOf (CX:CXT) (P:Program) (w:World) (K:PySem.W.Frag) (mg:Str→Option Value) (base:Heap) (N:List Str) (qual:Str) (scope:Scope) (f:Addr) (cd:Value) (A:Around) (outer:List Env) (s:Shared) (H:Hp) (E:XK):Cx where
  prog:=P
  w:=w
  K:=K
  mg:=mg
  base:=base
  A:=A.deeper (envOfC qual scope s.heap.objs.size f cd)
  N:=N
  s₀:=s
  H₀:=H
  env:=envOfC qual scope s.heap.objs.size f cd
  outer:=outer
  stack:=envOfC qual scope s.heap.objs.size f cd::outer
  ex:=[]
  calm:=true
  fn:=fun _=>true
  pn:=[]
  xe:=fun e s'=>wpAny (model P w) (A.deeper (envOfC qual scope s.heap.objs.size f cd)) (leaving (envOfC qual scope s.heap.objs.size f cd) e) (fun _ s''=>CX outer H s E e s'') (fun e' s''=>CX outer H s E e' s'') s'
theorem cell_has {sc:Scope} {n:Nat} {x:Str} (h:sc.names.lookup x=some .cell):∃c,(cellsFrom n sc.names []).lookup x=some c:=by
  have q:=PySem.W.cellsFrom_some sc.names n [] (.inl h)
  exact Option.isSome_iff_exists.mp q
theorem inv_start {CX:CXT} {P:Program} {w:World} {K:PySem.W.Frag} {mg:Str→Option Value} {base:Heap} {N ps:List Str} {qual:Str} {scope:Scope} {f:Addr} {cd:Value} {A:Around} {outer:List Env} {s s1:Shared} {H:Hp} {E:XK} {us:List Value} {vs:List V}
    (S:FnScope N ps scope) (hd:A.handled=none) (e0:Env0 P w K mg base A outer s H) (hl:vs.length=ps.length) (r:Vals vs us)
    (x:InCallC s s.heap.objs.size (bindL (envOfC qual scope s.heap.objs.size f cd).kindOf (ps.zip us) fun _=>none) (cellsFrom (s.heap.objs.size + 1) scope.names []) (bindC (envOfC qual scope s.heap.objs.size f cd).kindOf (ps.zip us) fun _=>none) s1) :
    Inv (cxOf CX P w K mg base N qual scope f cd A outer s H E) [] (start N vs) H s1:=by
  have hpl:ps.length≤N.length:=by have:=congrArg List.length S.pre;rw[List.length_take] at this;lia
  obtain⟨h1,tk,rfl,hk⟩:=x.done
  have noA:∀b:Addr,b∉(cxOf CX P w K mg base N qual scope f cd A outer s H E).ex:=fun b z=>absurd (show b∈([]:List Addr) from z) (by simp)
  refine⟨⟨e0.mod,S.kind,rfl,rfl,Nat.le_refl _,fun y z c h1 h2=>?_,fun y hy=>?_,fun y c _ h=>?_,fun _=>hd,Around.frames_deeper e0.frames,.inr ⟨rfl,rfl⟩,fun b z=>absurd z (noA b),e0.bs,e0.bsz,fun b _ _=>noA b,fun b z=>absurd z (noA b),e0.funs,e0.frf⟩,
    rfl,e0.bare,Un.kept hk,⟨_,x.toInCall.ns,fun i y v h1 h2 h3=>?_⟩,fun y c h=>⟨_,x.cell y c h⟩,e0.hok.fresh (Nat.le_refl _),fun y c h=>?_,fun p hp=>absurd (show p∈([]:List (Addr×Obj)) from hp) (by simp),e0.hok.kept hk,?_⟩
  · exact name_of_addr x.apart (PySem.mem_of_lookup h1) (PySem.mem_of_lookup h2)
  · have hy:scope.names.lookup y=some .cell∨scope.names.lookup y=some .free:=hy
    rcases hy with hy | hy
    · exact cell_has hy
    · exact absurd rfl (S.nofree _ (PySem.mem_of_lookup hy))
  · exact Nat.le_of_lt (x.above y c (PySem.mem_of_lookup h))
  · have hi:i < vs.length:=by
      unfold start at h2
      by_cases hi:i < vs.length
      · exact hi
      · rw[List.getElem?_append_right (by simpa using hi)] at h2
        rw[List.getElem?_replicate] at h2
        split at h2 <;> cases h2
    have ha:vs[i]?=some v:=by
      unfold start at h2
      rw[List.getElem?_append_left (by simpa using hi),List.getElem?_map] at h2
      cases e:vs[i]? with
      | none=>rw[e] at h2;cases h2
      | some a=>rw[e] at h2;cases h2;rfl
    obtain⟨u,hu,rv⟩:=r.get ha
    have hp:ps[i]?=some y:=by
      rw[←S.pre,List.getElem?_take_of_lt (by lia)];exact h1
    have ndP:ps.Nodup:=by rw[←S.pre];exact S.nd.sublist (List.take_sublist _ _)
    refine⟨u,rv,?_⟩
    rcases S.par y (List.mem_of_getElem? hp) with k | k
    · exact .inl ⟨k,bindL_get ndP hp hu k⟩
    · obtain⟨c,e⟩:=cell_has (n:=s.heap.objs.size + 1) k
      refine .inr ⟨.inl k,c,e,?_⟩
      have q:=x.cell y c e
      rw[bindC_get ndP hp hu (by show scope.names.lookup y≠_;rw[k];decide)] at q
      exact q
  · exact e0.hok.fresh (Nat.le_of_lt (x.above y c (PySem.mem_of_lookup h)))
  · unfold start
    show _=N.length
    rw[List.length_append,List.length_map,List.length_replicate]
    lia
theorem fn_of {CX:CXT} {P:Program} {w:World} {K:PySem.W.Frag} {mg:Str→Option Value} {base:Heap} {k:Nat} {f:Addr} {name qual:Str} {params:Arguments} {body:List Stmt} {scope:Scope} {dV kV doc pm cdv ct oc:Value} {an od:Option Addr}
    {osl:Array (Option Value)} {N ps:List Str} {sp:Sp} (lk:K.lookup f=some ⟨oc,od,.func (PySem.W.fnOf name qual params body scope dV kV doc pm an cdv ct),osl⟩) (hcd:PySem.W.codeIn K cdv qual=true) (S:FnScope N ps scope)
    (len:∀vs H Q E,sp vs H Q E→vs.length=ps.length)
    (hbody:∀(A:Around) (outer:List Env) (s:Shared) (H:Hp) (vs:List V) (Q:VK) (E:XK),Room k (A.deeper (envOfC qual scope s.heap.objs.size f cdv))→sp vs H Q E→
      ∃t,PSs (cxOf CX P w K mg base N qual scope f cdv A outer s H E) body t∧t { nx:=fun _ H'=>Q .non H',rt:=Q } (start N vs) H) :
    FnOk P w K mg base CX (k + 1) f (PySem.W.fnOf name qual params body scope dV kV doc pm an cdv ct) ps sp:=by
  refine⟨len,fun A outer s H args us vs Q E hr e0 hb r hsp=>?_⟩
  have hl:=len _ _ _ _ hsp
  have KX:K.In s.heap:=e0.mod.kin.keeps fun b o e=>(e0.bs b o e).1
  have lim:s.heap.NoLimit:=e0.mod.nolimit.keeps fun b o e=>(e0.bs b o e).1
  have hkind:∀y∈ps.zip us,scope.names.lookup y.1=some .local∨(scope.names.lookup y.1=some .cell∧((cellsFrom (s.heap.objs.size + 1) scope.names []).lookup y.1).isSome=true):=fun ⟨n,v⟩ hy=>by
    rcases S.par n (List.of_mem_zip hy).1 with q | q
    · exact .inl q
    · exact .inr ⟨q,PySem.W.cellsFrom_some _ _ _ (.inl q)⟩
  refine codeAny_call_function hr.depth (KX _ _ lk) rfl S.co S.gen rfl (PySem.W.codeRec_of KX hcd) (hb _ _ _ _ ?_)
  refine wpAny_newFunctionEnv_cells S.kind hkind fun env he s1 x=>?_
  subst he
  refine⟨lim.keeps x.toInCall.keep,codeAny_func ?_⟩
  obtain⟨t,ht,hq⟩:=hbody A outer s H vs Q E (hr.deeper _) hsp
  have I:Inv (cxOf CX P w K mg base N qual scope f cdv A outer s H E) [] (start N vs) H s1:=inv_start S hr.hd e0 hl r x
  refine wpAny_mono (ht [] s1 (start N vs) H _ I hq) (fun fl s' hs=>?_) fun e s' hs=>hs
  have fin:∀{σ':St} {H':Hp} {v:V} {u:Value},Inv (cxOf CX P w K mg base N qual scope f cdv A outer s H E) [] σ' H' s'→RelV v u→Q v H'→CE outer P w H s Q u s':=
    fun {σ' H' v u} J rv q=>⟨v,H',J.os,J.bare,J.base,J.hok,rv,q⟩
  cases fl with
  | ret u=>
    obtain⟨v,σ',H',J,rv,q⟩:=hs
    exact fin J rv q
  | next=>
    obtain⟨σ',H',J,q⟩:=hs
    exact fin (v:=V.non) (u:=Value.none) J rfl q
  | brk=>
    obtain⟨_,_,_,q⟩:=hs
    exact False.elim q
  | cont=>
    obtain⟨_,_,_,q⟩:=hs
    exact False.elim q
section
variable {X:Cx} {x:Str} {p pos:Pos} {e:Expr} {es:List Expr} {t:TA} {id T:String} {r:List V→Hp→VK→Prop}
def tCB (r:List V→Hp→VK→Prop) (t:TA):TE:=fun σ H Q=>t σ H fun vs H1=>r vs H1 Q
theorem pe_callB (hc:CallR X (.builtin id) r) (hg:Gl X x) (hm:X.mg x=none) (hv:bootBuiltins x=some (.builtin id)) (ha:PA X (e::es) t) (hn:x≠ "__name__" :=by decide) (hdb:(x == ("__debug__" : Str))=false:=by decide)
    (he:starEach (e::es) X.env=(false,eval e X.env)::starEach es X.env:=by rfl) (hpl:(backTo pos (starEach es X.env)).any (·.1)=false:=by rfl):PE X (.Call (.Name x p) (e::es) [] pos) (tCB r t):=by
  intro pins s σ H Q I h
  refine wpAny_Call_Name_kw (ld_blt I hg hm hv ?_ hn hdb)
  exact PyProof.Rows.callWith_builtin1 (thn (ha pos pins s σ H _ I h) fun us s1 zz213=>el5 zz213 fun vs H1 I1 r1 q1=>hc pins s1 σ H1 vs us Q I1 r1 q1) he hpl
theorem pe_callTy (hc:CallR X (.type T) r) (hg:Gl X x) (hm:X.mg x=none) (hv:bootBuiltins x=some (.type T)) (ha:PA X (e::es) t) (hn:x≠ "__name__" :=by decide) (hdb:(x == ("__debug__" : Str))=false:=by decide)
    (he:starEach (e::es) X.env=(false,eval e X.env)::starEach es X.env:=by rfl) (hpl:(backTo pos (starEach es X.env)).any (·.1)=false:=by rfl):PE X (.Call (.Name x p) (e::es) [] pos) (tCB r t):=by
  intro pins s σ H Q I h
  refine wpAny_Call_Name_kw (ld_blt I hg hm hv ?_ hn hdb)
  exact PyProof.Rows.callWith_type1 (thn (ha pos pins s σ H _ I h) fun us s1 zz214=>el5 zz214 fun vs H1 I1 r1 q1=>hc pins s1 σ H1 vs us Q I1 r1 q1) he hpl
end
end L2
namespace HT
open PySem PyProof.Rows
section
open PySem.SeqAt
open PySem.AutoSeq1 (wpAny_loadPart')
open PySem.MeetsSeq PySem.MeetsSeq2 PySem.MeetsSeq3
end
section
variable {prog:Program} {w:World} {A:Around} {E:Value→Shared→Prop} {s:Shared}
def sIx (n d:Nat):Option Int→Nat
  | none=>d
  | some v=>if v < 0 then (v + (n:Int)).toNat else min v.toNat n
theorem sIx_none (n d:Nat):sIx n d none=d:=rfl
theorem sIx_nat (n d k:Nat):sIx n d (some (k:Int))=min k n:=by
  show (if (k:Int) < 0 then ((k:Int) + (n:Int)).toNat else min (k:Int).toNat n)=min k n
  rw[if_neg (by lia),Int.toNat_natCast]
end
end HT
namespace L2
open PySem PySem.Spec PyProof.Rows
abbrev TO:=St→Hp→(Option Int→Hp→Prop)→Prop
def PO (X:Cx) (e:Option Expr) (t:TO):Prop:=
  ∀(pins:List (Addr×Obj)) (s:Shared) (σ:St) (H:Hp) (Q:Option Int→Hp→Prop),Inv X pins σ H s→t σ H Q→
    wpAny (model X.prog X.w) X.A (evalPart e X.env) (fun u s'=>∃o H',Inv X pins σ H' s'∧IsPart u o∧Q o H') X.xe s
def tNoPart:TO:=fun _ H Q=>Q none H
def tPart (t:TE):TO:=fun σ H Q=>t σ H fun x H1=>∃i,x=.int i∧Q (some i) H1
theorem intsAre_of {ns:List Int}:∀{us:List Value},Vals (ns.map V.int) us→IntsAre us ns:=by
  induction ns with
  | nil=>intro us r;rw[List.map_nil] at r;cases r;exact .nil
  | cons n ns ih=>
    intro us r
    rw[List.map_cons] at r
    cases r with
    | cons r1 r2=>
      obtain⟨t,e⟩:=r1
      subst e
      exact .cons n t (ih r2)
section
variable {X:Cx} {e:Expr} {te:TE} {lo hi:Option Expr} {tl th:TO} {pos p2:Pos}
theorem po_none:PO X none tNoPart:=by
  intro pins s σ H Q I h
  rw[evalPart_none]
  exact wpAny_pure ⟨none,H,I,.none,h⟩
theorem po_some (h:PE X e te):PO X (some e) (tPart te):=by
  intro pins s σ H Q I hw
  rw[evalPart_some]
  refine thn (h pins s σ H _ I hw) fun u s1 zz215=>el5 zz215 fun x H1 I1 r1 q1=>?_
  obtain⟨i,rfl,q⟩:=q1
  obtain⟨t,rfl⟩:=r1
  exact⟨some i,H1,I1,.int i t,q⟩
def SlR (X:Cx) (r:V→Option Int→Option Int→Hp→VK→Prop):Prop:=
  ∀(pins:List (Addr×Obj)) (s:Shared) (σ:St) (H:Hp) (x:V) (v vl vu:Value) (lo hi:Option Int) (sl:Addr) (Q:VK),Inv X pins σ H s→RelV x v→s.heap.IsSliceOf sl vl vu .none→IsPart vl lo→IsPart vu hi→r x lo hi H Q→
    ∃T id,typeLookup (.type T) "__getitem__" = pure (some (.builtin id))∧s.TypeIs v T∧wpAny (model X.prog X.w) X.A (getItem v (.ref sl)) (EP X pins σ Q) X.xe s
def tSl (r:V→Option Int→Option Int→Hp→VK→Prop) (te:TE) (tl th:TO):TE:=fun σ H Q=>te σ H fun x H1=>tl σ H1 fun l H2=>th σ H2 fun u H3=>r x l u H3 Q
theorem pe_slice {r:V→Option Int→Option Int→Hp→VK→Prop} (hr:SlR X r) (he:PE X e te) (hl:PO X lo tl) (hu:PO X hi th):PE X (.Subscript e (.Slice lo hi none p2) pos) (tSl r te tl th):=by
  intro pins s σ H Q I h
  refine Subscript_ (thn (he pins s σ H _ I h) fun v s1 zz216=>el5 zz216 fun x H1 I1 r1 q1=>?_)
  refine wpAny_Slice (thn (hl pins s1 σ H1 _ I1 q1) fun vl s2 zz217=>el5 zz217 fun l H2 I2 pl q2=>thn (hu pins s2 σ H2 _ I2 q2) fun vu s3 zz218=>el5 zz218 fun u H3 I3 pu q3=>?_)
  rw[evalPart_none]
  refine wpAny_pure ?_
  have I4:Inv X pins σ H3 { s3 with heap:=s3.heap.push { cls:=.type "slice",data:=.fields #[vl,vu,.none] } }:=I3.kept (t':=s3.toks) fun b ob q=>Heap.get?_push_of_some _ q
  obtain⟨T,id,hT,ht,hg⟩:=hr pins { s3 with heap:=s3.heap.push { cls:=.type "slice",data:=.fields #[vl,vu,.none] } } σ H3 x v vl vu l u s3.heap.objs.size Q I4 r1 (Heap.IsSliceOf.new ..) pl pu q3
  show wpAny (model X.prog X.w) X.A (subscriptTail e (.Slice lo hi none p2) v (.ref s3.heap.objs.size)) (EP X pins σ Q) X.xe { s3 with heap:=s3.heap.push { cls:=.type "slice",data:=.fields #[vl,vu,.none] } }
  exact tail_any (ops:=[.ref s3.heap.objs.size,v]) ht hT hg (by with_unfolding_all rfl)
def cutV (xs:List V) (lo hi:Option Int):List V:=(xs.drop (HT.sIx xs.length 0 lo)).take (HT.sIx xs.length xs.length hi - HT.sIx xs.length 0 lo)
theorem cutV_length (xs:List V) (lo hi:Option Int):(cutV xs lo hi).length≤xs.length:=by
  unfold cutV
  rw[List.length_take,List.length_drop]
  lia
end
def ixN (n:Nat) (i:Int):Option Nat:=if 0≤i then (if i < n then some i.toNat else none) else if -(n:Int)≤i then some (i + n).toNat else none
def atI {α:Type} (xs:List α) (i:Int):Option α:=(ixN xs.length i).bind fun j=>xs[j]?
theorem ixN_seq {n:Nat} {i:Int} {j:Nat} (h:ixN n i=some j):seqIndex? i n=some j∧j < n∧-(n:Int)≤i∧i < n:=by
  unfold ixN at h
  by_cases h0:0≤i
  · rw[if_pos h0] at h
    by_cases h1:i < n
    · rw[if_pos h1] at h
      have e:i.toNat=j:=Option.some.inj h
      exact⟨by rw[seqIndex_of h0 h1,e],by lia,by lia,h1⟩
    · rw[if_neg h1] at h;cases h
  · rw[if_neg h0] at h
    by_cases h1:-(n:Int)≤i
    · rw[if_pos h1] at h
      have e:(i + n).toNat=j:=Option.some.inj h
      exact⟨by rw[seqIndex_neg (by lia) h1,e],by lia,h1,by lia⟩
    · rw[if_neg h1] at h;cases h
theorem atI_get {α:Type} {xs:List α} {i:Int} {v:α} (h:atI xs i=some v):∃j,seqIndex? i xs.length=some j∧xs[j]?=some v∧j < xs.length∧-(xs.length:Int)≤i∧i < xs.length:=by
  unfold atI at h
  cases e:ixN xs.length i with
  | none=>rw[e] at h;cases h
  | some j=>
    rw[e] at h
    obtain⟨h1,h2,h3,h4⟩:=ixN_seq e
    exact⟨j,h1,h,h2,h3,h4⟩
theorem atI_nat {α:Type} {xs:List α} {j:Nat} {v:α} (h:xs[j]?=some v):atI xs (j:Int)=some v:=by
  have hj:j < xs.length:=(List.getElem?_eq_some_iff.mp h).1
  have e:ixN xs.length (j:Int)=some j:=by
    unfold ixN
    rw[if_pos (by lia),if_pos (by lia)];simp
  unfold atI;rw[e];exact h
theorem atI_last {α:Type} (xs:List α) (v:α):atI (xs++[v]) (-1)=some v:=by
  have hl:(xs++[v]).length=xs.length + 1:=by simp
  have e:ixN (xs++[v]).length (-1)=some xs.length:=by
    unfold ixN
    rw[hl,if_neg (by decide),if_pos (by lia)]
    congr 1
    lia
  unfold atI
  rw[e]
  show (xs++[v])[xs.length]?=some v
  simp
def PlainIx (b:Expr):Prop:=∀o i,subscripted b false o i=operate [o,i] (getItem o i)
def IxR (X:Cx) (r:R2):Prop:=
  ∀(value slice:Expr) (pins:List (Addr×Obj)) (s:Shared) (σ:St) (H:Hp) (x y:V) (v u:Value) (Q:VK),Inv X pins σ H s→RelV x v→RelV y u→r x y H Q→
    subscripted slice false v u=operate [v,u] (getItem v u)→wpAny (model X.prog X.w) X.A (subscriptTail value slice v u) (EP X pins σ Q) X.xe s
def MtR (X:Cx) (id:String) (r:V→List V→Hp→VK→Prop):Prop:=
  ∀(pins:List (Addr×Obj)) (s:Shared) (σ:St) (H:Hp) (x:V) (xs:List V) (v:Value) (us:List Value) (Q:VK),Inv X pins σ H s→RelV x v→Vals xs us→r x xs H Q→
    wpAny (model X.prog X.w) X.A (call (.builtin id) (v::us)) (EP X pins σ Q) X.xe s
section
variable {X:Cx} {a b:Expr} {ta tb:TE} {pos:Pos}
theorem IxR.or {r r':R2} (h:IxR X r) (h':IxR X r'):IxR X (fun x y H Q=>r x y H Q∨r' x y H Q):=by
  intro value slice pins s σ H x y v u Q I rx ry q hs
  rcases q with q | q
  · exact h value slice pins s σ H x y v u Q I rx ry q hs
  · exact h' value slice pins s σ H x y v u Q I rx ry q hs
theorem pe_ix {r:R2} (hr:IxR X r) (ha:PE X a ta) (hb:PE X b tb) (hs:PlainIx b):PE X (.Subscript a b pos) (tOp r ta tb):=by
  intro pins s σ H Q I h
  exact Subscript_ (binT ha hb I h fun v u s2 x y H2 I2 rx ry q=>hr a b pins s2 σ H2 x y v u Q I2 rx ry q (hs _ _))
def rIxL (K:PySem.W.Frag):R2:=fun x y H Q=>∃p xs i v,x=.ref p∧y=.int i∧SqL K H p xs∧atI xs i=some v∧Q v H
def rIxT (K:PySem.W.Frag):R2:=fun x y H Q=>∃p xs i v,x=.ref p∧y=.int i∧SqT K H p xs∧atI xs i=some v∧Q v H
def rIxS:R2:=fun x y H Q=>∃z i c,x=.str z∧y=.int i∧z.length≤sizeLine∧atI z.cps.toList i=some c∧Q (.str ⟨#[c]⟩) H
theorem ix_list:IxR X (rIxL X.K):=by
  intro value slice pins s σ H x y v u Q I rx ry h hs
  obtain⟨p,xs,i,z,rfl,rfl,hq,he,q⟩:=h
  cases rx
  obtain⟨t,rfl⟩:=ry
  obtain⟨its,r,pl,hz⟩:=I.list hq
  obtain⟨j,h1,h2,h3,h4,h5⟩:=atI_get he
  obtain⟨w,ew,rw'⟩:=r.get h2
  have hl:=r.length
  have hn:=line63
  have fin:EP X pins σ Q w s:=⟨z,H,I,rw',q⟩
  by_cases h0:0≤i
  · have hj:i.toNat=j:=by
      rw[seqIndex_of h0 h5] at h1
      exact Option.some.inj h1
    exact item_listR pl.isList h0 (by lia) (by rw[hj];simpa using ew) fin hs
  · have hj:(i + (its.toArray.size:Int)).toNat=j:=by
      rw[seqIndex_neg (by lia) h4] at h1
      rw[List.size_toArray,←hl]
      exact Option.some.inj h1
    exact subscriptTail_builtinR (x:=w) pl.isList.typeIs slot_list_getitem.lookup
      (wpAny_getItem_list_neg (Q:=fun r s'=>r=w∧EP X pins σ Q r s') pl.isList (by lia) (by rw[List.size_toArray] <;> lia) (by lia) (by rw[hj];simpa using ew) ⟨rfl,fin⟩) hs
theorem ix_tup:IxR X (rIxT X.K):=by
  intro value slice pins s σ H x y v u Q I rx ry h hs
  obtain⟨p,xs,i,z,rfl,rfl,hq,he,q⟩:=h
  cases rx
  obtain⟨t,rfl⟩:=ry
  obtain⟨its,r,pl,hz⟩:=I.tuple hq
  obtain⟨j,h1,h2,h3,h4,h5⟩:=atI_get he
  obtain⟨w,ew,rw'⟩:=r.get h2
  have hl:=r.length
  have hn:=line63
  have fin:EP X pins σ Q w s:=⟨z,H,I,rw',q⟩
  exact subscriptTail_builtinR (x:=w) pl.typeIs slot_tuple_getitem.lookup
    (getItem_tuple (j:=j) (Q:=fun r s'=>r=w∧EP X pins σ Q r s') pl (by lia) (by lia) (by rw[List.size_toArray,←hl];exact h1) (by simpa using ew) ⟨rfl,fin⟩) hs
theorem ix_str:IxR X rIxS:=by
  intro value slice pins s σ H x y v u Q I rx ry h hs
  obtain⟨z,i,c,rfl,rfl,hz,he,q⟩:=h
  obtain⟨t,rfl⟩:=rx
  obtain⟨t',rfl⟩:=ry
  obtain⟨j,h1,h2,h3,h4,h5⟩:=atI_get he
  have hl:z.cps.toList.length=z.length:=by simp [Str.length]
  rw[hl] at h1 h4 h5
  have hn:=line63
  exact tail_any (typeIs_str s z t) slot_str_getitem.lookup (getItem_str (c:=c) (by
    have e1:decide (i < -(2 ^ 63:Int))=false:=decide_eq_false (by lia)
    have e2:decide (i ≥ 2 ^ 63)=false:=decide_eq_false (by lia)
    rw[e1,e2,Bool.or_false]) (by rw[h1];simpa using h2) ⟨.str ⟨#[c]⟩,H,I.tok _,⟨_,rfl⟩,q⟩) hs
def rIx (K:PySem.W.Frag):R2:=fun x y H Q=>rIxL K x y H Q∨rIxT K x y H Q∨rIxS x y H Q
theorem ix_seq:IxR X (rIx X.K):=ix_list.or (ix_tup.or ix_str)
theorem mapSeq_set (its:List Value) (n j:Nat) (u:Value):Obj.mapSeq (·.setIfInBounds j u) { cls:=.type "list",data:=.seq its.toArray n }={ cls:=.type "list",data:=.seq (its.set j u).toArray n }:=by
  simp [Obj.mapSeq]
theorem Inv.lst {pins:List (Addr×Obj)} {σ:St} {H:Hp} {s:Shared} {p:Addr} {xs:List V} (I:Inv X pins σ H s) (h:H p=some (.lst xs)) :
    ∃(its:List Value) (n:Nat),Vals xs its∧s.heap.get? p=some { cls:=.type "list",data:=.seq its.toArray n }∧xs.length≤sizeLine:=by
  obtain⟨z,its,n,r,e⟩:=I.hok p _ h
  exact⟨its,n,r,e,z⟩
theorem Inv.lstUpd {pins:List (Addr×Obj)} {σ:St} {H:Hp} {s:Shared} {p:Addr} {xs ys:List V} {its its':List Value} {n n':Nat} {f:Obj→Obj} (I:Inv X pins σ H s) (h:H p=some (.lst xs))
    (ho:s.heap.get? p=some { cls:=.type "list",data:=.seq its.toArray n }) (hf:f { cls:=.type "list",data:=.seq its.toArray n }={ cls:=.type "list",data:=.seq its'.toArray n' }) (r:Vals ys its') (hz:ys.length≤sizeLine) (t:Nat) :
    Inv X pins σ (upd H p (.lst ys)) { s with heap:=s.heap.update p f,toks:=t }:=by
  have e:(s.heap.update p f).get? p=some { cls:=.type "list",data:=.seq its'.toArray n' }:=by
    rw[Heap.get?_update_self f ho (by rw[hf] <;> rfl),hf]
  refine I.write (x:=p) (e:=p) (by rw[h];trivial) (.inl rfl) (fun b u hb q=>(Heap.get?_update_other _ _ (Ne.symm hb)).trans q) ⟨_,e⟩ ?_
  exact⟨hz,its',n',r,e⟩
def rSetL:V→V→V→Hp→(Hp→Prop)→Prop:=fun o i v H Q=>∃p xs k j,o=.ref p∧i=.int k∧H p=some (.lst xs)∧ixN xs.length k=some j∧Q (upd H p (.lst (xs.set j v)))
theorem set_list:PSet X rSetL:=by
  intro pins s σ H o i v ov iv u Q I ro ri rv h
  obtain⟨p,xs,k,j,rfl,rfl,hp,hj,q⟩:=h
  cases ro
  obtain⟨t,rfl⟩:=ri
  obtain⟨its,n,r,ho,hz⟩:=I.lst hp
  obtain⟨h1,h2,h3,h4⟩:=ixN_seq hj
  have hl:=r.length
  have hn:=line63
  have I':Inv X pins σ (upd H p (.lst (xs.set j v))) { s with heap:=s.heap.update p (Obj.mapSeq (·.setIfInBounds j u)) }:=
    I.lstUpd hp ho (mapSeq_set its n j u) (r.set rv j) (by rw[List.length_set];exact hz) s.toks
  by_cases h0:0≤k
  · have hk:k.toNat=j:=by
      rw[seqIndex_of h0 h4] at h1
      exact Option.some.inj h1
    exact PySem.W.ki_setAt ho h0 (by lia) (by rw[List.size_toArray,←hl];exact h4) (by rw[hk];exact⟨_,I',q⟩)
  · have hk:(k + (its.toArray.size:Int)).toNat=j:=by
      rw[seqIndex_neg (by lia) h3] at h1
      rw[List.size_toArray,←hl]
      exact Option.some.inj h1
    exact PySem.W.ki_setBack ho (by lia) (by rw[List.size_toArray,←hl];exact h3) (by lia) (by rw[hk];exact⟨_,I',q⟩)
theorem slice_bounds (lo hi:Option Int) (n:Nat):(sliceBounds lo hi none n).1=((HT.sIx n 0 lo:Nat):Int)∧(sliceBounds lo hi none n).2.1=((HT.sIx n n hi:Nat):Int)∧(sliceBounds lo hi none n).2.2=1:=by
  refine⟨?_,?_,rfl⟩
  · cases lo with
    | none=>simp [sliceBounds,HT.sIx]
    | some i=>
      simp only[sliceBounds,HT.sIx,Option.getD_none,show (1:Int) > 0 by decide,if_true]
      by_cases h:i < 0
      · simp only[h,if_true] <;> lia
      · simp only[h,if_false] <;> lia
  · cases hi with
    | none=>simp [sliceBounds,HT.sIx]
    | some i=>
      simp only[sliceBounds,HT.sIx,Option.getD_none,show (1:Int) > 0 by decide,if_true]
      by_cases h:i < 0
      · simp only[h,if_true] <;> lia
      · simp only[h,if_false] <;> lia
theorem slicePick_cut (its:List Value) (lo hi:Option Int):slicePick its.toArray lo hi none=((its.drop (HT.sIx its.length 0 lo)).take (HT.sIx its.length its.length hi - HT.sIx its.length 0 lo)).toArray:=by
  obtain⟨h1,h2,h3⟩:=slice_bounds lo hi its.toArray.size
  unfold slicePick
  rw[h1,h2,h3]
  simp only[sliceRange_one,pick_run,List.size_toArray] <;> rfl
def rSlL (K:PySem.W.Frag):V→Option Int→Option Int→Hp→VK→Prop:=fun x lo hi H Q=>∃a xs,x=.ref a∧SqL K H a xs∧∀p,H p=none→Q (.ref p) (upd H p (.lst (cutV xs lo hi)))
theorem sl_list:SlR X (rSlL X.K):=by
  intro pins s σ H x v vl vu lo hi sl Q I rx hs pl pu h
  obtain⟨a,xs,rfl,hx,q⟩:=h
  cases rx
  obtain⟨its,r,ht,hz⟩:=I.list hx
  have hlen:=r.length
  refine⟨"list",_,slot_list_getitem.lookup,ht.isList.typeIs,?_⟩
  refine wpAny_getItem_list_slice ht.isList hs pl pu .none (by simp) ?_ (by rw[List.size_toArray] <;> lia)
  rw[slicePick_cut,←hlen]
  refine⟨.ref s.heap.objs.size,_,I.laid (t':=s.toks) (o:=.lst (cutV xs lo hi)) (fun b ob q=>Heap.get?_push_of_some _ q) (Nat.le_refl _) ?_,rfl,q _ (I.hok.fresh (Nat.le_refl _))⟩
  exact⟨Nat.le_trans (cutV_length xs lo hi) hz,_,0,(r.drop (HT.sIx xs.length 0 lo)).take (HT.sIx xs.length xs.length hi - HT.sIx xs.length 0 lo),Heap.get?_push_size _ rfl⟩
def flatV:V→Bool
  | .non=>true
  | .bl _=>true
  | .int _=>true
  | .str _=>true
  | _=>false
def eqV:V→V→Bool
  | .non,.non=>true
  | .bl a,.bl b=>a == b
  | .bl a,.int b=>(if a then 1 else 0) == b
  | .int a,.bl b=>a == (if b then 1 else 0)
  | .int a,.int b=>a == b
  | .str a,.str b=>a == b
  | _,_=>false
theorem eqAt_V {A:Around} {s:Shared} {y x:V} {u v:Value} (ry:RelV y u) (rx:RelV x v) (fy:flatV y=true) (fx:flatV x=true):SeqAt.EqAt A s u v (eqV y x):=by
  cases y with
  | non=>
    cases ry
    cases x with
    | non=>cases rx;exact SeqAt.EqAt.same _
    | bl b=>cases rx;exact SeqAt.EqAt.none_bool b
    | int b=>obtain⟨t,rfl⟩:=rx;exact SeqAt.EqAt.none_int b t
    | str b=>obtain⟨t,rfl⟩:=rx;exact SeqAt.EqAt.none_str b t
    | _=>exact absurd (show false=true from fx) Bool.false_ne_true
  | bl a=>
    cases ry
    cases x with
    | non=>cases rx;exact SeqAt.EqAt.bool_none a
    | bl b=>cases rx;exact SeqAt.EqAt.bool_bool a b
    | int b=>obtain⟨t,rfl⟩:=rx;exact SeqAt.EqAt.bool_int a b t
    | str b=>obtain⟨t,rfl⟩:=rx;exact SeqAt.EqAt.bool_str a b t
    | _=>exact absurd (show false=true from fx) Bool.false_ne_true
  | int a=>
    obtain⟨t',rfl⟩:=ry
    cases x with
    | non=>cases rx;exact SeqAt.EqAt.int_none a t'
    | bl b=>cases rx;exact SeqAt.EqAt.int_bool a t' b
    | int b=>obtain⟨t,rfl⟩:=rx;exact SeqAt.EqAt.int_int a t' b t
    | str b=>obtain⟨t,rfl⟩:=rx;exact SeqAt.EqAt.int_str a t' b t
    | _=>exact absurd (show false=true from fx) Bool.false_ne_true
  | str a=>
    obtain⟨t',rfl⟩:=ry
    cases x with
    | non=>cases rx;exact SeqAt.EqAt.str_none a t'
    | bl b=>cases rx;exact SeqAt.EqAt.str_bool a t' b
    | int b=>obtain⟨t,rfl⟩:=rx;exact SeqAt.EqAt.str_int a t' b t
    | str b=>obtain⟨t,rfl⟩:=rx;exact SeqAt.EqAt.str_str a t' b t
    | _=>exact absurd (show false=true from fx) Bool.false_ne_true
  | _=>exact absurd (show false=true from fy) Bool.false_ne_true
def eqU (x:V) (u:Value):Bool:=match u with
  | .none=>eqV .non x
  | .bool b=>eqV (.bl b) x
  | .int i _=>eqV (.int i) x
  | .str z _=>eqV (.str z) x
  | _=>false
theorem eqU_of {x y:V} {u:Value} (r:RelV y u) (f:flatV y=true):eqU x u=eqV y x:=by
  cases y with
  | non=>cases r;rfl
  | bl b=>cases r;rfl
  | int i=>obtain⟨t,rfl⟩:=r;rfl
  | str z=>obtain⟨t,rfl⟩:=r;rfl
  | _=>exact absurd (show false=true from f) Bool.false_ne_true
theorem any_eqU {x:V}:∀{xs:List V} {us:List Value},Vals xs us→xs.all flatV=true→us.any (eqU x)=xs.any fun y=>eqV y x
  | _,_,.nil,_=>rfl
  | y::xs,u::us,.cons r t,f=>by
    rw[List.all_cons,Bool.and_eq_true] at f
    rw[List.any_cons,List.any_cons,eqU_of r f.1,any_eqU t f.2]
theorem mem_eqAt {A:Around} {s:Shared} {x:V} {v:Value} (rx:RelV x v) (fx:flatV x=true):∀{xs:List V} {us:List Value},Vals xs us→xs.all flatV=true→∀u∈us,SeqAt.EqAt A s u v (eqU x u)
  | _,_,.nil,_=>fun u hu=>by cases hu
  | y::xs,u::us,.cons r t,f=>fun u' hu=>by
    rw[List.all_cons,Bool.and_eq_true] at f
    rcases List.mem_cons.mp hu with rfl | hu
    · rw[eqU_of r f.1];exact eqAt_V r rx f.1 fx
    · exact mem_eqAt rx fx t f.2 u' hu
def inV (x:V) (xs:List V):Bool:=xs.any fun y=>eqV y x
def rIn (K:PySem.W.Frag) (neg:Bool):R2:=fun x y H Q=>∃p xs,y=.ref p∧(SqL K H p xs∨SqT K H p xs)∧flatV x=true∧xs.all flatV=true∧Q (.bl (if neg then !inV x xs else inV x xs)) H
theorem op_notIn_seq:OpR X (compareOp .NotIn) (rIn X.K true):=by
  intro pins s σ H x y v u Q I rx ry h
  obtain⟨p,xs,rfl,hq,fx,fs,q⟩:=h
  cases ry
  rcases hq with hq | hq
  · obtain⟨its,r,pl,hz⟩:=I.list hq
    refine SeqAt.notIn_listAt (eqU x) pl.isList (fun w hw=>mem_eqAt rx fx r fs w (by simpa using hw)) ⟨.bl _,H,I,rfl,?_⟩
    rw[show its.toArray.any (eqU x)=its.any (eqU x) by simp,any_eqU r fs]
    exact q
  · obtain⟨its,r,pl,hz⟩:=I.tuple hq
    refine SeqAt.notIn_tupleAt (eqU x) pl (fun w hw=>mem_eqAt rx fx r fs w (by simpa using hw)) ⟨.bl _,H,I,rfl,?_⟩
    rw[show its.toArray.any (eqU x)=its.any (eqU x) by simp,any_eqU r fs]
    exact q
theorem call_len_seq:CallR X (.builtin "len") (fun xs H Q=>∃p ys,xs=[.ref p]∧(SqL X.K H p ys∨SqT X.K H p ys)∧Q (.int ys.length) H):=by
  intro pins s σ H xs us Q I r h
  obtain⟨p,ys,rfl,hq,q⟩:=h
  obtain⟨u,rfl,rx⟩:=vals1 r
  cases rx
  have hn:=line63
  rcases hq with hq | hq
  · obtain⟨its,r',pl,hz⟩:=I.list hq
    have hlen:=r'.length
    exact Calls.call_len_list pl.isList (by simp only[List.size_toArray] <;> lia) ⟨.int ys.length,H,I.tok _,⟨s.toks + 1,by rw[List.size_toArray,hlen]⟩,q⟩
  · obtain⟨its,r',pl,hz⟩:=I.tuple hq
    have hlen:=r'.length
    exact len_tuple pl (by simp only[List.size_toArray] <;> lia) ⟨.int ys.length,H,I.tok _,⟨s.toks + 1,by rw[List.size_toArray,hlen]⟩,q⟩
theorem call_list_of:CallR X (.type "list") (fun xs H Q=>∃p ys,xs=[.ref p]∧(SqL X.K H p ys∨SqT X.K H p ys)∧∀l,H l=none→Q (.ref l) (upd H l (.lst ys))):=by
  intro pins s σ H xs us Q I r h
  obtain⟨p,ys,rfl,hq,q⟩:=h
  obtain⟨u,rfl,rx⟩:=vals1 r
  cases rx
  have fin:∀(its:List Value),Vals ys its→ys.length≤sizeLine→∀(h':Heap) (c':Nat),(∀b o',s.heap.get? b=some o'→h'.get? b=some o')→
      h'.get? s.heap.objs.size=some { cls:=.type "list",dict:=none,data:=.seq its.toArray c',slots:=#[] }→EP X pins σ Q (.ref s.heap.objs.size) { s with heap:=h' }:=fun its r' hz h' c' kp e=>
    ⟨.ref s.heap.objs.size,_,I.laid (t':=s.toks) kp (Nat.le_refl _) (show ObjOk X.prog X.w _ h' _ (.lst ys) from ⟨hz,its,c',r',e⟩),rfl,q _ (I.hok.fresh (Nat.le_refl _))⟩
  rcases hq with hq | hq
  · obtain⟨its,r',pl,hz⟩:=I.list hq
    have hlen:=r'.length
    obtain⟨o,ho,hc,n,hd⟩:=pl.isList
    exact call_list_seq p (.inl rfl) ho hc hd (fun h' c' kp e=>fin its r' hz h' c' kp e) (by simp only[List.size_toArray] <;> lia)
  · obtain⟨its,r',pl,hz⟩:=I.tuple hq
    have hlen:=r'.length
    obtain⟨o,ho,hc,n,hd⟩:=pl
    exact call_list_seq p (.inr rfl) ho hc hd (fun h' c' kp e=>fin its r' hz h' c' kp e) (by simp only[List.size_toArray] <;> lia)
def tyV (K:PySem.W.Frag) (T:String) (x:V) (H:Hp):Prop:=match x with
  | .str _=>T = "str"
  | .int _=>T = "int"
  | .ref p=>(T = "list" ∧∃xs,SqL K H p xs)∨(T = "tuple" ∧∃o,K.lookup p=some o∧o.cls=.type "tuple" ∧o.dict=none)∨
      (T = "dict" ∧((∃kvs,H p=some (.dK kvs))∨∃kvs,H p=some (.dT kvs)))∨(T = "set" ∧∃S n,H p=some (.set S n))
  | _=>False
theorem tyV_is {pins:List (Addr×Obj)} {σ:St} {H:Hp} {s:Shared} {T:String} {x:V} {v:Value} (I:Inv X pins σ H s) (r:RelV x v) (ty:tyV X.K T x H) :
    s.TypeIs v T∧∀a,v=.ref a→∃ob,s.heap.get? a=some ob∧ob.dict=none:=by
  cases x with
  | str z=>
    obtain⟨t,rfl⟩:=r
    cases (show T = "str" from ty)
    exact⟨typeIs_str s z t,fun _ e=>nomatch e⟩
  | int i=>
    obtain⟨t,rfl⟩:=r
    cases (show T = "int" from ty)
    exact⟨typeIs_int s i t,fun _ e=>nomatch e⟩
  | ref p=>
    cases r
    rcases ty with ⟨rfl,xs,hq⟩ | ⟨rfl,o,hk,hc,hd⟩ | ⟨rfl,hk⟩ | ⟨rfl,S,n,hk⟩
    · obtain⟨its,_,pl,_⟩:=I.list hq
      refine⟨pl.isList.typeIs,fun a e=>?_⟩
      cases e
      obtain⟨o,n,e,c,hd,_⟩:=pl
      exact⟨o,e,hd⟩
    · refine⟨⟨o,I.kIn p o hk,hc⟩,fun a e=>?_⟩
      cases e
      exact⟨o,I.kIn _ o hk,hd⟩
    · have z:∃o,s.heap.get? p=some o∧o.ExactDict:=by
        rcases hk with ⟨kvs,hk⟩ | ⟨kvs,hk⟩
        · obtain⟨_,_,_,_,o,_,_,e,ex,_⟩:=I.hok p _ hk
          exact⟨o,e,ex⟩
        · obtain⟨_,_,_,_,o,_,_,e,ex,_⟩:=I.hok p _ hk
          exact⟨o,e,ex⟩
      obtain⟨o,e,ex⟩:=z
      refine⟨⟨o,e,ex.1⟩,fun a e2=>?_⟩
      cases e2
      exact⟨o,e,ex.2.1⟩
    · obtain⟨o,_,_,_,e,ex,_⟩:=I.hok p _ hk
      refine⟨⟨o,e,ex.1⟩,fun a e2=>?_⟩
      cases e2
      exact⟨o,e,ex.2.1⟩
  | _=>exact False.elim ty
def tBM0 (K:PySem.W.Frag) (T:String) (r:V→List V→Hp→VK→Prop) (to:TE):TE:=fun σ H Q=>to σ H fun x H1=>tyV K T x H1∧r x [] H1 Q
def tBM (K:PySem.W.Frag) (T:String) (r:V→List V→Hp→VK→Prop) (to:TE) (t:TA):TE:=fun σ H Q=>to σ H fun x H1=>tyV K T x H1∧t σ H1 fun xs H2=>r x xs H2 Q
variable {o e:Expr} {es:List Expr} {to:TE} {t:TA} {name:Str} {apos cpos:Pos} {T id:String} {r:V→List V→Hp→VK→Prop}
theorem pe_bm0 (pa:PlainAttrs T) (slot:Slot T name id) (hty:typeOf (.builtin id)=pure (.type "method_descriptor")) (hm:MtR X id r) (ho:PE X o to)
    (hbase:attributeBase o name X.env (eval o X.env)=eval o X.env:=by rfl) (hline:(apos.endLine == cpos.line)=true:=by rfl):PE X (.Call (.Attribute o name apos) [] [] cpos) (tBM0 X.K T r to):=by
  intro pins s σ H Q I h
  refine wpAny_Call_method0_late hbase hline (thn (ho pins s σ H _ I h) fun v s1 zz219=>zz219.elim fun x zz220=>zz220.elim fun H1 zz221=>zz221.elim fun I1 zz222=>zz222.elim fun r1 zz223=>zz223.elim fun ty q1=>?_)
  obtain⟨h1,h2⟩:=tyV_is I1 r1 ty
  exact⟨T,id,pa,slot,hty,h1,h2,Calls.callWith_builtin rfl (PySem.evalArgs_none (hm pins s1 σ H1 x [] v [] Q I1 r1 .nil q1))⟩
theorem pe_bm (pa:PlainAttrs T) (slot:Slot T name id) (hty:typeOf (.builtin id)=pure (.type "method_descriptor")) (hm:MtR X id r) (ho:PE X o to) (ha:PA X (e::es) t)
    (hbase:attributeBase o name X.env (eval o X.env)=eval o X.env:=by rfl)
    (hfew:((backTo cpos (starEach (e::es) X.env)).all (fun x=>!x.1)&&(backToKw cpos (keywordEach [] X.env)).all (fun x=>x.1.isSome)
      &&decide ((e::es).length + ([]:List Keyword).length + (if ([]:List Keyword).isEmpty then 0 else 1) < 30))=true:=by rfl)
    (hline:(apos.endLine == cpos.line)=true:=by rfl) (hs:starEach (e::es) X.env=(false,eval e X.env)::starEach es X.env:=by rfl) (hplain:(backTo cpos (starEach es X.env)).any (·.1)=false:=by rfl) :
    PE X (.Call (.Attribute o name apos) (e::es) [] cpos) (tBM X.K T r to t):=by
  intro pins s σ H Q I h
  refine wpAny_Call_method_late hbase hfew hline rfl (thn (ho pins s σ H _ I h) fun v s1 zz224=>zz224.elim fun x zz225=>zz225.elim fun H1 zz226=>zz226.elim fun I1 zz227=>zz227.elim fun r1 zz228=>zz228.elim fun ty q1=>?_)
  obtain⟨h1,h2⟩:=tyV_is I1 r1 ty
  refine⟨T,id,pa,slot,hty,h1,h2,?_⟩
  have hA:=ha cpos pins s1 σ H1 _ I1 q1
  rw[hs] at hA ⊢
  refine Calls.callWith_builtin (by show (false||(backTo cpos (starEach es X.env)).any (·.1))=false;rw[hplain] <;> rfl) (Calls.evalArgs_plain ?_)
  exact thn hA fun us s2 zz229=>el5 zz229 fun vs H2 I2 r2 q2=>hm pins s2 σ H2 x vs v us Q I2 r1 r2 q2
end
def MtM (X:Cx) (id:String) (r:V→List V→Hp→VK→Prop):Prop:=
  ∀(pins:List (Addr×Obj)) (s:Shared) (σ:St) (H:Hp) (x:V) (xs:List V) (v:Value) (us:List Value) (Q:VK),Inv X pins σ H s→RelV x v→Vals xs us→r x xs H Q→
    wpAny (model X.prog X.w) X.A (call (.builtin id) (v::us)) (EP X pins σ Q) X.xe s
theorem Vals.one {x:V} {us:List Value} (h:Vals [x] us):∃u,us=[u]∧RelV x u:=by
  cases h with
  | cons r t=>cases t;exact⟨_,rfl,r⟩
theorem Vals.zero:∀{us:List Value},Vals [] us→us=[]
  | _,.nil=>rfl
theorem Vals.dropLast {xs:List V} {us:List Value} (h:Vals xs us):Vals xs.dropLast us.dropLast:=by
  induction h with
  | nil=>exact .nil
  | cons r t ih=>
    cases t with
    | nil=>exact .nil
    | cons q t'=>exact .cons r ih
theorem Vals.rep {xs:List V} {us:List Value} (h:Vals xs us):∀k:Nat,Vals (List.replicate k xs).flatten (List.replicate k us).flatten
  | 0=>.nil
  | k + 1=>by
    rw[List.replicate_succ,List.replicate_succ,List.flatten_cons,List.flatten_cons]
    exact Vals.append h (Vals.rep h k)
theorem erase_last {α:Type} (l:List α):l.eraseIdx (l.length - 1)=l.dropLast:=by
  induction l with
  | nil=>rfl
  | cons a r ih=>
    cases r with
    | nil=>rfl
    | cons b r=>
      have e:(a::b::r).length - 1=((b::r).length - 1) + 1:=by
        have h1:(a::b::r).length=r.length + 2:=rfl
        have h2:(b::r).length=r.length + 1:=rfl
        lia
      rw[e,List.eraseIdx_cons_succ,ih]
      all_goals rfl
theorem foldl_rep (its:List Value):∀(k:Nat) (acc:List Value),
    List.foldl (fun x1 x2=>x1++x2) acc.toArray (List.replicate k its.toArray)=(acc++(List.replicate k its).flatten).toArray
  | 0,acc=>by simp
  | k + 1,acc=>by
    have e:acc.toArray++its.toArray=(acc++its).toArray:=by simp
    have e2:(acc++its)++(List.replicate k its).flatten=acc++(List.replicate (k + 1) its).flatten:=by
      rw[List.replicate_succ,List.flatten_cons,List.append_assoc]
    rw[←e2,←foldl_rep its k (acc++its),←e,List.replicate_succ,List.foldl_cons]
section
variable {X:Cx} {pins:List (Addr×Obj)} {σ:St} {H:Hp} {s:Shared} {l b:Addr} {xs ys zs:List V}
theorem Inv.lset {its its':List Value} {n:Nat} {f:Array Value→Array Value} {t':Nat} (I:Inv X pins σ H s) (hH:H l=some (.lst xs))
    (e:s.heap.get? l=some { cls:=.type "list",data:=.seq its.toArray n }) (hf:f its.toArray=its'.toArray) (hv:Vals ys its') (hz:ys.length≤sizeLine) :
    Inv X pins σ (upd H l (.lst ys)) { s with heap:=s.heap.update l (Obj.mapSeq f),toks:=t' }:=by
  have q:=PySem.IsL.update e f
  rw[hf] at q
  refine I.write (x:=l) (e:=l) (by rw[hH];exact trivial) (.inl rfl) (fun b' u hb hu=>(Heap.get?_update_other s.heap (Obj.mapSeq f) (Ne.symm hb)).trans hu) ⟨_,q⟩ ?_
  exact⟨hz,its',_,hv,q⟩
theorem Inv.lnew {its:List Value} {t':Nat} (I:Inv X pins σ H s) (hv:Vals ys its) (hz:ys.length≤sizeLine) :
    Inv X pins σ (upd H s.heap.objs.size (.lst ys)) { s with heap:=s.heap.push { cls:=.type "list",data:=.seq its.toArray },toks:=t' }:=
  I.laid (fun _ _ q=>Heap.get?_push_of_some _ q) (Nat.le_refl _) ⟨hz,its,0,hv,Heap.get?_push_size _ rfl⟩
theorem Inv.fresh (I:Inv X pins σ H s):H s.heap.objs.size=none:=I.hok.fresh (Nat.le_refl _)
theorem Inv.lstM (I:Inv X pins σ H s) (hH:H l=some (.lst xs)):xs.length≤sizeLine∧∃(its:List Value) (n:Nat),Vals xs its∧xs.length=its.length∧s.heap.get? l=some { cls:=.type "list",data:=.seq its.toArray n }:=by
  obtain⟨z,its,n,r,e⟩:=I.hok l _ hH
  exact⟨z,its,n,r,r.length,e⟩
theorem notLongL {n:Nat} (h:n≤sizeLine):Builtin.List.listTooLong n=false:=by
  unfold Builtin.List.listTooLong
  exact decide_eq_false (by lia)
end
section
variable {X:Cx}
def rAppend:V→List V→Hp→VK→Prop:=fun x vs H Q=>∃l xs y,x=.ref l∧vs=[y]∧H l=some (.lst xs)∧xs.length < sizeLine∧Q .non (upd H l (.lst (xs++[y])))
theorem mt_append:MtM X "list.append" rAppend:=by
  intro pins s σ H x vs v us Q I rx rv h
  obtain⟨l,xs,y,rfl,rfl,hH,hz,q⟩:=h
  cases rx
  obtain⟨u,rfl,ru⟩:=rv.one
  obtain⟨z,its,n,r,hl,e⟩:=I.lstM hH
  refine call_meets F.slot_list_append ⟨_,e,rfl⟩ F.entry_list_append (F.args_list_append_2 _ _) (PySem.list_append l its.toArray n u (by rw[List.size_toArray];lia)) ⟨e,?_⟩
  refine⟨.non,_,I.lset (its':=its++[u]) hH e (by simp) (r.append (.cons ru .nil)) ?_,rfl,q⟩
  rw[List.length_append,List.length_singleton]
  lia
def rPop:V→List V→Hp→VK→Prop:=fun x vs H Q=>∃l xs y,x=.ref l∧vs=[]∧H l=some (.lst xs)∧xs[xs.length - 1]?=some y∧Q y (upd H l (.lst xs.dropLast))
theorem mt_pop:MtM X "list.pop" rPop:=by
  intro pins s σ H x vs v us Q I rx rv h
  obtain⟨l,xs,y,rfl,rfl,hH,hy,q⟩:=h
  cases rx
  have hus:=rv.zero
  subst hus
  obtain⟨z,its,n,r,hl,e⟩:=I.lstM hH
  obtain⟨u,hu,ru⟩:=r.get hy
  have hy':its.toArray[its.toArray.size - 1]?=some u:=by
    show its.toArray[its.length - 1]?=some u
    rw[←Array.getElem?_toList,←hl]
    exact hu
  refine call_meets F.slot_list_pop ⟨_,e,rfl⟩ F.entry_list_pop (F.args_list_pop_1 _) (MeetsSeq.list_pop_last l its.toArray n u hy' (by rw[List.size_toArray];lia)) ⟨e,?_⟩
  refine⟨y,_,I.lset (its':=its.dropLast) hH e ?_ r.dropLast ?_,ru,q⟩
  · show its.toArray.eraseIdxIfInBounds (its.toArray.size - 1)=its.dropLast.toArray
    rw[List.size_toArray,List.eraseIdxIfInBounds_toArray,erase_last]
  · rw[List.length_dropLast]
    lia
def rCat:R2:=fun x y H Q=>∃l b xs zs,x=.ref l∧y=.ref b∧H l=some (.lst xs)∧H b=some (.lst zs)∧xs.length + zs.length≤sizeLine∧∀p,H p=none→Q (.ref p) (upd H p (.lst (xs++zs)))
theorem op_cat:OpR X (binaryOp .Add) rCat:=by
  intro pins s σ H x y v u Q I rx ry h
  obtain⟨l,b,xs,zs,rfl,rfl,hH,hB,hz,q⟩:=h
  cases rx
  cases ry
  obtain⟨z,its,n,r,hl,e⟩:=I.lstM hH
  obtain⟨z2,its2,n2,r2,hl2,e2⟩:=I.lstM hB
  refine PySem.P.add_list e e2 ?_ (by rw[List.size_toArray,List.size_toArray];lia)
  have ea:its.toArray++its2.toArray=(its++its2).toArray:=by simp
  rw[ea]
  exact⟨.ref _,_,I.lnew (t':=s.toks) (r.append r2) (by rw[List.length_append];lia),rfl,q _ I.fresh⟩
def rRep:R2:=fun x y H Q=>∃l k xs,x=.ref l∧y=.int k∧H l=some (.lst xs)∧-(2 ^ 63)≤k∧k < 2 ^ 63∧xs.length * k.toNat≤sizeLine∧
  ∀p,H p=none→Q (.ref p) (upd H p (.lst (List.replicate k.toNat xs).flatten))
theorem len_rep {α:Type} (xs:List α) (k:Nat):(List.replicate k xs).flatten.length=k * xs.length:=by
  induction k with
  | zero=>simp
  | succ k ih=>rw[List.replicate_succ,List.flatten_cons,List.length_append,ih,Nat.succ_mul,Nat.add_comm]
theorem op_rep:OpR X (binaryOp .Mult) rRep:=by
  intro pins s σ H x y v u Q I rx ry h
  obtain⟨l,k,xs,rfl,rfl,hH,h1,h2,hz,q⟩:=h
  cases rx
  obtain⟨t,rfl⟩:=ry
  obtain⟨z,its,n,r,hl,e⟩:=I.lstM hH
  have hlen:its.toArray.size * k.toNat≤sizeLine:=by rw[List.size_toArray,←hl];exact hz
  have hcap:¬ its.toArray.size * k.toNat > (2 ^ 63 - 1) / 8:=by
    have:(sizeLine:Nat)≤(2 ^ 63 - 1) / 8:=by decide
    lia
  have hfit:¬ (!Builtin.List.listFitsIndex k)=true:=by
    rw[fitsIndex_both h1 h2]
    exact Bool.false_ne_true
  have hlong:¬ Builtin.List.listTooLong (its.toArray.size * k.toNat)=true:=by
    rw[notLongL hlen]
    exact Bool.false_ne_true
  have hnew:List.foldl (fun x1 x2=>x1++x2) #[] (List.replicate (if its.toArray.isEmpty=true then 0 else k.toNat) its.toArray)=(List.replicate k.toNat its).flatten.toArray:=by
    have f0:∀m:Nat,List.foldl (fun x1 x2=>x1++x2) #[] (List.replicate m its.toArray)=(List.replicate m its).flatten.toArray:=fun m=>by
      have:=foldl_rep its m []
      rw[List.nil_append] at this
      exact this
    rw[f0]
    cases its with
    | nil=>simp
    | cons a r'=>rw[if_neg (by simp)]
  refine wpAny_binaryOp_repeat_ref (T:= "list") (U:= "int") (by decide) ⟨_,e,rfl⟩ (fun s'=>typeIs_int s' k t) noFill_list_mul F.fills_int_mul F.slot_int_rmul repeat_list F.slot_int_index.lookup
    (call_meets F.slot_int_rmul (typeIs_int s k t) F.entry_int_rmul (F.args_int_rmul_2 _ _) (int___rmul___int_list k t l its.toArray n)
      ⟨e,rfl,⟨_,e,rfl⟩,call_meets F.slot_list_mul ⟨_,e,rfl⟩ F.entry_list_mul (F.args_list_mul_2 _ _) (AutoListH.list___mul___list_int_3 l its.toArray n k t hfit hcap hlong) ⟨e,?_⟩⟩)
  rw[hnew]
  exact⟨.ref _,_,I.lnew (t':=s.toks) (r.rep k.toNat) (by rw[len_rep,Nat.mul_comm];exact hz),rfl,q _ I.fresh⟩
end
section
variable {prog:Program} {w:World} {A:Around} {E:Value→Shared→Prop} {s:Shared}
set_option maxRecDepth 100000 in
end
section
variable {X:Cx}
end
end L2
namespace Att
open PySem PySem.W PySem.Calls PyProof.Rows
theorem ints_of_wellAll {P:Params} {h:Heap}:∀(ns:List Int) (vs:List Value),WellAll P h vs (ns.map WData.int)→IntsAre vs ns:=by
  intro ns
  induction ns with
  | nil=>
    intro vs w
    rw[List.map_nil] at w
    cases w
    exact .nil
  | cons n ns ih=>
    intro vs w
    rw[List.map_cons] at w
    cases w with
    | cons a b=>
      cases a
      exact .cons _ _ (ih _ b)
theorem script_of {l:OpenLaw} {n:Nat} (hn:l.most=some n) {P:Params} {h:Heap} {args:List WData} {vals:List Value}
    (hpre:l.row.toRowW.claim.pre args=true) (hwl:WellAll P h vals args) :
    ∃a vs ns,vals=[Value.ref a]∧args=[WData.list (ns.map WData.int)]∧h.get? a=some { cls:=.type "list",data:=.seq vs.toArray }∧IntsAre vs ns∧ns.length≤n:=by
  have hsh:WShape.hasAll [] args [.list .int]=true:=(pre_splitW hpre).1
  have hc:l.pre.holds [] { args:=args }=true:=(pre_splitW hpre).2
  obtain⟨d,r,rfl,h1,h2⟩:=hasAllW_cons hsh
  obtain rfl:=hasAllW_nil h2
  obtain⟨xs,rfl,h3⟩:=hasW_list h1
  obtain⟨ns,rfl⟩:=items_int h3
  have hlen:ns.length≤n:=by
    unfold OpenLaw.pre at hc
    have h4:(WTm.not (.lt (.lit (.int (n:Int))) (.len (.arg 0)))).holds [] { args:=[.list (ns.map .int)] }=true:=by
      have h4:=(holds_andW hc).1
      rw[hn] at h4
      exact h4
    have h5:=condW_of h4 (w_not (w_lt w_lit (w_len_list (w_arg rfl))))
    rw[List.length_map] at h5
    refine Nat.le_of_not_lt fun q=>?_
    have q':(n:Int) < ((ns.length:Nat):Int):=by lia
    first
      | (rw[decide_eq_true q'] at h5;exact absurd h5 (by decide))
      | (simp at h5;lia)
  cases hwl with
  | cons w1 w2=>
    cases w2
    cases w1 with
    | list ho hall=>exact⟨_,_,ns,rfl,rfl,ho,ints_of_wellAll ns _ hall,hlen⟩
theorem post_true (l:OpenLaw) (args:List WData):l.row.toRowW.claim.post args (.bool true) args=true:=
  postW_of (r:=l.row.toRowW) (X:=(true == true))
    (show WShape.has [] (.bool true) .bool=true by first | rfl | decide | simp [WShape.has,WShape.arms,WShape.armsAll])
    (show (WTm.eq .res (.lit (.bool true))).value [] { args:=args,res:=some (.bool true),after:=args }=some (.bool (true == true)) from w_eq_bool (w_res rfl) w_lit) rfl
theorem attach_call {l:OpenLaw} {n:Nat} {q:Program} {loose:List Str} {XP:(Str→Option Value)→Heap→Prop} {YP:World→Heap→Prop} {d:DefRec}
    (hn:l.most=some n) (hdf:d.params.defaults=[])
    (call:∀(w:World) (s₀ s₁:Shared) (mg mb:Str→Option Value) (fa:Addr) (o:Obj) (pm cd doc:Value) (a:Addr) (vs:List Value) (ns:List Int),
      Ground q loose [] XP w s₀ mg mb s₁.heap→YP w s₁.heap→
      s₁.heap.get? fa=some o→o.data=.func (docDef d.name d.params d.body d.scope pm cd doc)→s₁.heap.CodeRec cd d.name→mg d.name=some (.ref fa)→
      s₁.heap.get? a=some { cls:=.type "list",data:=.seq vs.toArray }→IntsAre vs ns→ns.length≤n→s₁.gens=#[]→
      codeAny (model l.prog w) callerA (.call (.ref fa) ⟨[.ref a],[]⟩) (fun r s'=>r=.ok (.ret (.bool true))∧OldK s₁.heap s'.heap∧s'.os=s₁.os∧AllBare s'.gens) s₁) :
    WalkO q loose XP YP l.row.toRowW d [] (fun f vs=>PySem.call f vs):=by
  intro w s₀ s₁ mg mb G Y fa o pm cd doc dV kV ho hd hcd hD hmg hg args vals as hpre hlay hrd hwl hlo
  obtain rfl:dV=.none:=Dflts.none hD hdf
  obtain rfl:kV=.none:=Dflts.noKw hD
  obtain⟨a,vs,ns,rfl,rfl,hobj,hints,hlen⟩:=script_of hn hpre hwl
  refine enter_call (codeAny_mono (call w s₀ s₁ mg mb fa o pm cd doc a vs ns G Y ho (fd_plain hd) hcd hmg hobj hints hlen hg) fun r s' hq=>?_)
  obtain⟨rfl,h2,h3,h4⟩:=hq
  exact⟨.inl ⟨.bool true,.bool true,[],rfl,fun _=>rfl,.bool true,post_true l _,fun _=>⟨List.Pairwise.nil,fun _ hm=>(nomatch hm)⟩⟩,h2,h3,h4⟩
section
variable {prog:Program} {w:World} {A:Around} {E:Value→Shared→Prop} {s:Shared} {K:Frag}
def ledger (h:Heap) (L d:Addr):List (Addr×Obj):=(List.range h.objs.size).filterMap fun a=>if a=L∨a=d then none else (h.get? a).map fun o=>(a,o)
end
end Att
namespace L2
open PySem PySem.Spec PyProof.Rows
theorem vals_ints:∀{vs:List Value} {ns:List Int},IntsAre vs ns→Vals (ns.map V.int) vs
  | _,_,.nil=>.nil
  | _,_,.cons n t h=>.cons ⟨t,rfl⟩ (vals_ints h)
def Only (H:Hp):Prop:=∀b,H b=none∨∃o xs,H b=some (.frz o (.lst xs))
theorem law_call {P:Program} {w:World} {K:PySem.W.Frag} {mg mb:Str→Option Value} {CX:CXT} {k:Nat} {fa a:Addr} {fd:FuncData} {x:Str} {sp:Sp} {s₁:Shared} {vs:List Value} {ns:List Int}
    (KX:K.In s₁.heap) (hns:s₁.heap.Ns mainGlobals mg) (hb:s₁.heap.Ns builtinsNs mb) (hbb:∀x:Str,x≠ "__name__" →mb x=bootBuiltins x) (hlim:s₁.heap.NoLimit) (hg:s₁.gens=#[])
    (ha:s₁.heap.get? a=some { cls:=.type "list",data:=.seq vs.toArray }) (hi:IntsAre vs ns) (hl:ns.length≤sizeLine) (hr:Room k callerA)
    (F:∀base:Heap,K.In base→base.Ns mainGlobals mg→FnOk P w K mg base CX k fa fd [x] sp) (hbind:∀(s:Shared) (u:Value),BindsTo s fd ⟨[u],[]⟩ [(x,u)])
    (hsp:∀H:Hp,Only H→SqL K H a (ns.map V.int)→sp [.ref a] H (fun v _=>v=.bl true) fun _ _ _=>False)
    (hCX:∀H e s',CX [] H s₁ (fun _ _ _=>False) e s'→False) :
    codeAny (model P w) callerA (.call (.ref fa) ⟨[.ref a],[]⟩) (fun r s'=>r=.ok (.ret (.bool true))∧OldK s₁.heap s'.heap∧s'.os=s₁.os∧AllBare s'.gens) s₁:=by
  have rv:=vals_ints hi
  have lenV:=hi.length
  have core:∀H:Hp,Only H→SqL K H a (ns.map V.int)→HOk P w H s₁.heap→(∀b,H b≠none→b=a)→(H a≠none→K.lookup a=none)→
      codeAny (model P w) callerA (.call (.ref fa) ⟨[.ref a],[]⟩) (fun r s'=>r=.ok (.ret (.bool true))∧OldK s₁.heap s'.heap∧s'.os=s₁.os∧AllBare s'.gens) s₁:=by
    intro H hO hS hok hA hK
    have base_of:∀{b:Addr} {o:Obj},s₁.heap.get? b=some o→H b=none→(hidT s₁.heap H).get? b=some o:=fun e n=>hidT_get e n
    have noA:∀{b:Addr} {o:Obj} {es:Array DictEntry} {ep:Nat},s₁.heap.get? b=some o→o.data=.dict es ep→H b=none:=fun {b o es ep} e d=>by
      cases q:H b with
      | none=>rfl
      | some u=>
        have e':b=a:=hA b (by rw[q];simp)
        subst e'
        rw[ha] at e;cases e
        have d':Data.seq vs.toArray _=Data.dict es ep:=d
        cases d'
    have nsK:∀{b:Addr} {m:Str→Option Value},s₁.heap.Ns b m→(hidT s₁.heap H).Ns b m:=fun {b m} ⟨o,es,ep,e,d,r⟩=>⟨o,es,ep,base_of e (noA e d),d,r⟩
    have hKb:K.In (hidT s₁.heap H):=fun b o e=>base_of (KX b o e) (by
      cases q:H b with
      | none=>rfl
      | some u=>
        have e':b=a:=hA b (by rw[q];simp)
        subst e'
        rw[hK (by rw[q];simp)] at e;cases e)
    have hM:Mod K mg (hidT s₁.heap H):=⟨hKb,nsK hns,⟨mb,nsK hb,hbb⟩,let ⟨mc,h1,h2⟩:=hlim;⟨mc,nsK h1,h2⟩⟩
    have e0:Env0 P w K mg (hidT s₁.heap H) callerA [] s₁ H:=⟨rfl,hM,fun b o e=>of_hidT e,Nat.le_of_eq (hidT_size _ _),trivial,fun b hb=>absurd (show b∈([]:List Addr) from hb) (by simp),hok,.of_eq hg⟩
    refine codeAny_mono ((F _ hKb (nsK hns)).run callerA [] s₁ H ⟨[.ref a],[]⟩ [.ref a] [.ref a] _ _ hr e0 (hbind s₁ (.ref a)) (.cons rfl .nil) (hsp H hO hS)) fun r s' h=>?_
    cases r with
    | error e=>exact (hCX H e s' h).elim
    | ok fl=>
      cases fl with
      | next=>exact False.elim h
      | brk=>exact False.elim h
      | cont=>exact False.elim h
      | ret u=>
        obtain⟨v,H',os,bare,un,hok',r',q⟩:=h
        have q':v=.bl true:=q
        subst q'
        obtain rfl:u=Value.bool true:=r'
        refine⟨rfl,OldK.of_keep fun b o e=>?_,os,bare⟩
        cases q:H b with
        | none=>exact un.keep b o e q (by intro z;exact absurd (show b∈([]:List Addr) from z) (by simp)) (by simp)
        | some u=>
          rcases hO b with z | ⟨ob,xs,z⟩
          · rw[q] at z;cases z
          · have z2:=un.frzs b ob _ z
            obtain⟨e1,_⟩:=hok b _ z
            obtain⟨e2,_⟩:=hok' b _ z2
            rw[e] at e1;cases e1
            exact e2
  cases hk:K.lookup a with
  | some o=>
    have e:=KX a o hk
    rw[ha] at e
    cases e
    refine core (fun _=>none) (fun _=>.inl rfl) (.inr ⟨_,vs.toArray,_,hk,rfl,rfl,rfl,by rw[List.size_toArray,lenV];exact hl,by simpa using rv⟩) (fun b u z=>by have z':(none:Option HO)=some u:=z;cases z') (fun b z=>absurd rfl z) fun z=>absurd rfl z
  | none=>
    refine core (fun b=>if b=a then some (.frz { cls:=.type "list",data:=.seq vs.toArray } (.lst (ns.map V.int))) else none) (fun b=>?_) (.inl (.inr ⟨{ cls:=.type "list",data:=.seq vs.toArray },if_pos rfl⟩)) (fun b u z=>?_) (fun b z=>?_) fun _=>hk
    · by_cases hb:b=a
      · exact .inr ⟨_,_,if_pos hb⟩
      · exact .inl (if_neg hb)
    · by_cases hb:b=a
      · have z':=(if_pos hb).symm.trans z
        cases z'
        subst hb
        exact⟨ha,by rw[List.length_map];exact hl,vs,_,rv,ha⟩
      · have z':=(if_neg hb).symm.trans z
        cases z'
    · by_cases hb:b=a
      · exact hb
      · exact absurd (if_neg hb) z
theorem walk_of {l:PySem.W.OpenLaw} {n k:Nat} {q:Program} {loose:List Str} {XP:(Str→Option Value)→Heap→Prop} {YP:World→Heap→Prop} {d:DefRec} {K:Params→PySem.W.Frag} {CX:World→CXT} {sp:World→Sp} {x:Str}
    (hn:l.most=some n) (hn2:n≤sizeLine) (hdf:d.params.defaults=[]) (hr:Room k callerA)
    (hY:∀(w:World) (h:Heap),YP w h→(K w.params).In h)
    (F:∀(w:World) (mg:Str→Option Value) (fa:Addr) (h:Heap),(K w.params).In h→h.Ns mainGlobals mg→mg d.name=some (.ref fa)→
      ∃fd:FuncData,(∀(s:Shared) (u:Value),BindsTo s fd ⟨[u],[]⟩ [(x,u)])∧
        ∀base:Heap,(K w.params).In base→base.Ns mainGlobals mg→FnOk l.prog w (K w.params) mg base (CX w) k fa fd [x] (sp w))
    (hsp:∀(w:World) (H:Hp) (a:Addr) (ns:List Int),ns.length≤n→Only H→SqL (K w.params) H a (ns.map V.int)→sp w [.ref a] H (fun v _=>v=.bl true) fun _ _ _=>False)
    (hCX:∀(w:World) (H:Hp) (s:Shared) (e:Value) (s':Shared),CX w [] H s (fun _ _ _=>False) e s'→False) :
    PySem.W.WalkO q loose XP YP l.row.toRowW d [] (fun f vs=>PySem.call f vs):=by
  refine Att.attach_call hn hdf fun w s₀ s₁ mg mb fa o pm cd doc a vs ns G Y ho hd hcd hmg hobj hints hlen hg=>?_
  have KX:=hY w _ Y
  obtain⟨fd,hb,hF⟩:=F w mg fa _ KX G.T.g hmg
  exact law_call KX G.T.g G.T.b G.T.builtins G.T.nolimit hg hobj hints (Nat.le_trans hlen hn2) hr hF hb (fun H hO hS=>hsp w H a ns hlen hO hS) fun H e s'=>hCX w H s₁ e s'
def defArgs (s:Stmt):Arguments:=match s with
  | .FunctionDef _ a _ _ _ _ _ _ _ _=>a
  | _=>{ posonlyargs:=[],args:=[],vararg:=none,kwonlyargs:=[],kw_defaults:=[],kwarg:=none,defaults:=[] }
def defBody (s:Stmt):List Stmt:=match s with
  | .FunctionDef _ _ b _ _ _ _ _ _ _=>b
  | _=>[]
def defScope (s:Stmt):Scope:=match s with
  | .FunctionDef _ _ _ _ _ _ sc _ _ _=>sc
  | _=>{ kind:=.function,names:=[],isGenerator:=false,isCoroutine:=false }
abbrev CX0:CXT:=fun _ _ _ _ _ _=>False
abbrev E0:XK:=fun _ _ _=>False
theorem pass0 {X:Cx}:Passes CX0 X E0:=fun _ _ _ _ _ _ _ h=>h.elim
structure Fun (K:PySem.W.Frag) (x qual:Str) (st:Stmt) (f:Addr) (fd:FuncData):Prop where
  ex:∃(oc:Value) (od:Option Addr) (kV doc pm:Value) (an:Option Addr) (cdv ct:Value) (osl:Array (Option Value)),
    fd=PySem.W.fnOf x qual (defArgs st) (defBody st) (defScope st) .none kV doc pm an cdv ct∧K.lookup f=some ⟨oc,od,.func fd,osl⟩∧PySem.W.codeIn K cdv qual=true
  kp:PySem.W.keepIn K (.ref f)=true
section
variable {P:Program} {w:World} {K:PySem.W.Frag} {mg:Str→Option Value} {base:Heap}
theorem Fun.ok {x qual:Str} {st:Stmt} {f:Addr} {fd:FuncData} {N ps:List Str} {k:Nat} {sp:Sp} (F:Fun K x qual st f fd) (S:FnScope N ps (defScope st)) (len:∀vs H Q E,sp vs H Q E→vs.length=ps.length)
    (hbody:∀(cdv:Value) (A:Around) (outer:List Env) (s:Shared) (H:Hp) (vs:List V) (Q:VK) (E:XK),Room k (A.deeper (envOfC qual (defScope st) s.heap.objs.size f cdv))→sp vs H Q E→
      ∃t,PSs (cxOf CX0 P w K mg base N qual (defScope st) f cdv A outer s H E).nox (defBody st) t∧t { nx:=fun _ H'=>Q .non H',rt:=Q } (start N vs) H):FnOk P w K mg base CX0 (k + 1) f fd ps sp:=by
  obtain⟨oc,od,kV,doc,pm,an,cdv,ct,osl,rfl,lk,hcd⟩:=F.ex
  refine fn_of lk hcd S len fun A outer s H vs Q E hr hsp=>?_
  obtain⟨t,h,q⟩:=hbody cdv A outer s H vs Q E hr hsp
  exact⟨t,h.nox,q⟩
theorem Fun.binds {x qual:Str} {st:Stmt} {f:Addr} {fd:FuncData} {ps:List Str} (F:Fun K x qual st f fd)
    (h:∀(kV doc pm:Value) (an:Option Addr) (cdv ct:Value) (us:List Value),us.length=ps.length→bindArgs (PySem.W.fnOf x qual (defArgs st) (defBody st) (defScope st) .none kV doc pm an cdv ct) ⟨us,[]⟩=pure (ps.zip us)):Binds K fd ps []:=by
  obtain⟨oc,od,kV,doc,pm,an,cdv,ct,osl,rfl,lk,hcd⟩:=F.ex
  exact .all (h kV doc pm an cdv ct)
theorem fun_mk {x qual:Str} {st:Stmt} {f:Addr} {oc:Value} {od an:Option Addr} {osl:Array (Option Value)} {kV doc pm cdv ct:Value} (l:K.lookup f=some ⟨oc,od,.func (PySem.W.fnOf x qual (defArgs st) (defBody st) (defScope st) .none kV doc pm an cdv ct),osl⟩)
    (c:PySem.W.codeIn K cdv qual=true) (k:PySem.W.keepIn K (.ref f)=true):Fun K x qual st f (PySem.W.fnOf x qual (defArgs st) (defBody st) (defScope st) .none kV doc pm an cdv ct):=⟨⟨oc,od,kV,doc,pm,an,cdv,ct,osl,rfl,l,c⟩,k⟩
end
theorem small1000 {n:Nat} (h:n≤1000):n < sizeLine:=Nat.lt_of_le_of_lt h (by decide)
section
variable {X:Cx}
theorem pv (i:Nat) {x:Str} {pos:Pos} (hN:X.N[i]?=some x:=by rfl) (hv:Vis X.env.scope x:=by first | exact Or.inl rfl | exact Or.inr (Or.inl rfl) | exact Or.inr (Or.inr rfl)) (hd:(x == ("__debug__" : Str))=false:=by decide)
    (hcd:(x == ("__classdict__" : Str))=false:=by decide):PE X (.Name x pos) (tVar i):=pe_var hN hv hd hcd
end
theorem iteF {A B:Prop} (h:B):if false=true then A else B:=by
  rw[if_neg Bool.false_ne_true]
  exact h
theorem iteT {A B:Prop} (h:A):if true=true then A else B:=by
  rw[if_pos rfl]
  exact h
theorem ite2 {c A B:Prop} [Decidable c] (h1:c→A) (h2:¬ c→B):if c then A else B:=by
  by_cases h:c
  · rw[if_pos h]
    exact h1 h
  · rw[if_neg h]
    exact h2 h
def Same (H H':Hp):Prop:=∀b o,H b=some o→H' b=some o
theorem Same.refl (H:Hp):Same H H:=fun _ _ h=>h
end L2
set_option maxHeartbeats 4000000
namespace L2
open PySem PySem.Spec PyProof.Rows
def closOf (cells:List (Str×Addr)):List (Str×NameKind)→List (Str×Addr)→List (Str×Addr)
  | [],cs=>cs
  | (n,k)::r,cs=>closOf cells r (if k == .free then (n,(cells.lookup n).getD 0)::cs else cs)
theorem closureFor_eq {scope:Scope} {env:Env} (h:∀y∈scope.names,y.2=.free→∃c,env.cells.lookup y.1=some c):closureFor scope env=pure (closOf env.cells scope.names []):=by
  have key:∀(l:List (Str×NameKind)) (cs:List (Str×Addr)),(∀y∈l,y.2=.free→∃c,env.cells.lookup y.1=some c)→
      (forIn l cs fun (x:Str×NameKind) (r:List (Str×Addr))=>if (x.2 == NameKind.free)=true then do let a ←cellOf env x.1;pure (ForInStep.yield ((x.1,a)::r)) else pure (ForInStep.yield r):Sem (List (Str×Addr)))=pure (closOf env.cells l cs):=by
    intro l
    induction l with
    | nil=>intro cs _;rfl
    | cons y r ih=>
      intro cs hl
      obtain⟨n,k⟩:=y
      rw[List.forIn_cons]
      by_cases hk:k=.free
      · subst hk
        obtain⟨c,hc⟩:=hl (n,.free) List.mem_cons_self rfl
        have hc':env.cells.lookup n=some c:=hc
        have e1:cellOf env n=pure c:=by unfold cellOf;rw[hc']
        simp only[beq_self_eq_true,if_true,e1,pure_bind]
        rw[ih _ fun z hz=>hl z (List.mem_cons_of_mem _ hz)]
        show _=pure (closOf env.cells r (if (NameKind.free == NameKind.free)=true then (n,(env.cells.lookup n).getD 0)::cs else cs))
        rw[hc']
        rfl
      · have hb:(k == NameKind.free)=false:=by simpa using hk
        simp only[hb,Bool.false_eq_true,if_false,pure_bind]
        rw[ih _ fun z hz=>hl z (List.mem_cons_of_mem _ hz)]
        show _=pure (closOf env.cells r (if (k == NameKind.free)=true then (n,(env.cells.lookup n).getD 0)::cs else cs))
        rw[hb]
        rfl
  have k2:=key scope.names [] h
  have e:closureFor scope env=((forIn scope.names [] fun (x:Str×NameKind) (r:List (Str×Addr))=>if (x.2 == NameKind.free)=true then do let a ←cellOf env x.1;pure (ForInStep.yield ((x.1,a)::r)) else pure (ForInStep.yield r):Sem (List (Str×Addr))) >>= fun cs=>pure cs):=rfl
  rw[e,k2]
  rfl
theorem closOf_sub {cells:List (Str×Addr)}:∀{l:List (Str×NameKind)} {cs:List (Str×Addr)},(∀y∈l,y.2=.free→∃c,cells.lookup y.1=some c)→(∀x c,cs.lookup x=some c→cells.lookup x=some c)→
    ∀x c,(closOf cells l cs).lookup x=some c→cells.lookup x=some c
  | [],_,_,h,x,c,e=>h x c e
  | (n,k)::r,cs,hl,h,x,c,e=>by
    unfold closOf at e
    refine closOf_sub (l:=r) (fun z hz=>hl z (List.mem_cons_of_mem _ hz)) (fun y d q=>?_) x c e
    split at q
    · rename_i hk
      obtain⟨c0,hc0⟩:=hl (n,k) List.mem_cons_self (by simpa using hk)
      have hc0':cells.lookup n=some c0:=hc0
      rw[hc0'] at q
      rw[List.lookup_cons] at q
      split at q
      · rename_i hb
        have:=eq_of_beq hb
        subst this
        rw[hc0']
        exact q
      · exact h y d q
    · exact h y d q
theorem closOf_keeps {cells:List (Str×Addr)} {x:Str}:∀{l:List (Str×NameKind)} {cs:List (Str×Addr)},(∃c,cs.lookup x=some c)→∃c,(closOf cells l cs).lookup x=some c
  | [],_,h=>h
  | (n,k)::r,cs,h=>by
    unfold closOf
    refine closOf_keeps (l:=r) ?_
    split
    · rw[List.lookup_cons]
      split
      · exact⟨_,rfl⟩
      · exact h
    · exact h
theorem closOf_has {cells:List (Str×Addr)} {x:Str}:∀{l:List (Str×NameKind)} {cs:List (Str×Addr)},(x,NameKind.free)∈l→∃c,(closOf cells l cs).lookup x=some c
  | (n,k)::r,cs,h=>by
    unfold closOf
    rcases List.mem_cons.mp h with e | h
    · injection e with e1 e2
      subst e1 e2
      refine closOf_keeps (l:=r) ?_
      simp only[beq_self_eq_true,if_true]
      rw[List.lookup_cons]
      simp
    · exact closOf_has (l:=r) h
structure CA where
  s:Shared
  H:Hp
  C:Addr
  fp:List Addr
abbrev cxComp (X:Cx) (scope:Scope) (N':List Str) (a:CA):Cx where
  prog:=X.prog
  w:=X.w
  K:=X.K
  mg:=X.mg
  base:=X.base
  A:=X.A
  N:=N'
  s₀:=a.s
  H₀:=a.H
  env:=compEnvC scope (closOf X.env.cells scope.names []) a.C X.env
  outer:=X.stack
  stack:=X.stack
  ex:=a.fp
  fn:=fun _=>false
  calm:=X.calm
  pn:=[]
  xe:=fun _ _=>False
structure CompSc (N N':List Str) (osc scope:Scope) (j:Nat) (x:Str):Prop where
  nd:N'.Nodup
  at_:N'[j]?=some x
  sub:∀(i:Nat) y,i≠j→N'[i]?=some y→N[i]?=some y
  len:N'.length≤N.length + 1
  kind:scope.kind=.function
  cell:∀y∈scope.names,y.2≠.cell
  names:∀y∈scope.names,y.2=.local→scope.names.lookup y.1=some .local
  only:∀y∈scope.names,y.2=.local→y.1=x∨y.1∉N'
  loc:scope.names.lookup x=some .local
  okind:osc.kind=.function
  free:∀y∈scope.names,y.2=.free→osc.names.lookup y.1=some .cell
def compOk (N:List Str) (osc scope:Scope) (x:Str):Bool:=
  decide (N++[x]).Nodup&&decide (scope.kind=.function)&&decide (osc.kind=.function)&&(scope.names.lookup x == some .local)&&
    scope.names.all fun y=>match y.2 with
      | .cell=>false
      | .local=>scope.names.lookup y.1 == some .local&&(y.1 == x||!((N++[x]).contains y.1))
      | .free=>osc.names.lookup y.1 == some .cell
      | _=>true
theorem CompSc.new {N:List Str} {osc scope:Scope} {x:Str} (h:compOk N osc scope x=true):CompSc N (N++[x]) osc scope N.length x:=by
  unfold compOk at h
  simp only[Bool.and_eq_true,decide_eq_true_eq,List.all_eq_true,beq_iff_eq] at h
  obtain⟨⟨⟨⟨h1,h2⟩,h3⟩,h4⟩,h5⟩:=h
  refine⟨h1,by simp,fun i y ne e=>?_,by simp,h2,fun y hy e=>?_,fun y hy e=>?_,fun y hy e=>?_,h4,h3,fun y hy e=>?_⟩
  · by_cases hi:i < N.length
    · rw[List.getElem?_append_left hi] at e;exact e
    · rw[List.getElem?_append_right (by lia)] at e
      cases q:i - N.length with
      | zero=>exact absurd (by lia) ne
      | succ k=>rw[q] at e;simp at e
  · have:=h5 y hy;rw[e] at this;cases this
  · have:=h5 y hy
    rw[e] at this
    simp only[Bool.and_eq_true,beq_iff_eq] at this
    exact this.1
  · have:=h5 y hy
    rw[e] at this
    simp only[Bool.and_eq_true,Bool.or_eq_true,beq_iff_eq,Bool.not_eq_true',List.contains_eq_mem,decide_eq_false_iff_not] at this
    exact this.2
  · have:=h5 y hy
    rw[e] at this
    simp only[beq_iff_eq] at this
    exact this
def padS (n j:Nat) (σ:St):St:=((σ++[none]).take n).set j none
theorem padS_get {n j i:Nat} {σ:St} {v:V} (h:(padS n j σ)[i]?=some (some v)):i≠j∧σ[i]?=some (some v):=by
  unfold padS at h
  by_cases e:i=j
  · subst e
    rw[List.getElem?_set] at h
    simp only[if_true] at h
    split at h <;> cases h
  · refine⟨e,?_⟩
    rw[List.getElem?_set_ne (Ne.symm e)] at h
    have h2:(σ++[none])[i]?=some (some v):=by
      by_cases hi:i < n
      · rw[List.getElem?_take_of_lt hi] at h;exact h
      · rw[List.getElem?_eq_none (by rw[List.length_take];lia)] at h;cases h
    by_cases hi:i < σ.length
    · rw[List.getElem?_append_left hi] at h2;exact h2
    · rw[List.getElem?_append_right (by lia)] at h2
      cases q:i - σ.length with
      | zero=>rw[q] at h2;cases h2
      | succ k=>rw[q] at h2;cases h2
theorem padS_len {n j:Nat} {σ:St} (h:n≤σ.length + 1):(padS n j σ).length=n:=by
  unfold padS
  rw[List.length_set,List.length_take,List.length_append]
  simp;lia
theorem lookup_relabel_free {env:Env}:∀{names:List (Str×NameKind)} {x:Str},((names.map fun (n,k)=>if (k == NameKind.free&&env.scope.kind == .function&&env.kindOf n == some .cell) then (n,NameKind.cell) else (n,k)).lookup x=some .cell∨
    (names.map fun (n,k)=>if (k == NameKind.free&&env.scope.kind == .function&&env.kindOf n == some .cell) then (n,NameKind.cell) else (n,k)).lookup x=some .free)→(∀y∈names,y.2≠.cell)→(x,NameKind.free)∈names
  | [],_,h,_=>by rcases h with h | h <;> cases h
  | (n,k)::r,x,h,hc=>by
    rw[List.map_cons] at h
    dsimp only at h
    by_cases hk:(k == NameKind.free&&env.scope.kind == .function&&env.kindOf n == some .cell)=true
    · rw[if_pos hk] at h
      simp only[List.lookup_cons] at h
      cases hx:x == n with
      | true=>
        have e:=eq_of_beq hx
        subst e
        have k':k=.free:=by
          rw[Bool.and_eq_true,Bool.and_eq_true] at hk
          simpa using hk.1.1
        subst k'
        exact List.mem_cons_self
      | false=>
        simp only[hx] at h
        exact List.mem_cons_of_mem _ (lookup_relabel_free h fun y hy=>hc y (List.mem_cons_of_mem _ hy))
    · rw[if_neg hk] at h
      simp only[List.lookup_cons] at h
      cases hx:x == n with
      | true=>
        have e:=eq_of_beq hx
        subst e
        simp only[hx] at h
        rcases h with h | h
        · exact absurd (Option.some.inj h) (hc (x,k) List.mem_cons_self)
        · have:=Option.some.inj h
          subst this
          exact List.mem_cons_self
      | false=>
        simp only[hx] at h
        exact List.mem_cons_of_mem _ (lookup_relabel_free h fun y hy=>hc y (List.mem_cons_of_mem _ hy))
theorem lookup_relabel_loc {env:Env}:∀{names:List (Str×NameKind)} {x:Str},(names.map fun (n,k)=>if (k == NameKind.free&&env.scope.kind == .function&&env.kindOf n == some .cell) then (n,NameKind.cell) else (n,k)).lookup x=some .local→(x,NameKind.local)∈names
  | [],_,h=>by cases h
  | (n,k)::r,x,h=>by
    rw[List.map_cons] at h
    dsimp only at h
    by_cases hk:(k == NameKind.free&&env.scope.kind == .function&&env.kindOf n == some .cell)=true
    · rw[if_pos hk] at h
      simp only[List.lookup_cons] at h
      cases hx:x == n with
      | true=>simp only[hx] at h;cases h
      | false=>
        simp only[hx] at h
        exact List.mem_cons_of_mem _ (lookup_relabel_loc h)
    · rw[if_neg hk] at h
      simp only[List.lookup_cons] at h
      cases hx:x == n with
      | true=>
        have e:=eq_of_beq hx
        subst e
        simp only[hx] at h
        have:=Option.some.inj h
        subst this
        exact List.mem_cons_self
      | false=>
        simp only[hx] at h
        exact List.mem_cons_of_mem _ (lookup_relabel_loc h)
section
variable {X:Cx} {pins:List (Addr×Obj)} {σ:St} {H:Hp} {s:Shared}
structure Own (X:Cx) (pins:List (Addr×Obj)) (H:Hp) (C:Addr):Prop where
  no:H C=none
  ne:C≠X.env.locals
  ab:X.s₀.heap.objs.size≤C
  ce:∀x c,X.env.cells.lookup x=some c→c≠C
  pi:∀p∈X.pn++pins,p.1≠C
theorem Inv.own {C:Addr} {H':Hp} (I:Inv X pins σ H s) (h:s.heap.objs.size≤C) (hn:H' C=none):Own X pins H' C:=by
  refine⟨hn,Nat.ne_of_gt (Nat.lt_of_lt_of_le I.lt h),Nat.le_trans I.sz h,fun x c e z=>?_,fun p hp z=>?_⟩
  · obtain⟨v,q⟩:=I.cell x c e
    exact absurd (Nat.lt_of_lt_of_le q.lt (by rw[z];exact h)) (Nat.lt_irrefl _)
  · exact absurd (Nat.lt_of_lt_of_le (Heap.lt_size (I.pin p hp).1) (by rw[z];exact h)) (Nat.lt_irrefl _)
theorem Inv.own_turn {C:Addr} {h':Heap} (I:Inv X pins σ H s) (o:Own X pins H C) (hs:Heap.SameBut C s.heap h'):Inv X pins σ H { s with heap:=h' }:=
  I.turned (t':=s.toks) (fun b ob hb e=>(hs.2 b hb).trans e) o.no o.ne (.inr o.ab) o.ce o.pi
theorem Inv.track {D:Addr} {ys:List V} {its:List Value} {n:Nat} (I:Inv X pins σ H s) (o:Own X pins H D) (e:s.heap.get? D=some { cls:=.type "list",data:=.seq its.toArray n }) (r:Vals ys its) (hz:ys.length≤sizeLine) :
    Inv X pins σ (upd H D (.lst ys)) s:=by
  have nD:∀b u,H b=some u→b≠D:=fun b u q z=>by rw[z,o.no] at q;cases q
  have hok:HOk X.prog X.w (upd H D (.lst ys)) s.heap:=fun b u q=>by
    by_cases hb:b=D
    · subst hb
      rw[upd_same] at q
      cases q
      exact⟨hz,its,n,r,e⟩
    · rw[upd_ne hb] at q
      exact (I.hok b u q).stay (fun _ _ _ z=>z) (fun c z=>by rw[upd_ne (nD c _ z)];exact z) fun c xs z=>by rw[upd_ne (nD c _ z)];exact z
  have:=I.step (H':=upd H D (.lst ys)) (h':=s.heap) (g':=s.gens) (t':=s.toks) (d':=s.drawn) (ch:=[D]) (fun b hb=>by
      have e':b=D:=by simpa using hb
      subst e'
      exact⟨.inr o.ab,o.ne,o.ce,o.pi⟩) (fun b ob _ _ _ q _=>q) (fun b ob _ _ _ q _=>⟨ob.slots,q⟩) (fun b ob hc q z=>by rw[upd_ne (by simpa using hc)];exact z) (fun b ob _ q=>⟨ob,q⟩)
    (fun b xs q=>by rw[upd_ne (nD b _ q)];exact q) (fun b ob u q=>by rw[upd_ne (nD b _ q)];exact q) (fun b ps q=>⟨#[],by rw[upd_ne (nD b _ q),q];simp⟩) (fun m z=>z) hok I.bare
  exact this
end
section
variable {prog:Program} {w:World} {A:Around} {R:Result→Shared→Prop} {s:Shared}
theorem compLoop_go {elt target iter:Expr} {ifs:List Expr} {scope:Scope} {pos:Pos} {it acc:Value} {env:Env} (I:Nat→Shared→Prop)
    (turn:∀n s,I n s→∀E:Value→Shared→Prop,wpAny (model prog w) A (pyNext it) (fun r s₁=>match r with
      | none=>R (.ok .next) s₁
      | some v=>wpAny (model prog w) A (letOwnedTupleGo target it v) (fun _ s₁'=>wpAny (model prog w) A (assign target env v) (fun _ s₂=>
          wpAny (model prog w) A (forIn ifs true fun c r=>if r=true then do let ok ←isTrue c env (eval c env);pure (ForInStep.yield ok) else pure (ForInStep.yield r)) (fun ok s₃=>
            if ok=true then wpAny (model prog w) A (eval elt env) (fun x s₄=>
              wpAny (model prog w) A (call (.builtin "list.append") [acc,x]) (fun _ s₅=>∃m,m < n∧I m s₅) E s₄) E s₃
            else ∃m,m < n∧I m s₃) E s₂) E s₁') E s₁) E s)
    (n:Nat) (h:I n s) :
    codeAny (model prog w) A (.compLoop (.ListComp elt [⟨target,iter,ifs,0⟩] scope pos) 0 it acc env) R s:=by
  refine codeAny_loop rfl I (fun n s hI=>?_) n h
  show wpAny _ A ((compTurn (.ListComp elt [⟨target,iter,ifs,0⟩] scope pos) 0 it acc env).onRaise (fun x=>do noteFrame x env;theTreesLotGoes x)) _ _ s
  refine wpAny_noted ?_
  rw[compTurn_list]
  refine wpAny_bind (wpAny_standAt (wpAny_bind (wpAny_mono (turn n s hI _) (fun r s₁ h₁=>?_) fun _ _ h'=>h')))
  cases r with
  | none=>exact wpAny_pure h₁
  | some v=>
    refine wpAny_bind (wpAny_mono h₁ (fun _ s₁' h₁'=>?_) fun _ _ h'=>h')
    refine wpAny_bind (wpAny_mono h₁' (fun _ s₂ h₂=>wpAny_bind (wpAny_mono h₂ (fun ok s₃ h₃=>?_) fun _ _ h'=>h')) fun _ _ h'=>h')
    cases ok with
    | false=>exact wpAny_pure ⟨rfl,h₃⟩
    | true=>
      exact wpAny_bind (wpAny_bind (wpAny_mono h₃ (fun x s₄ h₄=>wpAny_bind (wpAny_mono h₄ (fun _ s₅ h₅=>wpAny_pure (wpAny_pure ⟨rfl,h₅⟩)) fun _ _ h'=>h')) fun _ _ h'=>h'))
end
def PTs (X:Cx) (ifs:List Expr) (t:TT):Prop:=
  ∀(pins:List (Addr×Obj)) (s:Shared) (σ:St) (H:Hp) (Q:Bool→Hp→Prop),Inv X pins σ H s→t σ H Q→
    wpAny (model X.prog X.w) X.A (forIn ifs true fun c r=>if r=true then do let ok ←isTrue c X.env (eval c X.env);pure (ForInStep.yield ok) else pure (ForInStep.yield r)) (TP X pins σ Q) X.xe s
def tTrue:TT:=fun _ H Q=>Q true H
theorem pts_nil {X:Cx}:PTs X [] tTrue:=fun _ _ _ H _ I h=>wpAny_tests_nil ⟨H,I,h⟩
theorem pts_one {X:Cx} {c:Expr} {t:TT} (h:PT X c t):PTs X [c] t:=fun pins s σ H Q I q=>wpAny_tests_one (h pins s σ H Q I q)
def RComp (σ:St) (n j:Nat) (tt:CA→TT) (te:CA→TE) (J:It) (H1:Hp) (Q:List V→Hp→Prop):Prop:=
  ∃W:Nat→Nat→List V→Hp→Prop,(∃m,W 0 m [] H1)∧∀i m ys H,W i m ys H→ys.length≤sizeLine∧
    ((J.stop i H∧Q ys H)∨(J.go i H∧∃N:List V→Hp→Prop,(∀ys' H',N ys' H'→∃m',m' < m∧W (i + 1) m' ys' H')∧
      ∀x H',J.yld i H x H'→∀a:CA,tt a ((padS n j σ).set j (some x)) H' fun b H2=>if b=true then te a ((padS n j σ).set j (some x)) H2 fun y H3=>N (ys++[y]) H3 else N ys H2))
def tComp (wi:TI) (n j:Nat) (tt:CA→TT) (te:CA→TE):TE:=fun σ H Q=>wi σ H fun J H1=>RComp σ n j tt te J H1 fun ys H2=>∀p,H2 p=none→Q (.ref p) (upd H2 p (.lst ys))
section
variable {X:Cx} {pins:List (Addr×Obj)} {σ:St} {H:Hp} {s:Shared}
theorem comp_core {elt iter:Expr} {x:Str} {px pos:Pos} {ifs:List Expr} {scope:Scope} {N':List Str} {j:Nat} {tt:CA→TT} {te:CA→TE} {it:Addr} {fp:List Addr} {tn:Nat→Heap→Prop} {J:It} {Q:List V→Hp→Prop}
    {RR:Value→Addr→Result→Shared→Prop} {E:Value→Shared→Prop}
    (S:CompSc X.N N' X.env.scope scope j x) (hc:X.calm=true)
    (ht:∀a:CA,PTs (cxComp X scope N' a) ifs (tt a)) (he:∀a:CA,PE (cxComp X scope N' a) elt (te a))
    (I:Inv X pins σ H s) (T:Turn X.prog X.w X.K (.Name x px) J fp it tn) (st:tn 0 s.heap) (f2:∀b∈fp,FpOk X pins H b) (h:RComp σ N'.length j tt te J H Q)
    (hRR:∀(D C:Addr) (ys:List V) (H':Hp) (s':Shared) (m:Str→Option Value),s'.heap.Ns C m→Own X pins (upd H' D (.lst ys)) C→Inv X pins σ (upd H' D (.lst ys)) s'→H' D=none→Q ys H'→RR (.ref D) C (.ok .next) s') :
    wpAny (model X.prog X.w) X.A (newList []) (fun acc s₃=>wpAny (model X.prog X.w) X.A (newFunctionEnv scope X.env.globals (closOf X.env.cells scope.names []) [] X.env.qual none .none (some X.env)) (fun cenv s₄=>
      codeAny (model X.prog X.w) X.A (.compStart (.ListComp elt [⟨.Name x px,iter,ifs,0⟩] scope pos) 0 (.ref it) acc { cenv with scope:=relabel scope X.env }) (RR acc cenv.locals) s₄) E s₃) E s:=by
  refine wpAny_newObj_type (wpAny_newFunctionEnv S.cell (by intro y hy;simp at hy) (fun h₁ hns₁ hsb₁=>?_) S.kind)
  dsimp only at hns₁ hsb₁ ⊢
  generalize hH2:s.heap.push { cls:=.type "list",dict:=none,data:=.seq ([]:List Value).toArray }=H2 at hns₁ hsb₁ ⊢
  have hC:H2.objs.size=s.heap.objs.size + 1:=by rw[←hH2,Heap.size_push]
  have hDC:s.heap.objs.size≠H2.objs.size:=by rw[hC];exact Nat.ne_of_lt (Nat.lt_succ_self _)
  have hCle:s.heap.objs.size≤H2.objs.size:=by rw[hC];exact Nat.le_succ _
  have below:∀b,b < s.heap.objs.size→b≠H2.objs.size∧b≠s.heap.objs.size:=fun b hb=>⟨by rw[hC];exact Nat.ne_of_lt (Nat.lt_succ_of_lt hb),Nat.ne_of_lt hb⟩
  have old:∀b o,s.heap.get? b=some o→h₁.get? b=some o:=fun b o e=>hsb₁.extBut b o (below b (Heap.lt_size e)).1 (Heap.get?_push_of_some _ (hH2▸Heap.get?_push_of_some _ e))
  have hacc:h₁.get? s.heap.objs.size=some { cls:=.type "list",data:=.seq ([]:List Value).toArray }:=hsb₁.extBut _ _ hDC (Heap.get?_push_of_some _ (hH2▸Heap.get?_push_size _ rfl))
  have fplt:∀b∈fp,b < s.heap.objs.size:=fun b hb=>let ⟨_,e,_⟩:=T.obj 0 _ st b hb;Heap.lt_size e
  have hcells:∀y∈scope.names,y.2=.free→∃c,X.env.cells.lookup y.1=some c:=fun y hy e=>I.ok.has y.1 (.inl (S.free y hy e))
  have sub:∀y c,(closOf X.env.cells scope.names []).lookup y=some c→X.env.cells.lookup y=some c:=closOf_sub hcells (fun y c e=>by cases e)
  let a:CA:=⟨s,H,H2.objs.size,fp⟩
  have ok:(cxComp X scope N' a).Ok:=by
    refine⟨I.ok.mod,S.kind,I.ok.glob,I.ok.blt,hCle,fun y z c e1 e2=>I.ok.inj y z c (sub y c e1) (sub z c e2),fun y hy=>?_,fun y c z=>?_,I.ok.hd,I.ok.frames,.inl rfl,fun b hb=>⟨(below b (fplt b hb)).1,fun y c e=>(f2 b hb).2.2.2.2.1 y c (sub y c e)⟩,I.bs,
      Nat.le_trans I.ok.bsz I.sz,fun b o e hb=>?_,fun b hb z=>?_,I.stack,I.stkFree⟩
    · exact closOf_has (lookup_relabel_free hy S.cell)
    · cases z
    · rcases (f2 b hb).2.2.2.1 with z | z
      · exact I.ok.noex b o e z
      · exact absurd (Nat.lt_of_lt_of_le (Heap.lt_size (I.ok.bs b o e).1) z) (Nat.lt_irrefl _)
    · rcases List.mem_cons.mp (I.stkSub b z) with e | e
      · exact (f2 b hb).2.1 e
      · exact (f2 b hb).2.2.1 e
  have look:∀(h':Heap) (m':Str→Option Value),(∀y c,X.env.cells.lookup y=some c→∀v,s.heap.IsCell c v→h'.IsCell c v)→∀(i:Nat) (y:Str) (v:V),N'[i]?=some y→(padS N'.length j σ)[i]?=some (some v)→
      Vis (relabel scope X.env) y→∃u,RelV v u∧Look (compEnvC scope (closOf X.env.cells scope.names []) H2.objs.size X.env) h' m' y u:=by
    intro h' m' kc i y v e1 e2 e3
    obtain⟨ne,e4⟩:=padS_get e2
    have e5:=S.sub i y ne e1
    have hy:(y,NameKind.free)∈scope.names:=by
      rcases e3 with e3 | e3 | e3
      · rcases S.only _ (lookup_relabel_loc e3) rfl with z | z
        · exact absurd (nodup_ix S.nd e1 (by rw[S.at_];exact congrArg some z.symm)) ne
        · exact absurd (List.mem_of_getElem? e1) z
      · exact lookup_relabel_free (.inl e3) S.cell
      · exact lookup_relabel_free (.inr e3) S.cell
    have kcell:X.env.scope.names.lookup y=some .cell:=S.free _ hy rfl
    obtain⟨m0,hn0,hl0⟩:=I.loc
    obtain⟨u,r,l⟩:=hl0 i y v e5 e4 (.inr (.inl kcell))
    refine⟨u,r,.inr ⟨?_,?_⟩⟩
    · rcases e3 with e3 | e3 | e3
      · rcases S.only _ (lookup_relabel_loc e3) rfl with z | z
        · exact absurd (nodup_ix S.nd e1 (by rw[S.at_];exact congrArg some z.symm)) ne
        · exact absurd (List.mem_of_getElem? e1) z
      · exact .inl e3
      · exact .inr e3
    · rcases l with ⟨k,_⟩ | ⟨k,c,e,z⟩
      · have k':X.env.scope.names.lookup y=some .local:=k
        rw[kcell] at k';cases k'
      · obtain⟨c',e'⟩:=closOf_has (cells:=X.env.cells) (cs:=[]) hy
        have e'':=sub y c' e'
        rw[e] at e''
        cases e''
        exact⟨c,e',kc y c e _ z⟩
  have cellOld:∀y c,X.env.cells.lookup y=some c→∀v,s.heap.IsCell c v→h₁.IsCell c v:=fun y c _ v zz232=>el2 zz232 fun o ho hd=>⟨o,old c o ho,hd⟩
  have fr0:∀b,s.heap.objs.size≤b→H b=none:=fun b hb=>I.hok.fresh hb
  have noPn:∀p,p∉(cxComp X scope N' a).pn++([]:List (Addr×Obj)):=fun p hp=>by simp at hp
  have I0:Inv (cxComp X scope N' a) [] (padS N'.length j σ) H { s with heap:=h₁,toks:=s.toks + ([]:List (Str×Value)).length }:=by
    refine⟨ok,rfl,I.bare,Un.kept old,⟨_,hns₁,look h₁ _ cellOld⟩,fun y c e=>?_,fr0 _ hCle,fun y c e=>I.freeC y c (sub y c e),fun p hp=>absurd hp (noPn p),I.hok.kept old,padS_len (by rw[I.len];exact S.len)⟩
    obtain⟨v,z⟩:=I.cell y c (sub y c e)
    exact⟨v,cellOld y c (sub y c e) v z⟩
  obtain⟨W,⟨m0,w0⟩,turn⟩:=h
  have loop:∀s₃:Shared,s₃={ s with heap:=h₁,toks:=s.toks + ([]:List (Str×Value)).length }→
      codeAny (model X.prog X.w) X.A (.compLoop (.ListComp elt [⟨.Name x px,iter,ifs,0⟩] scope pos) 0 (.ref it) (.ref s.heap.objs.size) (compEnvC scope (closOf X.env.cells scope.names []) H2.objs.size X.env)) (RR (.ref s.heap.objs.size) H2.objs.size) s₃:=by
    rintro s₃ rfl
    refine compLoop_go (fun k s'=>∃(i:Nat) (ys:List V) (its:List Value) (n:Nat) (H':Hp),Inv (cxComp X scope N' a) [] (padS N'.length j σ) H' s'∧s'.heap.get? s.heap.objs.size=some { cls:=.type "list",data:=.seq its.toArray n }∧Vals ys its∧
      H' s.heap.objs.size=none∧tn i s'.heap∧(∀b∈fp,H' b=none)∧W i k ys H') ?_ m0
      ⟨0,[],[],0,H,I0,hacc,.nil,fr0 _ (Nat.le_refl _),T.keep _ _ _ st fun b hb o e=>old b o e,fun b hb=>(f2 b hb).1,w0⟩
    rintro k s' ⟨i,ys,its,n,H',I',hD,rv,nD',st',fr',w'⟩ E'
    obtain⟨hz,hw⟩:=turn i k ys H' w'
    have ownD:Own (cxComp X scope N' a) [] H' s.heap.objs.size:=⟨nD',hDC,Nat.le_refl _,fun y c e z=>by
      obtain⟨v,q⟩:=I.cell y c (sub y c e)
      exact absurd q.lt (by rw[z];exact Nat.lt_irrefl _),fun p hp=>absurd hp (noPn p)⟩
    have fpok:∀(pl:List (Addr×Obj)) (H'':Hp),(∀b∈fp,H'' b=none)→(∀p∈pl,p.1∉fp)→∀b∈fp,FpOk (cxComp X scope N' a) pl H'' b:=fun pl H'' hn hpl b hb=>
      ⟨hn b hb,(below b (fplt b hb)).1,fun z=>by
        rcases List.mem_cons.mp (I.stkSub b z) with e | e
        · exact (f2 b hb).2.1 e
        · exact (f2 b hb).2.2.1 e,.inl hb,fun y c e=>(f2 b hb).2.2.2.2.1 y c (sub y c e),fun p hp z=>by
        have hp':p∈pl:=by simpa using hp
        exact hpl p hp' (z▸hb)⟩
    have nDfp:s.heap.objs.size∉fp:=fun z=>absurd (fplt _ z) (Nat.lt_irrefl _)
    have pinD:∀p∈([(s.heap.objs.size,{ cls:=.type "list",data:=.seq its.toArray n })]:List (Addr×Obj)),s'.heap.get? p.1=some p.2∧H' p.1=none∧p.1≠(cxComp X scope N' a).env.locals∧p.1∉(cxComp X scope N' a).fs∧∀v,p.2.data≠.cell v:=fun p hp=>by
      have e:p=(s.heap.objs.size,{ cls:=.type "list",data:=.seq its.toArray n }):=by simpa using hp
      subst e
      refine⟨hD,nD',hDC,fun z=>?_,fun v z=>by cases z⟩
      rcases List.mem_cons.mp (I.stkSub _ z) with e | e
      · exact absurd I.lt (by rw[←e];exact Nat.lt_irrefl _)
      · exact I.nofs (Nat.le_refl _) e
    have Ip:=I'.pins_of pinD
    have hpl:∀p∈([(s.heap.objs.size,{ cls:=.type "list",data:=.seq its.toArray n })]:List (Addr×Obj)),p.1∉fp:=fun p hp=>by
      have e:p=(s.heap.objs.size,{ cls:=.type "list",data:=.seq its.toArray n }):=by simpa using hp
      subst e
      exact nDfp
    rcases hw with ⟨stop,q⟩ | ⟨go,N,hN,step⟩
    · refine thn (T.done (cxComp X scope N' a) rfl rfl rfl hc i _ s' _ H' E' Ip (fpok _ H' fr' hpl) st' stop) fun r s4 zz233=>zz233.elim fun hr I4=>?_
      subst hr
      have hD4:=(I4.pin (s.heap.objs.size,{ cls:=.type "list",data:=.seq its.toArray n }) (by simp)).1
      have J4:Inv X pins σ H' s4:=I.call' (ch:=fp) I4.os I4.base I4.hok I4.bare fun b hb=>⟨(f2 b hb).2.2.2.1,(f2 b hb).2.1,(f2 b hb).2.2.2.2.1,(f2 b hb).2.2.2.2.2⟩
      obtain⟨m4,hn4,_⟩:=I4.loc
      have hC4:H' H2.objs.size=none:=I4.free
      exact hRR _ _ ys H' s4 m4 hn4 (I.own hCle (by rw[upd_ne (Ne.symm hDC)];exact hC4)) (J4.track (I.own (Nat.le_refl _) nD') hD4 rv hz) nD' q
    · refine thn (T.item (cxComp X scope N' a) rfl rfl rfl hc i _ s' _ H' E' Ip (fpok _ H' fr' hpl) st' go) fun r s5 zz234=>el2 zz234 fun u hr h5=>?_
      subst hr
      refine thn h5 fun _ s6 zz235=>zz235.elim fun xv zz236=>zz236.elim fun H6 zz237=>zz237.elim fun I6 zz238=>zz238.elim fun r6 zz239=>zz239.elim fun y6 zz240=>zz240.elim fun st6 fr6=>?_
      have I6':=I6.pinned (fpok _ H6 fr6 hpl) (T.obj _ _ st6)
      refine wpAny_assign_Name (store_ok I6' S.nd S.at_ (.inl (lookup_relabel_local S.loc)) r6 (fun s7 I7=>?_) (.inr (lookup_relabel_local S.loc)))
      have wk:∀(i:Nat) v,(padS N'.length j σ)[i]?=some (some v)→((padS N'.length j σ).set j (some xv))[i]?=some (some v):=fun i v e=>by
        rw[List.getElem?_set_ne (Ne.symm (padS_get e).1)];exact e
      refine wpAny_mono (ht a _ s7 _ H6 _ I7 (step xv H6 y6 a)) (fun ok s8 zz241=>el2 zz241 fun H8 I8 q8=>?_) fun _ _ z=>z.elim
      have tnk:∀{H9:Hp} {s9:Shared} {σ9:St},Inv (cxComp X scope N' a) ([(s.heap.objs.size,{ cls:=.type "list",data:=.seq its.toArray n })]++pinsAt fp s6.heap) σ9 H9 s9→tn (i + 1) s9.heap∧(∀b∈fp,H9 b=none)∧s9.heap.get? s.heap.objs.size=some { cls:=.type "list",data:=.seq its.toArray n }∧H9 s.heap.objs.size=none:=fun {H9 s9 σ9} I9=>by
        refine⟨T.keep _ _ _ st6 fun b hb o e=>(I9.pin (b,o) (List.mem_append_right _ (List.mem_append_right _ (mem_pinsAt hb e)))).1,fun b hb=>?_,?_⟩
        · obtain⟨o,e,d⟩:=T.obj _ _ st6 b hb
          exact (I9.pin (b,o) (List.mem_append_right _ (List.mem_append_right _ (mem_pinsAt hb e)))).2.1
        · have z:=I9.pin (s.heap.objs.size,{ cls:=.type "list",data:=.seq its.toArray n }) (List.mem_append_right _ (List.mem_append_left _ (by simp)))
          exact⟨z.1,z.2.1⟩
      cases ok with
      | false=>
        obtain⟨m',hm,w8⟩:∃m',m' < k∧W (i + 1) m' ys H8:=hN _ _ (by simpa using q8)
        obtain⟨t1,t2,t3,t4⟩:=tnk I8
        exact⟨m',hm,i + 1,ys,its,n,H8,(I8.pins_of (pins':=[]) fun p hp=>nomatch hp).weak (by rw[List.length_set]) wk,t3,rv,t4,t1,t2,w8⟩
      | true=>
        have q8':=q8
        simp only[if_true] at q8'
        refine wpAny_mono (he a _ s8 _ H8 _ I8 q8') (fun u9 s9 zz242=>el5 zz242 fun v9 H9 I9 r9 q9=>?_) fun _ _ z=>z.elim
        obtain⟨m',hm,w9⟩:=hN _ _ q9
        obtain⟨t1,t2,t3,t4⟩:=tnk I9
        have hl:=rv.length
        refine append_at (hsz:=by show its.toArray.size≤sizeLine;rw[List.size_toArray,←hl];exact hz) t3 fun h' hs' hD'=>?_
        have J9:=((I9.pins_of (pins':=[]) fun p hp=>nomatch hp).weak (σ':=padS N'.length j σ) (by rw[List.length_set]) wk).own_turn (C:=s.heap.objs.size) ⟨t4,ownD.ne,ownD.ab,ownD.ce,ownD.pi⟩ hs'
        refine⟨m',hm,i + 1,ys++[v9],its++[u9],n + 1,H9,J9,?_,Vals.append rv (.cons r9 .nil),t4,T.keep _ _ _ t1 fun b hb o e=>(hs'.2 b fun z=>nDfp (z▸hb)).trans e,t2,w9⟩
        rw[List.push_toArray] at hD'
        exact hD'
  exact codeAny_compStart_list (loop _ rfl) (T.self _ 0 _ _ _ (T.keep _ _ _ st fun b hb o e=>old b o e) (loop _ rfl))
theorem pe_comp {elt iter:Expr} {x:Str} {px pos:Pos} {ifs:List Expr} {scope:Scope} {N':List Str} {j:Nat} {wi:TI} {tt:CA→TT} {te:CA→TE} {osc:Scope} {N:List Str}
    (S:CompSc N N' osc scope j x) (hc:X.calm=true) (hi:PI X (.Name x px) iter wi) (ht:∀a:CA,PTs (cxComp X scope N' a) ifs (tt a)) (he:∀a:CA,PE (cxComp X scope N' a) elt (te a))
    (ho:X.env.scope=osc:=by rfl) (hN:X.N=N:=by rfl) (hs:∀x,foldedSetIterable iter X.env x=pure x:=by intro _;rfl):PE X (.ListComp elt [⟨.Name x px,iter,ifs,0⟩] scope pos) (tComp wi N'.length j tt te):=by
  subst ho hN
  intro pins s σ H Q I h
  rw[eval_ListComp]
  have hcells:∀y∈scope.names,y.2=.free→∃c,X.env.cells.lookup y.1=some c:=fun y hy e=>I.ok.has y.1 (.inl (S.free y hy e))
  refine wpAny_comprehension_free (use:=none) rfl hs (closureFor_eq hcells) S.kind S.names (wpAny_mono (hi pins s σ H _ I h) (fun xv s₁ h₁=>wpAny_mono h₁ (fun itv s₂ h₂=>?_) fun _ _ e=>e) fun _ _ e=>e)
  obtain⟨it,fp,tn,J,H2,rfl,I2,T,st2,f2,q2⟩:=h₂
  refine comp_core (RR:=fun acc C=>compPost (model X.prog X.w) X.A X.xe none (EP X pins σ Q) acc C) S hc ht he I2 T st2 f2 q2 ?_
  intro D C ys H' s' m hn own I' hD q
  refine⟨m,hn,fun h' hs'=>⟨.ref D,_,I'.own_turn own hs',rfl,q D hD⟩⟩
theorem ps_setC {elt iter:Expr} {x y:Str} {px pos py spos:Pos} {ifs:List Expr} {scope:Scope} {N':List Str} {j i:Nat} {wi:TI} {tt:CA→TT} {te:CA→TE} {osc:Scope} {N:List Str}
    (nd:X.N.Nodup) (hi':X.N[i]?=some y) (hy:Loc X.env.scope y)
    (S:CompSc N N' osc scope j x) (hc:X.calm=true) (hi:PI X (.Name x px) iter wi) (ht:∀a:CA,PTs (cxComp X scope N' a) ifs (tt a)) (he:∀a:CA,PE (cxComp X scope N' a) elt (te a))
    (hsw:swapsWith (.ListComp elt [⟨.Name x px,iter,ifs,0⟩] scope pos) (some (.Name y py)) spos.line X.env=pure true:=by rfl)
    (hf:X.fn y=true∨X.env.scope.names.lookup y=some .local:=by first | exact .inl rfl | exact .inr rfl | assumption)
    (ho:X.env.scope=osc:=by rfl) (hN:X.N=N:=by rfl) (hs:∀x,foldedSetIterable iter X.env x=pure x:=by intro _;rfl) :
    PS X (.Assign [.Name y py] (.ListComp elt [⟨.Name x px,iter,ifs,0⟩] scope pos) spos) (fun D σ H=>tComp wi N'.length j tt te σ H fun v H1=>D.nx (σ.set i (some v)) H1):=by
  subst ho hN
  intro pins s σ H D I h
  have hcells:∀y∈scope.names,y.2=.free→∃c,X.env.cells.lookup y.1=some c:=fun y hy e=>I.ok.has y.1 (.inl (S.free y hy e))
  rw[exec_Assign_Name_used _ _ _ _ hsw]
  refine wpAny_bind (wpAny_standAt (wpAny_bind ?_))
  show wpAny _ X.A (do let _ ←comprehension (.ListComp elt [⟨.Name x px,iter,ifs,0⟩] scope pos) scope X.env _ (newList []) false (eval iter X.env) (some (assign (.Name y py) X.env))) _ _ s
  refine wpAny_bind (wpAny_mono (wpAny_comprehension_free (use:=some (assign (.Name y py) X.env)) (Q:=fun _ s'=>SP X pins D .next s') rfl hs (closureFor_eq hcells) S.kind S.names
    (wpAny_mono (hi pins s σ H _ I h) (fun xv s₁ h₁=>wpAny_mono h₁ (fun itv s₂ h₂=>?_) fun _ _ e=>e) fun _ _ e=>e)) (fun _ s' hq=>wpAny_pure (wpAny_pure hq)) fun _ _ e=>e)
  obtain⟨it,fp,tn,J,H2,rfl,I2,T,st2,f2,q2⟩:=h₂
  refine comp_core (RR:=fun acc C=>compPost (model X.prog X.w) X.A X.xe (some (assign (.Name y py) X.env)) (fun _ s'=>SP X pins D .next s') acc C) S hc ht he I2 T st2 f2 q2 ?_
  intro Da C ys H' s' m hn own I' hD q
  show wpAny _ X.A (assign (.Name y py) X.env (.ref Da)) _ _ _
  refine wpAny_assign_Name (store_ok2 (v:=V.ref Da) I' nd hi' hy rfl (fun s2 I2' hsb=>?_) hf)
  obtain⟨b,hs2,hb⟩:=hsb
  have hCb:C≠b:=by
    rcases hb with rfl | hb
    · exact own.ne
    · exact fun z=>own.ce _ _ hb z.symm
  refine⟨m,hn.sameBut hs2 hCb,fun h' hs'=>⟨_,_,I2'.own_turn own hs',q Da hD⟩⟩
end
section
variable {X:Cx}
def CDivB (_ j:Int):Prop:=0 < j∧j < 100000000000000000000000000000000000000000000000000000000000000
theorem op_fdivB:OpR X (binaryOp .FloorDiv) (rI CDivB fun i j=>.int (i / j)):=opI fun i j _ _ _ _ _ hc q=>by
  have h1:(0:Int) < j:=hc.1
  have h2:j < 2 ^ 250:=Int.lt_trans hc.2 (by decide)
  refine floordiv_int (by lia) (by rw[Int.fdiv_eq_ediv_of_nonneg i (by lia)];exact q) (.inl (PyProof.noPylong_of_log2 ?_))
  have h3:j.natAbs < 2 ^ 250:=by
    have:((j.natAbs:Nat):Int) < ((2 ^ 250:Nat):Int):=by
      rw[Int.natAbs_of_nonneg (Int.le_of_lt h1)]
      exact h2
    exact Int.ofNat_lt.mp this
  have h4:j.natAbs≠0:=by lia
  exact Nat.lt_trans ((Nat.log2_lt h4).mpr h3) (by decide)
theorem vals_bools:∀{bs:List Bool} {us:List Value},Vals (bs.map V.bl) us→LSm.BoolsAre us bs
  | [],_,.nil=>.nil
  | b::bs,_,.cons r t=>by
    cases (show _=Value.bool b from r)
    exact .cons b (vals_bools t)
theorem call_all (hc:X.calm=true):CallR X (.builtin "all") (fun xs H Q=>∃(p:Addr) (bs:List Bool),xs=[.ref p]∧SqL X.K H p (bs.map V.bl)∧Q (.bl (bs.all id)) H):=by
  intro pins s σ H xs us Q I r h
  obtain⟨p,bs,rfl,hq,q⟩:=h
  obtain⟨u,rfl,rx⟩:=vals1 r
  cases rx
  obtain⟨its,rv,pl,hz⟩:=I.list hq
  have hb:=vals_bools rv
  have hl:=pl.isList
  have hlt:p < s.heap.objs.size:=by obtain⟨_,e,_⟩:=hl;exact Heap.lt_size e
  refine call_all_walk (wpAny_pyIter_list hl ?_)
  refine⟨s.heap.objs.size,[s.heap.objs.size,p],[s.heap.objs.size],its.toArray.size,_,_,fun i=>(bs[i]?).getD true,rfl,Walks.list (A:=X.A.in1) (I.ok.hd hc) _ p (Nat.ne_of_lt hlt) its.toArray,
    ⟨⟨_,Heap.get?_push_size _ rfl,rfl,rfl⟩,hl.push _⟩,fun i v s' Q' E' hP hQ=>?_,fun h' tk hk=>?_⟩
  · obtain⟨b,e,rfl⟩:=hb.get i v (by simpa using hP)
    simp only[e,Option.getD_some] at hQ
    exact wpAny_truthy_bool hQ
  · have e:((List.range its.toArray.size).all fun i=>(bs[i]?).getD true)=bs.all id:=by
      rw[List.size_toArray,hb.length];exact LSm.range_all bs
    rw[e]
    exact⟨.bl _,H,I.kept (t':=tk) (LSm.kept_iter hk),rfl,q⟩
end
mutual
inductive DatV (K:PySem.W.Frag) (H:Hp):V→PyData→Prop
  | non:DatV K H .non .none
  | bl (b):DatV K H (.bl b) (.bool b)
  | int (i):DatV K H (.int i) (.int i)
  | str (x):DatV K H (.str x) (.str x)
  | lst {a xs ds}:SqL K H a xs→DatVs K H xs ds→DatV K H (.ref a) (.list ds)
  | tup {a xs ds}:SqT K H a xs→DatVs K H xs ds→DatV K H (.ref a) (.tuple ds)
inductive DatVs (K:PySem.W.Frag) (H:Hp):List V→List PyData→Prop
  | nil:DatVs K H [] []
  | cons {x xs d ds}:DatV K H x d→DatVs K H xs ds→DatVs K H (x::xs) (d::ds)
end
section
variable {X:Cx} {pins:List (Addr×Obj)} {σ:St} {H:Hp} {s:Shared}
mutual
theorem DatV.reads (I:Inv X pins σ H s):∀{x:V} {d:PyData} {u:Value},DatV X.K H x d→RelV x u→∃as,Reads s.heap u d as
  | _,_,_,.non,r=>by cases r;exact⟨_,.none⟩
  | _,_,_,.bl b,r=>by cases r;exact⟨_,.bool b⟩
  | _,_,_,.int i,r=>by obtain⟨t,rfl⟩:=r;exact⟨_,.int i t⟩
  | _,_,_,.str x,r=>by obtain⟨t,rfl⟩:=r;exact⟨_,.str x t⟩
  | _,_,_,.lst hq hs,r=>by
    cases r
    obtain⟨its,rv,pl,hz⟩:=I.list hq
    obtain⟨as,ra⟩:=DatVs.reads I hs rv
    obtain⟨o,e,c,n,d⟩:=pl.isList
    exact⟨_,.list e c d (by simpa using ra)⟩
  | _,_,_,.tup hq hs,r=>by
    cases r
    obtain⟨its,rv,pl,hz⟩:=I.tuple hq
    obtain⟨as,ra⟩:=DatVs.reads I hs rv
    obtain⟨o,e,c,n,d⟩:=pl
    exact⟨_,.tuple e c d (by simpa using ra)⟩
theorem DatVs.reads (I:Inv X pins σ H s):∀{xs:List V} {ds:List PyData} {us:List Value},DatVs X.K H xs ds→Vals xs us→∃as,ReadsAll s.heap us ds as
  | _,_,_,.nil,.nil=>⟨_,.nil⟩
  | _,_,_,.cons h t,.cons r rs=>by
    obtain⟨as,ra⟩:=DatV.reads I h r
    obtain⟨bs,rb⟩:=DatVs.reads I t rs
    exact⟨_,.cons ra rb⟩
end
end
section
variable {X:Cx}
def rEqD (K:PySem.W.Frag) (neg:Bool):R2:=fun x y H Q=>∃da db,DatV K H x da∧DatV K H y db∧da.canLay0=true∧db.canLay0=true∧min da.depth db.depth≤64∧Q (.bl (if neg then !PyData.eqv da db else PyData.eqv da db)) H
theorem op_eqD (hu:X.A.units + 64 < cLine):OpR X (compareOp .Eq) (rEqD X.K false):=by
  intro pins s σ H x y v u Q I rx ry h
  obtain⟨da,db,d1,d2,c1,c2,hd,q⟩:=h
  obtain⟨as,ra⟩:=d1.reads I rx
  obtain⟨bs,rb⟩:=d2.reads I ry
  exact SeqAt.compareEq_reads ra rb c1 c2 (by lia) ⟨.bl _,H,I,rfl,q⟩
theorem op_neD (hu:X.A.units + 64 < cLine):OpR X (compareOp .NotEq) (rEqD X.K true):=by
  intro pins s σ H x y v u Q I rx ry h
  obtain⟨da,db,d1,d2,c1,c2,hd,q⟩:=h
  obtain⟨as,ra⟩:=d1.reads I rx
  obtain⟨bs,rb⟩:=d2.reads I ry
  exact SeqAt.compareNe_reads ra rb c1 c2 (by lia) ⟨.bl _,H,I,rfl,q⟩
theorem get_list:PGet X (fun o i H Q=>∃p xs j v,o=.ref p∧i=.int j∧0≤j∧SqL X.K H p xs∧atI xs j=some v∧Q v H):=by
  intro pins s σ H o i ov iv Q I r1 r2 h
  obtain⟨p,xs,j,v,rfl,rfl,h0,hq,he,q⟩:=h
  cases r1
  obtain⟨t,rfl⟩:=r2
  obtain⟨its,r,pl,hz⟩:=I.list hq
  obtain⟨k,h1,h2,h3,h4,h5⟩:=atI_get he
  obtain⟨w,ew,rw'⟩:=r.get h2
  have hl:=r.length
  have hn:=line63
  have hj:j.toNat=k:=by
    rw[seqIndex_of h0 h5] at h1
    exact Option.some.inj h1
  exact wpAny_getItem_list pl.isList h0 (by lia) (by rw[hj];simpa using ew) ⟨v,H,I,rw',q⟩
theorem ps_mid {st:Stmt} {t:TS} (h:PS X st t):PS X st (fun D σ H=>∃M:St→Hp→Prop,t { D with nx:=M } σ H∧∀σ' H',M σ' H'→D.nx σ' H'):=by
  intro pins s σ H D I q
  obtain⟨M,q1,q2⟩:=q
  refine thn (h pins s σ H _ I q1) fun f s' z=>?_
  cases f with
  | next=>obtain⟨σ',H',I',m⟩:=z;exact⟨σ',H',I',q2 _ _ m⟩
  | brk=>exact z
  | cont=>exact z
  | ret v=>exact z
end
theorem bt_list:bootBuiltins "list" = some (.type "list"):=by decide +kernel
theorem bt_abs:bootBuiltins "abs" = some (.builtin "abs"):=by decide +kernel
theorem bt_min:bootBuiltins "min" = some (.builtin "min"):=by decide +kernel
theorem bt_max:bootBuiltins "max" = some (.builtin "max"):=by decide +kernel
theorem bt_isinstance:bootBuiltins "isinstance" = some (.builtin "isinstance"):=by decide +kernel
theorem bt_int:bootBuiltins "int" = some (.type "int"):=by decide +kernel
theorem bt_bool:bootBuiltins "bool" = some (.type "bool"):=by decide +kernel
theorem bt_all:bootBuiltins "all" = some (.builtin "all"):=by decide +kernel
theorem bt_sorted:bootBuiltins "sorted" = some (.builtin "sorted"):=by decide +kernel
theorem bt_len:bootBuiltins "len" = some (.builtin "len"):=by decide +kernel
theorem bt_any:bootBuiltins "any" = some (.builtin "any"):=by decide +kernel
theorem bt_enumerate:bootBuiltins "enumerate" = some (.type "enumerate"):=by decide +kernel
section
variable {es:List Expr} {env:Env}
theorem se_Constant {c j p}:starEach (.Constant c j p::es) env=(false,eval (.Constant c j p) env)::starEach es env:=by rfl
theorem se_Name {c p}:starEach (.Name c p::es) env=(false,eval (.Name c p) env)::starEach es env:=by rfl
theorem se_BinOp {a o b p}:starEach (.BinOp a o b p::es) env=(false,eval (.BinOp a o b p) env)::starEach es env:=by rfl
theorem se_UnaryOp {o b p}:starEach (.UnaryOp o b p::es) env=(false,eval (.UnaryOp o b p) env)::starEach es env:=by rfl
theorem se_Compare {a o b p}:starEach (.Compare a o b p::es) env=(false,eval (.Compare a o b p) env)::starEach es env:=by rfl
theorem se_Call {a o b p}:starEach (.Call a o b p::es) env=(false,eval (.Call a o b p) env)::starEach es env:=by rfl
theorem se_Subscript {a o p}:starEach (.Subscript a o p::es) env=(false,eval (.Subscript a o p) env)::starEach es env:=by rfl
theorem se_List {a p}:starEach (.List a p::es) env=(false,eval (.List a p) env)::starEach es env:=by rfl
theorem se_Tuple {a k p}:starEach (.Tuple a k p::es) env=(false,eval (.Tuple a k p) env)::starEach es env:=by rfl
theorem se_ListComp {a b c p}:starEach (.ListComp a b c p::es) env=(false,eval (.ListComp a b c p) env)::starEach es env:=by rfl
theorem np_nil {pos:Pos}:(backTo pos (starEach [] env)).any (·.1)=false:=by rfl
theorem np_cons {pos:Pos} {e:Expr} (hs:starEach (e::es) env=(false,eval e env)::starEach es env) (h:(backTo pos (starEach es env)).any (·.1)=false):(backTo pos (starEach (e::es) env)).any (·.1)=false:=by
  rw[hs]
  exact h
end
section
variable {X:Cx} {pos:Pos}
end
section
variable {X:Cx}
end
section
variable {X:Cx} {pins:List (Addr×Obj)} {σ:St} {H:Hp} {s:Shared} {h':Heap}
theorem Inv.turned2 {t':Nat} {e it:Addr} (I:Inv X pins σ H s) (k:∀b o,b≠e→b≠it→s.heap.get? b=some o→h'.get? b=some o) (fe:FpOk X pins H e) (fi:FpOk X pins H it):Inv X pins σ H { s with heap:=h',toks:=t' }:=by
  obtain⟨e0,e1,e2,e3,e4,e5⟩:=fe
  obtain⟨f0,f1,f2,f3,f4,f5⟩:=fi
  have nit:∀b u,H b=some u→b≠it:=fun b u e z=>by rw[z,f0] at e;cases e
  have nie:∀b u,H b=some u→b≠e:=fun b u q z=>by rw[z,e0] at q;cases q
  have kc:∀b o,b∉[e,it]→s.heap.get? b=some o→h'.get? b=some o:=fun b o hc q=>k b o (fun z=>hc (by simp [z])) (fun z=>hc (by simp [z])) q
  refine I.step (g':=s.gens) (d':=s.drawn) (ch:=[e,it]) (fun b hb=>?_) (fun b o _ _ hc e _=>kc b o hc e) (fun b o _ _ hc e _=>⟨o.slots,kc b o hc e⟩) (fun _ _ _ _ n=>n)
    (fun b o hc e=>⟨o,kc b o hc e⟩) (fun _ _ e=>e) (fun _ _ _ e=>e) (fun b ps e=>⟨#[],by rw[e];simp⟩) (fun m hm=>?_) (fun b u q=>?_) I.bare
  · rcases List.mem_cons.mp hb with z | z
    · subst z;exact⟨e3,e1,e4,e5⟩
    · have z':b=it:=by simpa using z
      subst z'
      exact⟨f3,f1,f4,f5⟩
  · obtain⟨o,es,ep,ho,r⟩:=hm
    exact⟨o,es,ep,k _ o (Ne.symm e1) (Ne.symm f1) ho,r⟩
  · refine (I.hok b u q).stay (fun c v hc z=>k c v ?_ ?_ z) (fun _ z=>z) fun _ _ z=>z
    · rcases hc with z | z
      · rw[z];exact nie b u q
      · exact nie c _ z
    · rcases hc with z | z
      · rw[z];exact nit b u q
      · exact nit c _ z
end
def Ite (K:PySem.W.Frag) (a:Addr):It:=
  ⟨fun i H=>∃xs x,SqL K H a xs∧xs[i]?=some x,fun i H x H'=>∃p v,x=.ref p∧H p=none∧H'=upd H p (.tup [.int ((i:Nat):Int),v])∧∀xs,SqL K H a xs→xs[i]?=some v,fun i H=>∃xs,SqL K H a xs∧xs.length≤i⟩
theorem turn_enum {P:Program} {w:World} {K:PySem.W.Frag} {elts:List Expr} {x1} {tpos:Pos} (a e it:Addr) (hne:e≠it):Turn P w K (.Tuple elts x1 tpos) (Ite K a) [e,it] e (fun i h=>(∃old,IsEnum h e it ((i:Nat):Int) old)∧h.IsListIter it a i) where
  mem:=by simp
  obj:=fun i h st b hb=>by
    obtain⟨⟨old,h1⟩,h2⟩:=st
    rcases List.mem_cons.mp hb with z | z
    · subst z
      exact⟨_,h1,fun v z=>by
        have z':Data.fields _=Data.cell v:=z
        cases z'⟩
    · have z':b=it:=by simpa using z
      subst z'
      obtain⟨o,e,c,d⟩:=h2
      exact⟨o,e,fun v z=>by rw[d] at z;cases z⟩
  keep:=fun i h h' st k=>by
    obtain⟨⟨old,h1⟩,h2⟩:=st
    exact⟨⟨old,k e (by simp) _ h1⟩,h2.at fun o q=>k it (by simp) o q⟩
  item:=by
    intro X hP hw hK hc i pins s σ H E I hf st hg
    subst hP hw hK
    obtain⟨⟨old,st1⟩,st2⟩:=st
    obtain⟨xs,x,hq,hx⟩:=hg
    obtain⟨its,rv,p,hz⟩:=I.list hq
    obtain⟨u,hu,ru⟩:=rv.get hx
    have fe:=hf e (by simp)
    have fi:=hf it (by simp)
    have le:e < s.heap.objs.size:=Heap.lt_size st1
    have li:it < s.heap.objs.size:=by obtain⟨_,q,_⟩:=id st2;exact Heap.lt_size q
    refine wpAny_pyNext_enum_item st1 st2 p.isList (x:=u) (by simpa using hu) hne fun h' ho hit' hT hsz hk=>?_
    refine⟨_,rfl,wpAny_letOwnedTupleGo_enum ho fun h2 he2 hs2=>?_⟩
    replace hs2:Heap.SameBut e h' h2:=hs2
    have hn:H s.heap.objs.size=none:=I.hok.fresh (Nat.le_refl _)
    have I1:Inv X pins σ (upd H s.heap.objs.size (.tup [.int ((i:Nat):Int),x])) { s with heap:=s.heap.push { cls:=.type "tuple",data:=.seq #[.int i s.toks,u] },toks:=s.toks }:=
      I.laid (fun b o q=>Heap.get?_push_of_some _ q) (Nat.le_refl _) ⟨by show 2≤sizeLine;decide,[.int i s.toks,u],.cons ⟨_,rfl⟩ (.cons ru .nil),⟨_,Heap.get?_push_size _ rfl,rfl,_,rfl⟩⟩
    have ge:∀b,b < s.heap.objs.size→FpOk X pins H b→FpOk X pins (upd H s.heap.objs.size (.tup [.int ((i:Nat):Int),x])) b:=fun b hb f=>⟨by rw[upd_ne (Nat.ne_of_lt hb)];exact f.1,f.2⟩
    have I2:=I1.turned2 (h':=h2) (t':=s.toks + 1) (e:=e) (it:=it) (fun b o n1 n2 q=>by
      rw[hs2.2 b n1]
      rcases Heap.get?_push_cases q with ⟨z,z2⟩ | q
      · subst z z2
        exact hT
      · exact hk b o n1 n2 q) (ge e le fe) (ge it li fi)
    refine⟨.ref s.heap.objs.size,_,I2,rfl,⟨_,x,rfl,hn,rfl,fun ys hy=>by rw[I.list_inj hy hq];exact hx⟩,⟨⟨u,he2⟩,hit'.at fun o q=>(hs2.2 it hne.symm).trans q⟩,fun b hb=>?_⟩
    rcases List.mem_cons.mp hb with z | z
    · subst z;exact (ge b le fe).1
    · have z':b=it:=by simpa using z
      subst z'
      exact (ge b li fi).1
  done:=by
    intro X hP hw hK hc i pins s σ H E I hf st hg
    subst hP hw hK
    obtain⟨⟨old,st1⟩,st2⟩:=st
    obtain⟨xs,hq,hx⟩:=hg
    obtain⟨its,rv,p,hz⟩:=I.list hq
    have hl:=rv.length
    exact wpAny_pyNext_enum_end (I.ok.hd hc) st1 st2 p.isList (by simp;lia) fun h' eb=>⟨rfl,I.turned2 (t':=s.toks) (fun b o n1 n2 q=>eb b o n2 q) (hf e (by simp)) (hf it (by simp))⟩
  self:=fun _ _ _ _ _ st h=>by
    obtain⟨⟨old,st1⟩,_⟩:=st
    exact wpAny_pyIter_enum st1 h
section
variable {X:Cx}
def iEnum (K:PySem.W.Frag) (ta:TA):TI:=fun σ H R=>ta σ H fun vs H1=>∃a,vs=[.ref a]∧(∃xs,SqL K H1 a xs)∧R (Ite K a) H1
theorem pi_enum {elts:List Expr} {x1} {tpos:Pos} {a:Expr} {ta:TA} {p pos:Pos} (hg:Gl X "enumerate") (hm:X.mg "enumerate" = none) (ha:PA X [a] ta) (hs:starEach [a] X.env=[(false,eval a X.env)]:=by rfl):PI X (.Tuple elts x1 tpos) (.Call (.Name "enumerate" p) [a] [] pos) (iEnum X.K ta):=by
  intro pins s σ H R I h
  refine Call_ (ld_blt I hg hm bt_enumerate (PyProof.Rows.callWith_type1 (thn (ha pos pins s σ H _ I h) fun us s1 zz244=>el5 zz244 fun vs H1 I1 r1 q1=>?_) hs rfl))
  obtain⟨a',e,⟨xs,hq⟩,q⟩:=q1
  subst e
  obtain⟨u,rfl,rx⟩:=vals1 r1
  cases rx
  obtain⟨its,rv,pl,hz⟩:=I1.list hq
  refine call_enumerate_list pl.isList fun h' he hit hsz hk=>?_
  refine wpAny_pyIter_enum (s:={ s1 with heap:=h' }) he ?_
  have I2:Inv X pins σ H1 { s1 with heap:=h' }:=I1.kept (t':=s1.toks) hk
  refine⟨_,[s1.heap.objs.size + 1,s1.heap.objs.size],_,_,H1,rfl,I2,turn_enum a' _ _ (Nat.ne_of_gt (Nat.lt_succ_self _)),⟨⟨.none,he⟩,hit⟩,fun b hb=>?_,q⟩
  rcases List.mem_cons.mp hb with z | z
  · subst z;exact I1.fpOk (Nat.le_succ _) (I1.hok.fresh (Nat.le_succ _))
  · have z':b=s1.heap.objs.size:=by simpa using z
    subst z'
    exact I1.fpOk (Nat.le_refl _) (I1.hok.fresh (Nat.le_refl _))
theorem ps_no {st:Stmt}:PS X st (fun _ _ _=>False):=fun _ _ _ _ _ _ h=>h.elim
end
section
variable {X:Cx} {pins:List (Addr×Obj)} {σ:St} {H:Hp} {s:Shared}
end
section
variable {X:Cx}
theorem call_any (hc:X.calm=true):CallR X (.builtin "any") (fun xs H Q=>∃(p:Addr) (bs:List Bool),xs=[.ref p]∧SqL X.K H p (bs.map V.bl)∧Q (.bl (bs.any id)) H):=by
  intro pins s σ H xs us Q I r h
  obtain⟨p,bs,rfl,hq,q⟩:=h
  obtain⟨u,rfl,rx⟩:=vals1 r
  cases rx
  obtain⟨its,rv,pl,hz⟩:=I.list hq
  have hb:=vals_bools rv
  have hl:=pl.isList
  have hlt:p < s.heap.objs.size:=by obtain⟨_,e,_⟩:=hl;exact Heap.lt_size e
  refine call_any_walk (wpAny_pyIter_list hl ?_)
  refine⟨s.heap.objs.size,[s.heap.objs.size,p],[s.heap.objs.size],its.toArray.size,_,_,fun i=>(bs[i]?).getD false,rfl,Walks.list (A:=X.A.in1) (I.ok.hd hc) _ p (Nat.ne_of_lt hlt) its.toArray,
    ⟨⟨_,Heap.get?_push_size _ rfl,rfl,rfl⟩,hl.push _⟩,fun i v s' Q' E' hP hQ=>?_,fun h' tk hk=>?_⟩
  · obtain⟨b,e,rfl⟩:=hb.get i v (by simpa using hP)
    simp only[e,Option.getD_some] at hQ
    exact wpAny_truthy_bool hQ
  · have e:((List.range its.toArray.size).any fun i=>(bs[i]?).getD false)=bs.any id:=by
      rw[List.size_toArray,hb.length,Bool.eq_iff_iff,List.any_eq_true,List.any_eq_true]
      constructor
      · rintro ⟨i,hi,hv⟩
        rw[List.mem_range] at hi
        rw[List.getElem?_eq_getElem hi] at hv
        exact⟨bs[i],List.getElem_mem hi,hv⟩
      · rintro ⟨b,hb1,hb2⟩
        obtain⟨i,hi,rfl⟩:=List.mem_iff_getElem.mp hb1
        exact⟨i,List.mem_range.mpr hi,by rw[List.getElem?_eq_getElem hi];exact hb2⟩
    rw[e]
    exact⟨.bl _,H,I.kept (t':=tk) (LSm.kept_iter hk),rfl,q⟩
def rIndex (K:PySem.W.Frag):V→List V→Hp→VK→Prop:=fun x vs H Q=>∃(l:Addr) (ns:List Int) (k:Int),x=.ref l∧vs=[.int k]∧SqL K H l (ns.map V.int)∧k∈ns∧ns.length≤100000∧Q (.int (ns.idxOf k:Nat)) H
theorem mt_index:MtM X "list.index" (rIndex X.K):=by
  intro pins s σ H x vs v us Q I rx rv h
  obtain⟨l,ns,k,rfl,rfl,hq,hk,hn,q⟩:=h
  cases rx
  obtain⟨u,rfl,t,rfl⟩:=vals1 rv
  obtain⟨its,r,pl,hz⟩:=I.list hq
  have hi:=intsAre_of r
  obtain⟨⟨cls,dd,data,sl⟩,ho,hc,n,hd⟩:=pl.isList
  simp only at hc hd
  subst hc hd
  have hlen:=hi.length
  have hj:ns.idxOf k < ns.length:=List.idxOf_lt_length_iff.mpr hk
  refine call_meets PySem.F.slot_list_index ⟨_,ho,rfl⟩ PySem.F.entry_list_index (PySem.F.args_list_index_2 _ _)
    (SeqAt.list_indexAt l its.toArray n dd sl (.int k t) (isInt k) (ns.idxOf k) (by simpa [hlen] using hj) (by lia) ?_ ?_) ⟨ho,fun y hy=>(eq_isInt k t hi y (by simpa using hy)).at _ _,⟨.int _,H,I.tok _,⟨_,rfl⟩,q⟩⟩
  · show isInt k its[ns.idxOf k]=true
    rw[isInt_at k hi _ (by lia) hj]
    simpa using List.getElem_idxOf hj
  · intro j hjs hlt
    show isInt k its[j]=false
    rw[isInt_at k hi j (by simpa using hjs) (by lia)]
    exact ne_of_lt_idxOf hlt _
end
inductive TyOf2 (K:PySem.W.Frag) (H:Hp):V→Value→Prop where
  | o {x:V} {t:Value}:TyOf K H x t→TyOf2 K H x t
  | f {a:Addr} {o:Obj} {kvs:List (List Key×V)}:H a=some (.frz o (.dT kvs))→TyOf2 K H (.ref a) (.type "dict")
section
variable {X:Cx}
theorem call_isinst2:CallR X (.builtin "isinstance") (fun xs H Q=>∃x cv c t b,xs=[x,cv]∧RelV cv c∧TyOf2 X.K H x t∧PySem.W.kitOne X.K t c=some b∧Q (.bl b) H):=by
  intro pins s σ H xs us Q I r h
  obtain⟨x,cv,c,t,b,rfl,rc,ty,k,q⟩:=h
  obtain⟨u,w',rfl,r1,r2⟩:=vals2 r
  have e:w'=c:=by
    cases cv with
    | non=>exact r2.trans rc.symm
    | bl y=>exact r2.trans rc.symm
    | ref y=>exact r2.trans rc.symm
    | ty y=>exact r2.trans rc.symm
    | int y=>
      obtain⟨t1,rfl⟩:=rc
      exfalso
      unfold PySem.W.kitOne PySem.W.kitCls at k
      cases ty with
      | o ty=>cases ty <;> simp at k
      | f e=>simp at k
    | str y=>
      obtain⟨t1,rfl⟩:=rc
      exfalso
      unfold PySem.W.kitOne PySem.W.kitCls at k
      cases ty with
      | o ty=>cases ty <;> simp at k
      | f e=>simp at k
    | byt y=>
      obtain⟨t1,rfl⟩:=rc
      exfalso
      unfold PySem.W.kitOne PySem.W.kitCls at k
      cases ty with
      | o ty=>cases ty <;> simp at k
      | f e=>simp at k
    | flt y=>
      obtain⟨t1,rfl⟩:=rc
      exfalso
      unfold PySem.W.kitOne PySem.W.kitCls at k
      cases ty with
      | o ty=>cases ty <;> simp at k
      | f e=>simp at k
  subst e
  cases ty with
  | o ty=>exact isinst_ok I r1 ty k fun tk=>⟨.bl b,H,I.tok tk,rfl,q⟩
  | @f a o kvs ea=>
    cases (show u=Value.ref a from r1)
    obtain⟨_,_,_,xs,_,o',es,ep,h1,h2,_⟩:=(show ObjOk X.prog X.w H s.heap a (.frz o (.dT kvs)) from I.hok a _ ea)
    exact PySem.W.kia_one PySem.W.kitx_dict I.kIn ⟨o',h1,h2.1⟩ k (fun z=>nomatch z) fun tk=>⟨.bl b,H,I.tok tk,rfl,q⟩
theorem Vals.rev:∀{xs:List V} {us:List Value},Vals xs us→Vals xs.reverse us.reverse
  | _,_,.nil=>.nil
  | _::xs,_::us,.cons r t=>by
    rw[List.reverse_cons,List.reverse_cons]
    exact (Vals.rev t).append (.cons r .nil)
end
theorem lri_nolen:typeLookup (.type "list_reverseiterator") "__len__" = pure none:=by
  rw[typeLookup_type,builtinLookup_eq_fast];kernel_rfl
theorem lri_hint:typeLookup (.type "list_reverseiterator") "__length_hint__" = pure (some (.builtin "list_reverseiterator.__length_hint__")):=by
  rw[typeLookup_type,builtinLookup_eq_fast];kernel_rfl
section
variable {prog:Program} {w:World} {A:Around} {E:Value→Shared→Prop} {s:Shared}
theorem hint_lri {r l:Addr} {i:Int} {Q:Bool→Shared→Prop} (hr:s.heap.IsRevIter r l i) (h:∀tk,Q false { s with toks:=tk }):wpAny (model prog w) A (Builtin.List.listLengthHint (.ref r)) Q E s:=by
  have hT:=hr.typeIs
  unfold Builtin.List.listLengthHint
  refine wpAny_bind (wpAny_specialOf hT lri_nolen ?_)
  show wpAny _ A (specialOf (Value.ref r) (Str.ofString "__length_hint__") >>= _) _ _ _
  refine wpAny_bind (wpAny_specialOf hT lri_hint ?_)
  generalize hid:("list_reverseiterator.__length_hint__" : String)=id0
  wp_delta
  rw[show splitId id0=some ("list_reverseiterator", "__length_hint__") from by subst hid;decide +kernel]
  subst hid
  refine wpAny_bind (wpAny_isInstance (b:=true) hT (by rw[isSubtype_type];kernel_rfl) ?_)
  exact wpAny_pure (h s.toks)
theorem call_list_lri {r l:Addr} {items:Array Value} {Q:Value→Shared→Prop} (hh:A.handled=none) (hr:s.heap.IsRevIter r l ((items.size:Int) - 1)) (hl:s.heap.IsList l items) (hne:l≠r) (hz:items.size≤sizeLine)
    (hQ:∀(h':Heap) (tk:Nat) (acc:Array Value) (c:Nat),(∀b o,b≠r→s.heap.get? b=some o→h'.get? b=some o)→h'.get? s.heap.objs.size=some { cls:=.type "list",dict:=none,data:=.seq acc c,slots:=#[] }→
      ItemsOf (fun i v=>items[items.size - 1 - i]?=some v) acc items.size→Q (.ref s.heap.objs.size) { s with heap:=h',toks:=tk }):wpAny (model prog w) A (call (.type "list") [.ref r]) Q E s:=by
  have rlt:r < s.heap.objs.size:=by obtain⟨_,q,_⟩:=hr;exact Heap.lt_size q
  have llt:l < s.heap.objs.size:=by obtain⟨_,q,_⟩:=hl;exact Heap.lt_size q
  refine callType_codes (Q₁:=fun obj t=>obj=.ref s.heap.objs.size∧t={ s with heap:=s.heap.push { cls:=.type "list",data:=.seq #[] } }) F.called_list (F.typeCall_list_1 _) F.entry_list_init (code_list_new _ ⟨rfl,rfl⟩) fun obj t ht=>?_
  obtain⟨rfl,rfl⟩:=ht
  have hS:(s.heap.push { cls:=.type "list",data:=.seq #[] }).get? s.heap.objs.size=some { cls:=.type "list",data:=.seq #[] }:=Heap.get?_push_size _ rfl
  refine⟨⟨_,hS,rfl⟩,F.args_list_init_2 _ _,?_⟩
  generalize hh2:s.heap.push { cls:=.type "list",data:=.seq #[] }=h2 at hS
  have old:∀b o,s.heap.get? b=some o→h2.get? b=some o:=fun b o e=>hh2▸Heap.get?_push_of_some _ e
  have hSr:s.heap.objs.size≠r:=Nat.ne_of_gt rlt
  have hSl:s.heap.objs.size≠l:=Nat.ne_of_gt llt
  show wpAny _ _ (do let was ←Builtin.List.listItems (.ref s.heap.objs.size);Builtin.List.listUpdate (.ref s.heap.objs.size) (fun _=>#[]);letGo was.toList.reverse;Builtin.List.listExtendWith (.ref s.heap.objs.size) (.ref r) .none) _ _ _
  refine wpAny_bind ?_
  unfold Builtin.List.listItems
  refine wpAny_bind (wpAny_seqItems hS rfl (wpAny_pure ?_))
  show wpAny _ _ (updateSeq s.heap.objs.size (fun _=>#[]) >>= fun _=>letGo (#[]:Array Value).toList.reverse >>= fun _=>Builtin.List.listExtendWith (.ref s.heap.objs.size) (.ref r) .none) _ _ _
  refine wpAny_bind (wpAny_updateSeq hS rfl ?_)
  have hS3:=Heap.get?_update_self (Obj.mapSeq (fun _=>(#[]:Array Value))) hS rfl
  refine wpAny_bind (wpAny_letGo ?_)
  have oth:∀b o,b≠s.heap.objs.size→h2.get? b=some o→(h2.update s.heap.objs.size (Obj.mapSeq (fun _=>(#[]:Array Value)))).get? b=some o:=fun b o n e=>(Heap.get?_update_other _ _ (Ne.symm n)).trans e
  generalize h2.update s.heap.objs.size (Obj.mapSeq (fun _=>(#[]:Array Value)))=h3 at hS3 oth
  have old3:∀b o,s.heap.get? b=some o→h3.get? b=some o:=fun b o e=>oth b o (Nat.ne_of_lt (Heap.lt_size e)) (old b o e)
  have hr3:h3.IsRevIter r l ((items.size:Int) - 1):=hr.at fun o e=>old3 r o e
  have hl3:h3.IsList l items:=hl.at fun o e=>old3 l o e
  have W:=(Walks.listRev (prog:=prog) (w:=w) (A:=A.in1.in1) hh r l hne items).toS
  unfold Builtin.List.listExtendWith
  refine wpAny_bind (wpAny_typeOf (T:= "list_reverseiterator") (s:={ s with heap:=h3 }) hr3.typeIs ?_)
  have z1:Builtin.List.listSameRef (.ref s.heap.objs.size) (.ref r)=false:=by simp [Builtin.List.listSameRef,hSr]
  rw[if_neg (by rw[z1];decide)]
  refine wpAny_bind (wpAny_pyIter_revIter (s:={ s with heap:=h3 }) hr3 ?_)
  refine wpAny_bind (wpAny_holding (hint_lri (s:={ s with heap:=h3 }) hr3 fun tk=>?_))
  rw[if_neg (by decide)]
  have nf:s.heap.objs.size∉[r,l]:=fun q=>by
    rcases List.mem_cons.mp q with e | e
    · exact hSr e
    · exact hSl (by simpa using e)
  have st0:0≤items.size∧h3.IsRevIter r l ((items.size:Int) - 1 - ((0:Nat):Int))∧h3.IsList l items:=⟨Nat.zero_le _,by simpa using hr3,hl3⟩
  refine wpAny_pure ⟨plainId_quiet F.plain_extend_loop _,codeAny_extend_loopS W hz _ nf _ items.size 0 _ _ _ rfl (Nat.zero_le _) st0 hS3 (ItemsOf.nil _) fun s' acc c hm hS' hacc=>?_⟩
  rw[Moved.eq_with hm]
  refine⟨rfl,hQ s'.heap s'.toks acc c (fun b o n e=>hm.heap b o (fun q=>?_) (old3 b o e)) hS' hacc⟩
  rcases List.mem_cons.mp q with z | z
  · exact Nat.ne_of_lt (Heap.lt_size e) z
  · exact n (by simpa using z)
end
theorem bt_reversed2:bootBuiltins "reversed" = some (.type "reversed"):=by decide +kernel
theorem items_rev {items:Array Value} {acc:Array Value} (h:ItemsOf (fun i v=>items[items.size - 1 - i]?=some v) acc items.size):acc.toList=items.toList.reverse:=by
  have hl:acc.size=items.size:=h.1
  apply List.ext_getElem?
  intro i
  by_cases c:i < items.size
  · have ha:i < acc.size:=by lia
    have e:=h.2 i acc[i] (Array.getElem?_eq_getElem ha)
    rw[List.getElem?_reverse (by rw[Array.length_toList];exact c),Array.length_toList,Array.getElem?_toList,Array.getElem?_toList,Array.getElem?_eq_getElem ha]
    exact e.symm
  · rw[List.getElem?_eq_none (by rw[Array.length_toList];lia),List.getElem?_eq_none (by rw[List.length_reverse,Array.length_toList];lia)]
section
variable {X:Cx}
theorem pe_lrev {e:Expr} {te:TA} {p1 p2 p3 p4:Pos} (hg1:Gl X "list") (hm1:X.mg "list" = none) (hg2:Gl X "reversed") (hm2:X.mg "reversed" = none) (hc:X.calm=true) (he:PA X [e] te) (hs:starEach [e] X.env=[(false,eval e X.env)]:=by rfl)
    (hs2:starEach [.Call (.Name "reversed" p2) [e] [] p3] X.env=[(false,eval (.Call (.Name "reversed" p2) [e] [] p3) X.env)]:=by rfl):PE X (.Call (.Name "list" p1) [.Call (.Name "reversed" p2) [e] [] p3] [] p4)
      (fun σ H Q=>te σ H fun vs H1=>∃a xs,vs=[.ref a]∧SqL X.K H1 a xs∧∀p,H1 p=none→Q (.ref p) (upd H1 p (.lst xs.reverse))):=by
  intro pins s σ H Q I h
  refine Call_ (ld_blt I hg1 hm1 bt_list (PyProof.Rows.callWith_type1 ?_ hs2 rfl))
  rw[hs2]
  show wpAny _ _ (spliced [(false,eval (.Call (.Name "reversed" p2) [e] [] p3) X.env)]) _ _ s
  refine Calls.spliced_cons ?_
  refine Call_ (ld_blt I hg2 hm2 bt_reversed2 (PyProof.Rows.callWith_type1 (thn (he p3 pins s σ H _ I h) fun us s1 zz271=>el5 zz271 fun vs H1 I1 r1 q1=>?_) hs rfl))
  obtain⟨a,xs,rfl,hq,q⟩:=q1
  obtain⟨u,rfl,rx⟩:=vals1 r1
  cases rx
  obtain⟨its,rv,pl,hz⟩:=I1.list hq
  have alt:a < s1.heap.objs.size:=by obtain⟨_,z,_⟩:=pl.isList;exact Heap.lt_size z
  refine call_reversed_list pl.isList (Calls.spliced_nil ?_)
  have hr:(s1.heap.push (revObj a ((its.toArray.size:Int) - 1))).IsRevIter s1.heap.objs.size a ((its.toArray.size:Int) - 1):=⟨_,Heap.get?_push_size _ rfl,rfl,rfl⟩
  have hl2:(s1.heap.push (revObj a ((its.toArray.size:Int) - 1))).IsList a its.toArray:=pl.isList.push _
  have hsz:(s1.heap.push (revObj a ((its.toArray.size:Int) - 1))).objs.size=s1.heap.objs.size + 1:=Heap.size_push ..
  refine call_list_lri (s:={ s1 with heap:=s1.heap.push (revObj a ((its.toArray.size:Int) - 1)) }) (I1.ok.hd hc) hr hl2 (Nat.ne_of_lt alt) (by rw[List.size_toArray,←rv.length];exact hz) fun h' tk acc c hk hS hacc=>?_
  have eq:=items_rev hacc
  refine⟨.ref _,_,I1.laid (t':=tk) (o:=.lst xs.reverse) (fun b o z=>hk b o (Nat.ne_of_lt (Heap.lt_size z)) (Heap.get?_push_of_some _ z)) (by show s1.heap.objs.size≤_;rw[hsz];exact Nat.le_succ _) (show ObjOk X.prog X.w _ h' _ (.lst xs.reverse) from ⟨by rw[List.length_reverse];exact hz,acc.toList,c,?_,by simpa using hS⟩),rfl,q _ (I1.hok.fresh (by show s1.heap.objs.size≤_;rw[hsz];exact Nat.le_succ _))⟩
  rw[eq]
  exact Vals.rev rv
def Itv (K:PySem.W.Frag) (a:Addr) (n:Nat):It:=
  ⟨fun i H=>∃xs x,SqL K H a xs∧xs.length=n∧xs.reverse[i]?=some x,fun i H x H'=>H'=H∧∀xs,SqL K H a xs→xs.reverse[i]?=some x,fun i _=>n≤i⟩
theorem turn_rev {P:Program} {w:World} {K:PySem.W.Frag} {tg:Expr} (a it:Addr) (n:Nat):Turn P w K tg (Itv K a n) [it] it (fun i h=>i≤n∧h.IsRevIter it a ((n:Int) - 1 - ((i:Nat):Int))) where
  mem:=by simp
  obj:=fun i h st b hb=>by
    have e:b=it:=by simpa using hb
    subst e
    obtain⟨_,o,e,c,d⟩:=st
    exact⟨o,e,fun v z=>by rw[d] at z;cases z⟩
  keep:=fun i h h' st k=>⟨st.1,st.2.at fun o e=>k it (by simp) o e⟩
  item:=by
    intro X hP hw hK hc i pins s σ H E I hf st hg
    subst hP hw hK
    obtain⟨xs,x,hq,hn,hx⟩:=hg
    obtain⟨its,rv,p,hz⟩:=I.list hq
    have hil:i < n:=by
      have:=(List.getElem?_eq_some_iff.mp hx).1
      rw[List.length_reverse,hn] at this
      exact this
    have hx':xs[n - 1 - i]?=some x:=by rw[List.getElem?_reverse (by lia),hn] at hx;exact hx
    obtain⟨u,hu,ru⟩:=rv.get hx'
    obtain⟨f0,f1,f2,f3,f4,f5⟩:=hf it (by simp)
    have ei:(n:Int) - 1 - ((i:Nat):Int)=((n - 1 - i:Nat):Int):=by lia
    refine wpAny_pyNext_rev_item (i:=n - 1 - i) (by rw[←ei];exact st.2) p.isList (x:=u) (by simpa using hu) fun h' st' sb=>?_
    have I1:Inv X pins σ H { s with heap:=h' }:=I.turned (t':=s.toks) (fun b o hb e=>(sb.2 b hb).trans e) f0 f1 f3 f4 f5
    obtain⟨o,e,c,d⟩:=id st'
    have ej:((n - 1 - i:Nat):Int) - 1=(n:Int) - 1 - ((i + 1:Nat):Int):=by lia
    exact⟨u,rfl,go_of (s:={ s with heap:=h' }) e c d (by decide) ⟨x,H,I1,ru,⟨rfl,fun ys hy=>by rw[I.list_inj hy hq];exact hx⟩,⟨hil,by rw[←ej];exact st'⟩,fun b hb=>(hf b hb).1⟩⟩
  done:=by
    intro X hP hw hK hc i pins s σ H E I hf st hg
    subst hP hw hK
    obtain⟨f0,f1,f2,f3,f4,f5⟩:=hf it (by simp)
    have e:i=n:=Nat.le_antisymm st.1 hg
    have em:(n:Int) - 1 - ((i:Nat):Int)=-1:=by lia
    exact wpAny_pyNext_rev_end (I.ok.hd hc) (by rw[←em];exact st.2) fun h' eb=>⟨rfl,I.turned (t':=s.toks) (fun b o hb e=>eb b o hb e) f0 f1 f3 f4 f5⟩
  self:=fun _ _ _ _ _ st h=>wpAny_pyIter_revIter st.2 h
def iRev (K:PySem.W.Frag) (ta:TA):TI:=fun σ H R=>ta σ H fun vs H1=>∃a xs,vs=[.ref a]∧SqL K H1 a xs∧R (Itv K a xs.length) H1
theorem pi_rev {tg a:Expr} {ta:TA} {p pos:Pos} (hg:Gl X "reversed") (hm:X.mg "reversed" = none) (ha:PA X [a] ta) (hs:starEach [a] X.env=[(false,eval a X.env)]:=by rfl):PI X tg (.Call (.Name "reversed" p) [a] [] pos) (iRev X.K ta):=by
  intro pins s σ H R I h
  refine Call_ (ld_blt I hg hm bt_reversed2 (PyProof.Rows.callWith_type1 (thn (ha pos pins s σ H _ I h) fun us s1 zz272=>el5 zz272 fun vs H1 I1 r1 q1=>?_) hs rfl))
  obtain⟨a',xs,rfl,hq,q⟩:=q1
  obtain⟨u,rfl,rx⟩:=vals1 r1
  cases rx
  obtain⟨its,rv,pl,hz⟩:=I1.list hq
  have en:((its.toArray.size:Nat):Int) - 1=((xs.length:Nat):Int) - 1:=by rw[List.size_toArray,←rv.length]
  refine call_reversed_list pl.isList ?_
  rw[en]
  have hr:(s1.heap.push (revObj a' ((xs.length:Int) - 1))).IsRevIter s1.heap.objs.size a' ((xs.length:Int) - 1):=⟨_,Heap.get?_push_size _ rfl,rfl,rfl⟩
  refine wpAny_pyIter_revIter (s:={ s1 with heap:=s1.heap.push (revObj a' ((xs.length:Int) - 1)) }) hr ?_
  refine⟨_,[s1.heap.objs.size],_,_,H1,rfl,I1.kept (t':=s1.toks) fun b o e=>Heap.get?_push_of_some _ e,turn_rev a' _ xs.length,⟨Nat.zero_le _,by simpa using hr⟩,fun b hb=>?_,q⟩
  have e:b=s1.heap.objs.size:=by simpa using hb
  subst e
  exact I1.fpOk (Nat.le_refl _) (I1.hok.fresh (Nat.le_refl _))
end
section
variable {X:Cx} {pins:List (Addr×Obj)} {σ:St} {H:Hp} {s:Shared}
end
section
variable {prog:Program} {w:World} {A:Around} {E:Value→Shared→Prop} {s:Shared}
end
section
variable {prog:Program} {w:World} {A:Around} {R:Result→Shared→Prop} {I:Addr} {fp wr:List Addr} {n:Nat} {P:Nat→Value→Prop} {St:Nat→Heap→Prop}
end
section
variable {X:Cx}
end
section
variable {X:Cx} {pins:List (Addr×Obj)} {σ:St} {H:Hp} {s:Shared} {h':Heap}
end
section
variable {X:Cx}
end
section
variable {X:Cx} {tg:Expr}
end
section
variable {prog:Program} {w:World} {A:Around} {R:Result→Shared→Prop} {I:Addr} {fp wr:List Addr} {n:Nat} {P:Nat→Value→Prop} {St:Nat→Heap→Prop}
end
section
variable {X:Cx}
end
section
variable {prog:Program} {w:World} {A:Around} {R:Result→Shared→Prop} {I:Addr} {fp wr:List Addr} {n:Nat} {P:Nat→Value→Prop} {St:Nat→Heap→Prop}
end
section
variable {X:Cx}
end
end L2
namespace My
open PySem L2
def Hd (H:Hp) (a l:Addr):Prop:=∃(ns:List Int) (p b c u v:Int),H l=some (.lst (ns.map V.int))∧0≤p∧H a=some (.lst [.ref l,.int p,.int b,.int c,.int u,.int v])
def Kp (a:Addr) (H H':Hp):Prop:=∀b o,H b=some o→b≠a→H' b=some o
theorem Kp.refl (a:Addr) (H:Hp):Kp a H H:=fun _ _ e _=>e
theorem Kp.trans {a:Addr} {H H1 H2:Hp} (x:Kp a H H1) (y:Kp a H1 H2):Kp a H H2:=fun b o e n=>y b o (x b o e n) n
theorem ne_hand {H:Hp} {a l:Addr} {ns:List Int} {xs:List V} (hl:H l=some (.lst (ns.map V.int))) (ha:H a=some (.lst (.ref l::xs))):l≠a:=ne_of hl ha (by
  intro e
  injection e with e
  cases ns with
  | nil=>cases e
  | cons n r=>injection e with e1;cases e1)
theorem Hd.at1 {H:Hp} {a l:Addr} (h:Hd H a l):∃o,H a=some o:=let ⟨_,_,_,_,_,_,_,_,e⟩:=h;⟨_,e⟩
theorem Hd.at2 {H:Hp} {a l:Addr} (h:Hd H a l):∃o,H l=some o:=let ⟨_,_,_,_,_,_,e,_⟩:=h;⟨_,e⟩
theorem Hd.ne {H:Hp} {a l p:Addr} (h:Hd H a l) (hp:H p=none):p≠a∧p≠l:=by
  obtain⟨o,e⟩:=h.at1
  obtain⟨o',e'⟩:=h.at2
  exact⟨(ne_of_none e hp).symm,(ne_of_none e' hp).symm⟩
theorem Hd.wr {H:Hp} {a l p:Addr} {o:HO} (h:Hd H a l) (n1:p≠a) (n2:p≠l):Hd (upd H p o) a l:=by
  obtain⟨ns,q,b,c,u,v,h1,h2,h3⟩:=h
  exact⟨ns,q,b,c,u,v,by rw[upd_ne n2.symm];exact h1,h2,by rw[upd_ne n1.symm];exact h3⟩
theorem Hd.lay {H:Hp} {a l p:Addr} {o:HO} (h:Hd H a l) (hp:H p=none):Hd (upd H p o) a l:=h.wr (h.ne hp).1 (h.ne hp).2
theorem _root_.L2.Same.lay {p:Addr} {H H1:Hp} {o:HO} (x:Same H H1) (h:H1 p=none):Same H (upd H1 p o):=fun b u e=>by
  have e1:=x b u e
  rw[upd_ne (ne_of_none e1 h)];exact e1
theorem atI_ints {ns:List Int} {p:Int} (h0:0≤p) (h1:p < (ns.length:Int)):∃z,atI (ns.map V.int) p=some (.int z):=by
  obtain⟨n,rfl⟩:=Int.eq_ofNat_of_zero_le h0
  have hp:n < ns.length:=by lia
  exact⟨ns[n],atI_nat (by rw[List.getElem?_map,List.getElem?_eq_getElem hp];rfl)⟩
def spHand (K:PySem.W.Frag):Sp:=fun vs H Q _=>∃(a:Addr) (ns:List Int),vs=[.ref a]∧SqL K H a (ns.map V.int)∧∀(p l:Addr) (H':Hp),H p=none→H l=none→Hd H' p l→Same H H'→Q (.ref p) H'
def spNext:Sp:=fun vs H Q _=>∃a l,vs=[.ref a]∧Hd H a l∧∀(r:Int) (H':Hp),Hd H' a l→Kp a H H'→Q (.int r) H'
def spTake:Sp:=fun vs H Q _=>∃a l,vs=[.ref a]∧Hd H a l∧∀(H':Hp),Hd H' a l→Kp a H H'→Q .non H'
def spDraw:Sp:=fun vs H Q _=>∃a l m,vs=[.ref a,.int m]∧Hd H a l∧0 < m∧m < 100000000000000000000000000000000000000000000000000000000000000∧∀(r:Int) (H':Hp),0≤r→r < m→Hd H' a l→Kp a H H'→Q (.int r) H'
def dEn (ks:List (List Int)):List (List Key×V):=ks.map fun k=>(k.map Sum.inl,V.bl true)
def dEm (ks:List (List Int×Int)):List (List Key×V):=ks.map fun p=>(p.1.map Sum.inl,V.int p.2)
def keyT (k:List Int):PyData:=.tuple (k.map PyData.int)
inductive DiU:HO→List (PyData×PyData)→Prop
  | t:DiU (.dT []) []
  | k (i j:Int):DiU (.dK [(Sum.inl i,V.int j)]) [(.int i,.int j)]
  | f (o:Obj) (ks:List (List Int)):DiU (.frz o (.dT (dEn ks))) ((.none,.none)::ks.map fun k=>(keyT k,.bool true))
mutual
inductive ThV (F:Addr→Prop) (H:Hp):V→PyData→Prop
  | non:ThV F H .non .none
  | bl (b):ThV F H (.bl b) (.bool b)
  | int (i):ThV F H (.int i) (.int i)
  | str (x):ThV F H (.str x) (.str x)
  | lst {a xs ds}:F a→H a=some (.lst xs)→ThVs F H xs ds→ThV F H (.ref a) (.list ds)
  | tup {a xs ds}:F a→H a=some (.tup xs)→ThVs F H xs ds→ThV F H (.ref a) (.tuple ds)
  | dic {a u kvs}:F a→H a=some u→DiU u kvs→ThV F H (.ref a) (.dict kvs)
inductive ThVs (F:Addr→Prop) (H:Hp):List V→List PyData→Prop
  | nil:ThVs F H [] []
  | cons {x xs d ds}:ThV F H x d→ThVs F H xs ds→ThVs F H (x::xs) (d::ds)
end
mutual
theorem ThV.mv {F G:Addr→Prop} {H H':Hp} (f:∀b o,F b→H b=some o→G b∧H' b=some o):∀{v:V} {d:PyData},ThV F H v d→ThV G H' v d
  | _,_,.non=>.non
  | _,_,.bl b=>.bl b
  | _,_,.int i=>.int i
  | _,_,.str x=>.str x
  | _,_,.lst n e t=>.lst (f _ _ n e).1 (f _ _ n e).2 (ThVs.mv f t)
  | _,_,.tup n e t=>.tup (f _ _ n e).1 (f _ _ n e).2 (ThVs.mv f t)
  | _,_,.dic n e t=>.dic (f _ _ n e).1 (f _ _ n e).2 t
theorem ThVs.mv {F G:Addr→Prop} {H H':Hp} (f:∀b o,F b→H b=some o→G b∧H' b=some o):∀{vs:List V} {ds:List PyData},ThVs F H vs ds→ThVs G H' vs ds
  | _,_,.nil=>.nil
  | _,_,.cons x t=>.cons (ThV.mv f x) (ThVs.mv f t)
end
theorem ThVs.same {F:Addr→Prop} {H H':Hp} {v:List V} {d:List PyData} (t:ThVs F H v d) (s:Same H H'):ThVs F H' v d:=t.mv fun b o z e=>⟨z,s b o e⟩
theorem ThVs.append {F:Addr→Prop} {H:Hp} {xs:List V} {ds:List PyData} {ys:List V} {es:List PyData} (t:ThVs F H xs ds) (y:ThVs F H ys es):ThVs F H (xs++ys) (ds++es):=by
  induction xs generalizing ds with
  | nil=>cases t;exact y
  | cons v xs ih=>
    cases t with
    | cons x t=>exact .cons x (ih t)
theorem ThVs.len {F:Addr→Prop} {H:Hp} {xs:List V} {ds:List PyData} (t:ThVs F H xs ds):xs.length=ds.length:=by
  induction xs generalizing ds with
  | nil=>cases t;rfl
  | cons v xs ih=>
    cases t with
    | cons x t=>rw[List.length_cons,List.length_cons,ih t]
theorem ThVs.get {F:Addr→Prop} {H:Hp}:∀{xs:List V} {ds:List PyData} {i:Nat} {v:V},ThVs F H xs ds→xs[i]?=some v→∃d,ds[i]?=some d∧ThV F H v d
  | _,_,_,_,.nil,e=>by simp at e
  | _,_,0,v,.cons (d:=d) x _,e=>by
    have e':=Option.some.inj e
    subst e'
    exact⟨d,rfl,x⟩
  | _,_,i + 1,v,.cons _ t,e=>ThVs.get (i:=i) t e
theorem ThVs.at {F:Addr→Prop} {H:Hp}:∀{xs:List V} {ds:List PyData} {i:Nat} {d:PyData},ThVs F H xs ds→ds[i]?=some d→∃v,xs[i]?=some v∧ThV F H v d
  | _,_,_,_,.nil,e=>by simp at e
  | _,_,0,d,.cons (x:=v) x _,e=>by
    have e':=Option.some.inj e
    subst e'
    exact⟨v,rfl,x⟩
  | _,_,i + 1,v,.cons _ t,e=>ThVs.at (i:=i) t e
mutual
theorem ThV.dat {K:PySem.W.Frag} {F:Addr→Prop} {H:Hp}:∀{v:V} {d:PyData},ThV F H v d→d.canLay0=true→DatV K H v d
  | _,_,.non,_=>.non
  | _,_,.bl b,_=>.bl b
  | _,_,.int i,_=>.int i
  | _,_,.str x,_=>.str x
  | _,_,.lst _ e t,h=>.lst (SqL.of e) (ThVs.dat t (by rw[PyData.canLay0] at h;exact h))
  | _,_,.tup _ e t,h=>.tup (SqT.of e) (ThVs.dat t (by rw[PyData.canLay0] at h;exact h))
  | _,_,.dic _ _ _,h=>by rw[PyData.canLay0] at h;cases h
theorem ThVs.dat {K:PySem.W.Frag} {F:Addr→Prop} {H:Hp}:∀{vs:List V} {ds:List PyData},ThVs F H vs ds→PyData.canLayAll0 ds=true→DatVs K H vs ds
  | _,_,.nil,_=>.nil
  | _,_,.cons x t,h=>by
    rw[PyData.canLayAll0,Bool.and_eq_true] at h
    exact .cons (ThV.dat x h.1) (ThVs.dat t h.2)
end
structure DC where
  F:Addr→Prop
  hand:Option (Addr×Addr)
  H0:Hp
def Kq (h:Option (Addr×Addr)) (H H':Hp):Prop:=∀b o,H b=some o→(∀q,h=some q→b≠q.1)→H' b=some o
def Hq (h:Option (Addr×Addr)) (H:Hp):Prop:=∀q,h=some q→Hd H q.1 q.2
section
variable {h:Option (Addr×Addr)} {H H1 H2 H':Hp} {p:Addr} {o:HO}
theorem Kq.refl:Kq h H H:=fun _ _ e _=>e
theorem Kq.trans (a:Kq h H H1) (b:Kq h H1 H2):Kq h H H2:=fun c o e n=>b c o (a c o e n) n
theorem Kq.same (s:Same H H'):Kq h H H':=fun b o e _=>s b o e
theorem Kq.fr {b:Addr} (k:Kq h H H') (q:Hq h H') (e:H' b=none):H b=none:=by
  cases z:H b with
  | none=>rfl
  | some o=>
    by_cases c:∀p,h=some p→b≠p.1
    · rw[k b o z c] at e;cases e
    · refine absurd (fun p hp hb=>?_) c
      obtain⟨o',e'⟩:=(q p hp).at1
      rw[hb,e'] at e;cases e
theorem Kq.lay (hp:H p=none):Kq h H (upd H p o):=Kq.same ((Same.refl H).lay hp)
theorem Hq.lay (q:Hq h H) (hp:H p=none):Hq h (upd H p o):=fun z hz=>(q z hz).lay hp
end
inductive Rws (G F:Addr→Prop) (H:Hp):List Addr→List (List PyData)→Prop
  | nil:Rws G F H [] []
  | cons {b vs as ds dss}:G b→H b=some (.lst vs)→ThVs F H vs ds→Rws G F H as dss→Rws G F H (b::as) (ds::dss)
theorem Rws.mv {G F G' F':Addr→Prop} {H H':Hp} {as:List Addr} {dss:List (List PyData)} (t:Rws G F H as dss) (f:∀b o,F b→H b=some o→F' b∧H' b=some o) (g:∀b o,G b→H b=some o→G' b∧H' b=some o):Rws G' F' H' as dss:=by
  induction t with
  | nil=>exact .nil
  | cons x e y _ ih=>exact .cons (g _ _ x e).1 (g _ _ x e).2 (y.mv f) ih
theorem Rws.mvl {G F G' F':Addr→Prop} {H H':Hp} {as:List Addr} {dss:List (List PyData)} (t:Rws G F H as dss) (f:∀b o,F b→H b=some o→F' b∧H' b=some o) (g:∀b ys,G b→H b=some (.lst ys)→G' b∧H' b=some (.lst ys)):Rws G' F' H' as dss:=by
  induction t with
  | nil=>exact .nil
  | cons x e y _ ih=>exact .cons (g _ _ x e).1 (g _ _ x e).2 (y.mv f) ih
def DiAt (H:Hp) (a:Addr) (ks:List (List Int)):Bool→Prop
  | false=>H a=some (.dT (dEn ks))
  | true=>∃o,H a=some (.frz o (.dT (dEn ks)))
theorem DiAt.mv {H H':Hp} {a:Addr} {ks:List (List Int)} {f:Bool} (h:DiAt H a ks f) (k:∀o,H a=some o→H' a=some o):DiAt H' a ks f:=by
  cases f with
  | false=>exact k _ h
  | true=>obtain⟨o,h⟩:=h;exact⟨o,k _ h⟩
theorem DiAt.ne {H:Hp} {a:Addr} {ks:List (List Int)} {f:Bool} (h:DiAt H a ks f):H a≠none:=by
  cases f with
  | false=>exact fun q=>by rw[show H a=_ from h] at q;cases q
  | true=>obtain⟨o,h⟩:=h;exact fun q=>by rw[h] at q;cases q
def DmAt (H:Hp) (a:Addr) (ks:List (List Int×Int)):Bool→Prop
  | false=>H a=some (.dT (dEm ks))
  | true=>∃o,H a=some (.frz o (.dT (dEm ks)))
theorem DmAt.mv {H H':Hp} {a:Addr} {ks:List (List Int×Int)} {f:Bool} (h:DmAt H a ks f) (k:∀o,H a=some o→H' a=some o):DmAt H' a ks f:=by
  cases f with
  | false=>exact k _ h
  | true=>obtain⟨o,h⟩:=h;exact⟨o,k _ h⟩
theorem DmAt.ne {H:Hp} {a:Addr} {ks:List (List Int×Int)} {f:Bool} (h:DmAt H a ks f):H a≠none:=by
  cases f with
  | false=>exact fun q=>by rw[show H a=_ from h] at q;cases q
  | true=>obtain⟨o,h⟩:=h;exact fun q=>by rw[h] at q;cases q
structure ORel where
  p:(Addr→Prop)→Hp→V→Prop
  mv:∀{W W':Addr→Prop} {H H':Hp} {v:V},(∀b o,W b→H b=some o→W' b∧H' b=some o)→p W H v→p W' H' v
inductive Sl where
  | no
  | sh (d:PyData)
  | ow (ds:List PyData)
  | bo (ds:List PyData)
  | hd
  | o2 (dss:List (List PyData))
  | b2 (dss:List (List PyData))
  | di (f:Bool) (ks:List (List Int))
  | dm (f:Bool) (kvs:List (List Int×Int))
  | bd (d:PyData)
  | ot (d:PyData)
  | ob (R:ORel)
abbrev Z (col:Addr→Nat):Addr→Prop:=fun b=>col b=0
abbrev Le (C:DC):Addr→Prop:=fun b=>C.H0 b≠none∧∀q,C.hand=some q→b≠q.1
abbrev Ow (C:DC) (col:Addr→Nat) (H:Hp) (i:Nat):Addr→Prop:=fun b=>(col b=2 * i + 3∧C.H0 b=none)∨(col b=0∧∃xs,H b=some (.tup xs))
def SlR (C:DC) (col:Addr→Nat) (H:Hp) (i:Nat) (o:Option V):Sl→Prop
  | .no=>True
  | .sh d=>∃v,o=some v∧ThV (Z col) H v d
  | .ow ds=>∃a vs,o=some (.ref a)∧col a=2 * i + 3∧C.H0 a=none∧H a=some (.lst vs)∧ThVs (Z col) H vs ds
  | .bo ds=>∃a vs,o=some (.ref a)∧col a≤1∧(∀q,C.hand=some q→a≠q.1)∧H a=some (.lst vs)∧ThVs (Z col) H vs ds
  | .hd=>∃q,C.hand=some q∧o=some (.ref q.1)
  | .o2 dss=>∃a as,o=some (.ref a)∧(col a=2 * i + 3∧C.H0 a=none)∧H a=some (.lst (as.map V.ref))∧(a::as).Nodup∧Rws (fun b=>col b=2 * i + 3∧C.H0 b=none) (Z col) H as dss
  | .b2 dss=>∃a as,o=some (.ref a)∧(col a≤1∧∀q,C.hand=some q→a≠q.1)∧H a=some (.lst (as.map V.ref))∧Rws (fun b=>col b≤1∧∀q,C.hand=some q→b≠q.1) (Z col) H as dss
  | .di f ks=>∃a,o=some (.ref a)∧col a=2 * i + 3∧C.H0 a=none∧DiAt H a ks f
  | .dm f ks=>∃a,o=some (.ref a)∧col a=2 * i + 3∧C.H0 a=none∧DmAt H a ks f
  | .bd d=>∃v,o=some v∧ThV (Le C) C.H0 v d
  | .ot d=>∃v,o=some v∧ThV (Ow C col H i) H v d
  | .ob R=>∃v,o=some v∧R.p (Ow C col H i) H v
inductive Pe where
  | v (v:V) (d:PyData)
  | n (a:Addr) (o:HO)
  | s (vs:List V) (ds:List PyData)
  | o (c:Nat) (as:List Addr) (dss:List (List PyData))
  | w (v:V) (d:PyData)
def PeR (C:DC) (col:Addr→Nat) (H:Hp):Pe→Prop
  | .v v d=>ThV (Z col) H v d
  | .n a o=>col a≤1∧(∀q,C.hand=some q→a≠q.1)∧H a=some o
  | .s vs ds=>ThVs (Z col) H vs ds
  | .o c as dss=>as.Nodup∧Rws (fun b=>col b=2 * c + 2∧C.H0 b=none) (Z col) H as dss
  | .w v d=>ThV (Le C) C.H0 v d
structure RelC (C:DC) (col:Addr→Nat) (ρ:List Sl) (σ:St) (P:List Pe) (H:Hp):Prop where
  fresh:∀b,H b=none→col b=0
  inF:∀b,col b=0→C.F b
  hnd:∀q,C.hand=some q→col q.1=1
  sl:∀i s,ρ[i]?=some s→SlR C col H i (σ[i]?).join s
  pd:∀p∈P,PeR C col H p
  kq:Kq C.hand C.H0 H
  hq:Hq C.hand H
  hq0:Hq C.hand C.H0
  nf:(∀b,C.H0 b=none→C.F b)∧∀b xs,C.H0 b=some (.tup xs)→C.F b
  len:ρ.length=σ.length
def Rel (C:DC) (ρ:List Sl) (σ:St) (P:List Pe) (H:Hp):Prop:=∃col,RelC C col ρ σ P H
section
variable {C:DC} {col col':Addr→Nat} {ρ:List Sl} {σ:St} {P P':List Pe} {H H':Hp} {v:V} {d:PyData} {o:HO} {p:Addr}
theorem RelC.notH (r:RelC C col ρ σ P H) {b:Addr} (hb:col b≠1):∀q,C.hand=some q→b≠q.1:=fun q hq e=>hb (e▸r.hnd q hq)
theorem RelC.mv (r:RelC C col ρ σ P H) (k:Kq C.hand H H') (q:Hq C.hand H'):RelC C col ρ σ P H':=by
  have mv0:∀b o,Z col b→H b=some o→Z col b∧H' b=some o:=fun b o z e=>⟨z,k b o e (r.notH (by rw[show col b=0 from z];decide))⟩
  refine⟨fun b e=>r.fresh b (k.fr q e),r.inF,r.hnd,fun i s e=>?_,fun p hp=>?_,r.kq.trans k,q,r.hq0,r.nf,r.len⟩
  · have h:=r.sl i s e
    cases s with
    | no=>trivial
    | sh d=>obtain⟨v,e1,t⟩:=h;exact⟨v,e1,t.mv mv0⟩
    | ow ds=>obtain⟨a,vs,e1,c,n,e2,t⟩:=h;exact⟨a,vs,e1,c,n,k a _ e2 (r.notH (by lia)),t.mv mv0⟩
    | bo ds=>obtain⟨a,vs,e1,c,n,e2,t⟩:=h;exact⟨a,vs,e1,c,n,k a _ e2 n,t.mv mv0⟩
    | hd=>exact h
    | o2 dss=>obtain⟨a,as,e1,c,e2,nd,t⟩:=h;exact⟨a,as,e1,c,k a _ e2 (r.notH (by lia)),nd,t.mv mv0 fun b o g e=>⟨g,k b o e (r.notH (by have:=g.1;lia))⟩⟩
    | b2 dss=>obtain⟨a,as,e1,c,e2,t⟩:=h;exact⟨a,as,e1,c,k a _ e2 c.2,t.mv mv0 fun b o g e=>⟨g,k b o e g.2⟩⟩
    | di f ks=>obtain⟨a,e1,c,n,e2⟩:=h;exact⟨a,e1,c,n,e2.mv fun o e=>k a o e (r.notH (by lia))⟩
    | dm f ks=>obtain⟨a,e1,c,n,e2⟩:=h;exact⟨a,e1,c,n,e2.mv fun o e=>k a o e (r.notH (by lia))⟩
    | bd d=>exact h
    | ot d=>
      obtain⟨v,e1,t⟩:=h
      refine⟨v,e1,t.mv fun b o g e=>?_⟩
      have e':H' b=some o:=k b o e (r.notH (by rcases g with g | g <;> (have:=g.1;lia)))
      exact⟨g.imp id fun ⟨c,xs,z⟩=>⟨c,xs,by rw[e] at z;rw[e'];exact z⟩,e'⟩
    | ob R=>
      obtain⟨v,e1,t⟩:=h
      refine⟨v,e1,R.mv (fun b o g e=>?_) t⟩
      have e':H' b=some o:=k b o e (r.notH (by rcases g with g | g <;> (have:=g.1;lia)))
      exact⟨g.imp id fun ⟨c,xs,z⟩=>⟨c,xs,by rw[e] at z;rw[e'];exact z⟩,e'⟩
  · have h:=r.pd p hp
    cases p with
    | v v d=>exact ThV.mv mv0 h
    | n a o=>exact⟨h.1,h.2.1,k a o h.2.2 h.2.1⟩
    | s vs ds=>exact ThVs.mv mv0 h
    | o c as dss=>exact⟨h.1,h.2.mv mv0 fun b o g e=>⟨g,k b o e (r.notH (by have:=g.1;lia))⟩⟩
    | w v d=>exact h
theorem RelC.lay (r:RelC C col ρ σ P H) (hp:H p=none):RelC C col ρ σ P (upd H p o):=r.mv (Kq.lay hp) (r.hq.lay hp)
theorem RelC.add (r:RelC C col ρ σ P H) {x:Pe} (t:PeR C col H x):RelC C col ρ σ (x::P) H:=
  { r with pd:=fun p hp=>(List.mem_cons.mp hp).elim (fun e=>e▸t) (r.pd p) }
theorem RelC.push (r:RelC C col ρ σ P H) (t:ThV (Z col) H v d):RelC C col ρ σ (.v v d::P) H:=r.add t
theorem RelC.sub (r:RelC C col ρ σ P H) (h:∀p∈P',p∈P):RelC C col ρ σ P' H:={ r with pd:=fun p hp=>r.pd p (h p hp) }
theorem Rel.sub (r:Rel C ρ σ P H) (h:∀p∈P',p∈P):Rel C ρ σ P' H:=let ⟨c,r⟩:=r;⟨c,r.sub h⟩
theorem Rel.pop {x:Pe} (r:Rel C ρ σ (x::P) H):Rel C ρ σ P H:=r.sub fun _ h=>List.mem_cons_of_mem _ h
theorem RelC.tup {vs:List V} {ds:List PyData} (r:RelC C col ρ σ P H) (t:ThVs (Z col) H vs ds) (hp:H p=none):RelC C col ρ σ (.v (.ref p) (.tuple ds)::P) (upd H p (.tup vs)):=
  (r.lay hp).push (.tup (r.fresh p hp) upd_same (t.same ((Same.refl H).lay hp)))
theorem RelC.lst {vs:List V} {ds:List PyData} (r:RelC C col ρ σ P H) (t:ThVs (Z col) H vs ds) (hp:H p=none):RelC C col ρ σ (.v (.ref p) (.list ds)::P) (upd H p (.lst vs)):=
  (r.lay hp).push (.lst (r.fresh p hp) upd_same (t.same ((Same.refl H).lay hp)))
theorem RelC.recol (r:RelC C col ρ σ P H) {ρ':List Sl} {σ':St} (hl:ρ'.length=σ'.length) (f:∀b,H b=none→col' b=0) (i:∀b,col' b=0→C.F b) (n:∀q,C.hand=some q→col' q.1=1) (z:∀b,col b=0→H b≠none→col' b=0)
    (lo:∀b,col b≤1→H b≠none→col' b≤1) (c2:∀b c,col b=2 * c + 2→col' b=2 * c + 2) (s:∀i s,ρ'[i]?=some s→SlR C col' H i (σ'[i]?).join s):RelC C col' ρ' σ' P H:=by
  have mv0:∀b o,Z col b→H b=some o→Z col' b∧H b=some o:=fun b o zz e=>⟨z b zz (by rw[e];exact fun q=>nomatch q),e⟩
  refine⟨f,i,n,s,fun p hp=>?_,r.kq,r.hq,r.hq0,r.nf,hl⟩
  have h:=r.pd p hp
  cases p with
  | v v d=>exact ThV.mv mv0 h
  | n a o=>exact⟨lo a h.1 (by rw[h.2.2];exact fun q=>nomatch q),h.2⟩
  | s vs ds=>exact ThVs.mv mv0 h
  | o c as dss=>exact⟨h.1,h.2.mv mv0 fun b o g e=>⟨⟨c2 b c g.1,g.2⟩,e⟩⟩
  | w v d=>exact h
theorem RelC.freeze {i:Nat} {ds:List PyData} (r:RelC C col ρ σ P H) (e:ρ[i]?=some (.ow ds)) :
    ∃a,(σ[i]?).join=some (.ref a)∧Rel C (ρ.set i (.sh (.list ds))) σ (.v (.ref a) (.list ds)::P) H:=by
  obtain⟨a,vs,e1,c,n,e2,t⟩:=r.sl i _ e
  let col':Addr→Nat:=fun b=>if b=a then 0 else col b
  have ca:col' a=0:=if_pos rfl
  have cn:∀b,b≠a→col' b=col b:=fun b hb=>if_neg hb
  have z:∀b,col b=0→col' b=0:=fun b hb=>by
    by_cases q:b=a
    · rw[q];exact ca
    · rw[cn b q];exact hb
  have mv0:∀b o,Z col b→H b=some o→Z col' b∧H b=some o:=fun b o zz e=>⟨z b zz,e⟩
  have T:ThV (Z col') H (.ref a) (.list ds):=.lst ca e2 (t.mv mv0)
  have R:RelC C col' (ρ.set i (.sh (.list ds))) σ P H:=by
    refine r.recol (by rw[List.length_set];exact r.len) (fun b hb=>z b (r.fresh b hb)) (fun b hb=>?_) (fun q hq=>?_) (fun b hb _=>z b hb) (fun b hb _=>?_) (fun b c2 hb=>by rw[cn b (fun q=>by rw[q] at hb;lia)];exact hb) fun j s es=>?_
    · by_cases q:b=a
      · rw[q];exact r.nf.1 a n
      · rw[cn b q] at hb;exact r.inF b hb
    · rw[cn _ fun q'=>by have:=r.hnd q hq;rw[q'] at this;lia];exact r.hnd q hq
    · by_cases q:b=a
      · rw[q,ca];lia
      · rw[cn b q];exact hb
    · by_cases hj:j=i
      · subst hj
        rw[List.getElem?_set] at es
        simp only[if_true] at es
        split at es
        · cases es;exact⟨_,e1,T⟩
        · cases es
      · rw[List.getElem?_set_ne (Ne.symm hj)] at es
        have h:=r.sl j s es
        cases s with
        | no=>trivial
        | sh d=>obtain⟨v,e1,t⟩:=h;exact⟨v,e1,t.mv mv0⟩
        | ow ds=>obtain⟨a',vs',e1',c',n',e2',t'⟩:=h;exact⟨a',vs',e1',by rw[cn a' (fun q=>by rw[q] at c';lia)];exact c',n',e2',t'.mv mv0⟩
        | bo ds=>obtain⟨a',vs',e1',c',n',e2',t'⟩:=h;exact⟨a',vs',e1',by by_cases q:a'=a;{ rw[q,ca];lia };{ rw[cn a' q];exact c' },n',e2',t'.mv mv0⟩
        | hd=>exact h
        | o2 dss=>obtain⟨a',as',e1',c',e2',nd',t'⟩:=h;exact⟨a',as',e1',⟨by rw[cn a' (fun q=>by rw[q] at c';lia)];exact c'.1,c'.2⟩,e2',nd',t'.mv mv0 fun b o g e=>⟨⟨by rw[cn b (fun q=>by have:=g.1;rw[q] at this;lia)];exact g.1,g.2⟩,e⟩⟩
        | b2 dss=>obtain⟨a',as',e1',c',e2',t'⟩:=h;exact⟨a',as',e1',⟨by by_cases q:a'=a;{ rw[q,ca];lia };{ rw[cn a' q];exact c'.1 },c'.2⟩,e2',t'.mv mv0 fun b o g e=>⟨⟨by by_cases q:b=a;{ rw[q,ca];lia };{ rw[cn b q];exact g.1 },g.2⟩,e⟩⟩
        | di f ks=>obtain⟨a',e1',c',n',e2'⟩:=h;exact⟨a',e1',by rw[cn a' (fun q=>by rw[q] at c';lia)];exact c',n',e2'⟩
        | dm f ks=>obtain⟨a',e1',c',n',e2'⟩:=h;exact⟨a',e1',by rw[cn a' (fun q=>by rw[q] at c';lia)];exact c',n',e2'⟩
        | bd d=>exact h
        | ot d=>obtain⟨v,e1',t'⟩:=h;exact⟨v,e1',t'.mv fun b o g e=>⟨g.imp (fun g=>⟨by rw[cn b (fun q=>by rw[q] at g;have:=g.1;lia)];exact g.1,g.2⟩) fun g=>⟨z b g.1,g.2⟩,e⟩⟩
        | ob R=>obtain⟨v,e1',t'⟩:=h;exact⟨v,e1',R.mv (fun b o g e=>⟨g.imp (fun g=>⟨by rw[cn b (fun q=>by rw[q] at g;have:=g.1;lia)];exact g.1,g.2⟩) fun g=>⟨z b g.1,g.2⟩,e⟩) t'⟩
  exact⟨a,e1,col',R.push T⟩
theorem RelC.store {i:Nat} (r:RelC C col ρ σ P H) (t:ThV (Z col) H v d):RelC C col (ρ.set i (.sh d)) (σ.set i (some v)) P H:=by
  refine { r with sl:=fun j s es=>?_,len:=by rw[List.length_set,List.length_set];exact r.len }
  by_cases hj:j=i
  · subst hj
    rw[List.getElem?_set] at es
    simp only[if_true] at es
    split at es
    · rename_i hl
      cases es
      refine⟨v,?_,t⟩
      rw[List.getElem?_set,if_pos rfl,if_pos (by rw[←r.len];exact hl)];rfl
    · cases es
  · rw[List.getElem?_set_ne (Ne.symm hj)] at es
    rw[List.getElem?_set_ne (Ne.symm hj)]
    exact r.sl j s es
theorem RelC.own {i:Nat} {vs:List V} {ds:List PyData} (r:RelC C col ρ σ P H) (t:ThVs (Z col) H vs ds) (hp:H p=none):Rel C (ρ.set i (.ow ds)) (σ.set i (some (.ref p))) P (upd H p (.lst vs)):=by
  let col':Addr→Nat:=fun b=>if b=p then 2 * i + 3 else col b
  have ca:col' p=2 * i + 3:=if_pos rfl
  have cn:∀b,b≠p→col' b=col b:=fun b hb=>if_neg hb
  have ne:∀b,H b≠none→b≠p:=fun b hb q=>hb (q▸hp)
  have mv0:∀b o,Z col b→H b=some o→Z col' b∧upd H p (.lst vs) b=some o:=fun b o zz e=>by
    have q:=ne b (by rw[e];exact fun q=>nomatch q)
    exact⟨(cn b q).trans zz,by rw[upd_ne q];exact e⟩
  have r1:=r.lay (o:=.lst vs) hp
  have c0:C.H0 p=none:=r.kq.fr r.hq hp
  refine⟨col',fun b hb=>?_,fun b hb=>?_,fun q hq=>?_,fun j s es=>?_,fun x hx=>?_,r1.kq,r1.hq,r.hq0,r.nf,by rw[List.length_set,List.length_set];exact r.len⟩
  · have q:b≠p:=fun q=>by rw[q,upd_same] at hb;cases hb
    rw[cn b q];exact r1.fresh b hb
  · have q:b≠p:=fun q=>by rw[q,ca] at hb;cases hb
    rw[cn b q] at hb;exact r.inF b hb
  · obtain⟨o',e'⟩:=(r.hq q hq).at1
    rw[cn _ (ne _ (by rw[e'];exact fun q=>nomatch q))];exact r.hnd q hq
  · by_cases hj:j=i
    · subst hj
      rw[List.getElem?_set] at es
      simp only[if_true] at es
      split at es
      · rename_i hl
        cases es
        exact⟨p,vs,by rw[List.getElem?_set,if_pos rfl,if_pos (by rw[←r.len];exact hl)];rfl,ca,c0,upd_same,t.mv mv0⟩
      · cases es
    · rw[List.getElem?_set_ne (Ne.symm hj)] at es
      rw[List.getElem?_set_ne (Ne.symm hj)]
      have h:=r.sl j s es
      cases s with
      | no=>trivial
      | sh d=>obtain⟨v,e1,t⟩:=h;exact⟨v,e1,t.mv mv0⟩
      | ow ds=>
        obtain⟨a',vs',e1',c',n',e2',t'⟩:=h
        have q:=ne a' (by rw[e2'];exact fun q=>nomatch q)
        exact⟨a',vs',e1',by rw[cn a' q];exact c',n',by rw[upd_ne q];exact e2',t'.mv mv0⟩
      | bo ds=>
        obtain⟨a',vs',e1',c',n',e2',t'⟩:=h
        have q:=ne a' (by rw[e2'];exact fun q=>nomatch q)
        exact⟨a',vs',e1',by rw[cn a' q];exact c',n',by rw[upd_ne q];exact e2',t'.mv mv0⟩
      | hd=>exact h
      | o2 dss=>
        obtain⟨a',as',e1',c',e2',nd',t'⟩:=h
        have q:=ne a' (by rw[e2'];exact fun q=>nomatch q)
        exact⟨a',as',e1',⟨by rw[cn a' q];exact c'.1,c'.2⟩,by rw[upd_ne q];exact e2',nd',t'.mv mv0 fun b o g e=>by
          have q:=ne b (by rw[e];exact fun q=>nomatch q)
          exact⟨⟨by rw[cn b q];exact g.1,g.2⟩,by rw[upd_ne q];exact e⟩⟩
      | b2 dss=>
        obtain⟨a',as',e1',c',e2',t'⟩:=h
        have q:=ne a' (by rw[e2'];exact fun q=>nomatch q)
        exact⟨a',as',e1',⟨by rw[cn a' q];exact c'.1,c'.2⟩,by rw[upd_ne q];exact e2',t'.mv mv0 fun b o g e=>by
          have q:=ne b (by rw[e];exact fun q=>nomatch q)
          exact⟨⟨by rw[cn b q];exact g.1,g.2⟩,by rw[upd_ne q];exact e⟩⟩
      | di f ks=>
        obtain⟨a',e1',c',n',e2'⟩:=h
        have q:=ne a' e2'.ne
        exact⟨a',e1',by rw[cn a' q];exact c',n',e2'.mv fun o e=>by rw[upd_ne q];exact e⟩
      | dm f ks=>
        obtain⟨a',e1',c',n',e2'⟩:=h
        have q:=ne a' e2'.ne
        exact⟨a',e1',by rw[cn a' q];exact c',n',e2'.mv fun o e=>by rw[upd_ne q];exact e⟩
      | bd d=>exact h
      | ot d=>
        obtain⟨v,e1',t'⟩:=h
        exact⟨v,e1',t'.mv fun b o g e=>by
          have q:=ne b (by rw[e];exact fun q=>nomatch q)
          exact⟨g.imp (fun g=>⟨by rw[cn b q];exact g.1,g.2⟩) fun g=>⟨by rw[cn b q];exact g.1,by rw[upd_ne q];exact g.2⟩,by rw[upd_ne q];exact e⟩⟩
      | ob R=>
        obtain⟨v,e1',t'⟩:=h
        exact⟨v,e1',R.mv (fun b o g e=>by
          have q:=ne b (by rw[e];exact fun q=>nomatch q)
          exact⟨g.imp (fun g=>⟨by rw[cn b q];exact g.1,g.2⟩) fun g=>⟨by rw[cn b q];exact g.1,by rw[upd_ne q];exact g.2⟩,by rw[upd_ne q];exact e⟩) t'⟩
  · have h:=r.pd x hx
    cases x with
    | v v d=>exact ThV.mv mv0 h
    | n a o=>
      have q:=ne a (by rw[h.2.2];exact fun q=>nomatch q)
      exact⟨by rw[cn a q];exact h.1,h.2.1,by rw[upd_ne q];exact h.2.2⟩
    | s vs ds=>exact ThVs.mv mv0 h
    | o c as dss=>exact⟨h.1,h.2.mv mv0 fun b o g e=>by
        have q:=ne b (by rw[e];exact fun q=>nomatch q)
        exact⟨⟨by rw[cn b q];exact g.1,g.2⟩,by rw[upd_ne q];exact e⟩⟩
    | w v d=>exact h
theorem RelC.write {i:Nat} {a:Addr} {ws:List V} {ds es:List PyData} (r:RelC C col ρ σ P H) (e:ρ[i]?=some (.ow ds)) (ea:(σ[i]?).join=some (.ref a)) (t:ThVs (Z col) H ws es) :
    RelC C col (ρ.set i (.ow es)) σ P (upd H a (.lst ws)):=by
  obtain⟨a',vs',e1,c,n,e2,_⟩:=r.sl i _ e
  rw[e1] at ea
  cases ea
  have ne:∀b,col b≠2 * i + 3→b≠a:=fun b hb q=>hb (q▸c)
  have mv0:∀b o,Z col b→H b=some o→Z col b∧upd H a (.lst ws) b=some o:=fun b o zz e=>⟨zz,by rw[upd_ne (ne b (by rw[show col b=0 from zz];lia))];exact e⟩
  refine⟨fun b hb=>?_,r.inF,r.hnd,fun j s es'=>?_,fun x hx=>?_,fun b o e q=>?_,fun q hq=>?_,r.hq0,r.nf,by rw[List.length_set];exact r.len⟩
  · by_cases q:b=a
    · rw[q,upd_same] at hb;cases hb
    · rw[upd_ne q] at hb;exact r.fresh b hb
  · by_cases hj:j=i
    · subst hj
      rw[List.getElem?_set] at es'
      simp only[if_true] at es'
      split at es'
      · cases es'
        exact⟨a,ws,e1,c,n,upd_same,t.mv mv0⟩
      · cases es'
    · rw[List.getElem?_set_ne (Ne.symm hj)] at es'
      have h:=r.sl j s es'
      cases s with
      | no=>trivial
      | sh d=>obtain⟨v,e1,t⟩:=h;exact⟨v,e1,t.mv mv0⟩
      | ow ds=>
        obtain⟨a',vs',e1',c',n',e2',t'⟩:=h
        exact⟨a',vs',e1',c',n',by rw[upd_ne (ne a' (by lia))];exact e2',t'.mv mv0⟩
      | bo ds=>
        obtain⟨a',vs',e1',c',n',e2',t'⟩:=h
        exact⟨a',vs',e1',c',n',by rw[upd_ne (ne a' (by lia))];exact e2',t'.mv mv0⟩
      | hd=>exact h
      | o2 dss=>
        obtain⟨a',as',e1',c',e2',nd',t'⟩:=h
        exact⟨a',as',e1',c',by rw[upd_ne (ne a' (by lia))];exact e2',nd',t'.mv mv0 fun b o g e=>⟨g,by rw[upd_ne (ne b (by have:=g.1;lia))];exact e⟩⟩
      | b2 dss=>
        obtain⟨a',as',e1',c',e2',t'⟩:=h
        exact⟨a',as',e1',c',by rw[upd_ne (ne a' (by have:=c'.1;lia))];exact e2',t'.mv mv0 fun b o g e=>⟨g,by rw[upd_ne (ne b (by have:=g.1;lia))];exact e⟩⟩
      | di f ks=>
        obtain⟨a',e1',c',n',e2'⟩:=h
        exact⟨a',e1',c',n',e2'.mv fun o e=>by rw[upd_ne (ne a' (by lia))];exact e⟩
      | dm f ks=>
        obtain⟨a',e1',c',n',e2'⟩:=h
        exact⟨a',e1',c',n',e2'.mv fun o e=>by rw[upd_ne (ne a' (by lia))];exact e⟩
      | bd d=>exact h
      | ot d=>
        obtain⟨v,e1',t'⟩:=h
        exact⟨v,e1',t'.mv fun b o g e=>by
          have q:=ne b (by rcases g with g | g <;> (have:=g.1;lia))
          exact⟨g.imp id fun g=>⟨g.1,by rw[upd_ne q];exact g.2⟩,by rw[upd_ne q];exact e⟩⟩
      | ob R=>
        obtain⟨v,e1',t'⟩:=h
        exact⟨v,e1',R.mv (fun b o g e=>by
          have q:=ne b (by rcases g with g | g <;> (have:=g.1;lia))
          exact⟨g.imp id fun g=>⟨g.1,by rw[upd_ne q];exact g.2⟩,by rw[upd_ne q];exact e⟩) t'⟩
  · have h:=r.pd x hx
    cases x with
    | v v d=>exact ThV.mv mv0 h
    | n b o=>exact⟨h.1,h.2.1,by rw[upd_ne (ne b (by have:=h.1;lia))];exact h.2.2⟩
    | s vs ds=>exact ThVs.mv mv0 h
    | o c as dss=>exact⟨h.1,h.2.mv mv0 fun b o g e=>⟨g,by rw[upd_ne (ne b (by have:=g.1;lia))];exact e⟩⟩
    | w v d=>exact h
  · have z:=r.kq b o e q
    have q':b≠a:=fun q'=>by rw[q',n] at e;cases e
    rw[upd_ne q'];exact z
  · obtain⟨o1,h1⟩:=(r.hq0 q hq).at1
    obtain⟨o2,h2⟩:=(r.hq0 q hq).at2
    exact (r.hq q hq).wr (fun z=>by rw[←z,n] at h1;cases h1) (fun z=>by rw[←z,n] at h2;cases h2)
end
open Classical in
theorem RelC.norm {C:DC} {col:Addr→Nat} {ρ:List Sl} {σ:St} {P:List Pe} {H:Hp} (r:RelC C col ρ σ P H):∃col',RelC C col' ρ σ P H∧∀b xs,H b=some (.tup xs)→col' b=0:=by
  let col':Addr→Nat:=fun b=>if ∃xs,H b=some (.tup xs) then 0 else col b
  have ct:∀b xs,H b=some (.tup xs)→col' b=0:=fun b xs e=>if_pos ⟨xs,e⟩
  have cn:∀b,(∀xs,H b≠some (.tup xs))→col' b=col b:=fun b h=>if_neg fun ⟨xs,e⟩=>h xs e
  have hl:∀b ys,H b=some (.lst ys)→col' b=col b:=fun b ys e=>cn b fun xs z=>by rw[e] at z;cases z
  have hd:∀q,C.hand=some q→∀xs,H q.1≠some (.tup xs):=fun q hq xs z=>by
    obtain⟨_,_,_,_,_,_,_,_,e⟩:=r.hq q hq
    rw[e] at z;cases z
  have z0:∀b,col b=0→col' b=0:=fun b hb=>by
    by_cases h:∃xs,H b=some (.tup xs)
    · exact if_pos h
    · exact (if_neg h).trans hb
  have lo:∀b,col b≤1→col' b≤1:=fun b hb=>by
    by_cases h:∃xs,H b=some (.tup xs)
    · rw[show col' b=0 from if_pos h];lia
    · rw[show col' b=col b from if_neg h];exact hb
  have mv0:∀b o,Z col b→H b=some o→Z col' b∧H b=some o:=fun b o zz e=>⟨z0 b zz,e⟩
  refine⟨col',⟨fun b e=>z0 b (r.fresh b e),fun b hb=>?_,fun q hq=>(cn _ (hd q hq)).trans (r.hnd q hq),fun i s e=>?_,fun p hp=>?_,r.kq,r.hq,r.hq0,r.nf,r.len⟩,ct⟩
  · by_cases h:∃xs,H b=some (.tup xs)
    · obtain⟨xs,h⟩:=h
      cases q:C.H0 b with
      | none=>exact r.nf.1 b q
      | some o=>
        have:=r.kq b o q fun p hp e=>hd p hp xs (e▸h)
        rw[this] at h
        cases h
        exact r.nf.2 b xs q
    · rw[show col' b=col b from if_neg h] at hb;exact r.inF b hb
  · have h:=r.sl i s e
    cases s with
    | no=>trivial
    | sh d=>obtain⟨v,e1,t⟩:=h;exact⟨v,e1,t.mv mv0⟩
    | ow ds=>obtain⟨a,vs,e1,c,n,e2,t⟩:=h;exact⟨a,vs,e1,(hl a _ e2).trans c,n,e2,t.mv mv0⟩
    | bo ds=>obtain⟨a,vs,e1,c,n,e2,t⟩:=h;exact⟨a,vs,e1,lo a c,n,e2,t.mv mv0⟩
    | hd=>exact h
    | o2 dss=>obtain⟨a,as,e1,c,e2,nd,t⟩:=h;exact⟨a,as,e1,⟨(hl a _ e2).trans c.1,c.2⟩,e2,nd,t.mvl mv0 fun b ys g e=>⟨⟨(hl b _ e).trans g.1,g.2⟩,e⟩⟩
    | b2 dss=>obtain⟨a,as,e1,c,e2,t⟩:=h;exact⟨a,as,e1,⟨lo a c.1,c.2⟩,e2,t.mvl mv0 fun b ys g e=>⟨⟨lo b g.1,g.2⟩,e⟩⟩
    | di f ks=>
      obtain⟨a,e1,c,n,e2⟩:=h
      refine⟨a,e1,(cn a fun xs z=>?_).trans c,n,e2⟩
      cases f with
      | false=>rw[show H a=_ from e2] at z;cases z
      | true=>obtain⟨o,e2⟩:=e2;rw[e2] at z;cases z
    | dm f ks=>
      obtain⟨a,e1,c,n,e2⟩:=h
      refine⟨a,e1,(cn a fun xs z=>?_).trans c,n,e2⟩
      cases f with
      | false=>rw[show H a=_ from e2] at z;cases z
      | true=>obtain⟨o,e2⟩:=e2;rw[e2] at z;cases z
    | bd d=>exact h
    | ot d=>
      obtain⟨v,e1,t⟩:=h
      refine⟨v,e1,t.mv fun b o g e=>⟨?_,e⟩⟩
      by_cases q:∃xs,H b=some (.tup xs)
      · obtain⟨xs,q⟩:=q
        exact .inr ⟨ct b xs q,xs,q⟩
      · rcases g with g | g
        · exact .inl ⟨(if_neg q).trans g.1,g.2⟩
        · exact absurd g.2 q
    | ob R=>
      obtain⟨v,e1,t⟩:=h
      refine⟨v,e1,R.mv (fun b o g e=>⟨?_,e⟩) t⟩
      by_cases q:∃xs,H b=some (.tup xs)
      · obtain⟨xs,q⟩:=q
        exact .inr ⟨ct b xs q,xs,q⟩
      · rcases g with g | g
        · exact .inl ⟨(if_neg q).trans g.1,g.2⟩
        · exact absurd g.2 q
  · have h:=r.pd p hp
    cases p with
    | v v d=>exact ThV.mv mv0 h
    | n a o=>exact⟨lo a h.1,h.2⟩
    | s vs ds=>exact ThVs.mv mv0 h
    | o c as dss=>exact⟨h.1,h.2.mvl mv0 fun b ys g e=>⟨⟨(hl b _ e).trans g.1,g.2⟩,e⟩⟩
    | w v d=>exact h
inductive Pds (P:List Pe):List V→List PyData→Prop
  | nil:Pds P [] []
  | cons {v d vs ds}:Pe.v v d∈P→Pds P vs ds→Pds P (v::vs) (d::ds)
theorem Pds.th {C:DC} {col:Addr→Nat} {ρ:List Sl} {σ:St} {P:List Pe} {H:Hp} (r:RelC C col ρ σ P H):∀{vs:List V} {ds:List PyData},Pds P vs ds→ThVs (Z col) H vs ds
  | _,_,.nil=>.nil
  | _,_,.cons h t=>.cons (r.pd _ h) (Pds.th r t)
abbrev DE:=List Sl→(PyData→List Sl→Prop)→Prop
abbrev DT:=List Sl→(Bool→List Sl→Prop)→Prop
abbrev DF:=List Sl→(List PyData→List Sl→Prop)→Prop
def eOf (C:DC) (t:DE):TE:=fun σ H Q=>∃ρ P Qd,Rel C ρ σ P H∧t ρ Qd∧∀v d ρ' H',Rel C ρ' σ (.v v d::P) H'→Qd d ρ'→Q v H'
def cOf (C:DC) (t:DT):TT:=fun σ H Q=>∃ρ P Qd,Rel C ρ σ P H∧t ρ Qd∧∀b ρ' H',Rel C ρ' σ P H'→Qd b ρ'→Q b H'
def fOf (C:DC) (t:DF):TE:=fun σ H Q=>∃ρ P Qd,Rel C ρ σ P H∧t ρ Qd∧∀p vs ds ρ' H1,(∃col,RelC C col ρ' σ P H1∧ThVs (Z col) H1 vs ds)→H1 p=none→Qd ds ρ'→Q (.ref p) (upd H1 p (.lst vs))
def vOf (C:DC) (t:DF):TA:=fun σ H Q=>∃ρ P Qd,Rel C ρ σ P H∧t ρ Qd∧∀vs ds ρ' P' H',Rel C ρ' σ P' H'→(∀p∈P,p∈P')→Pds P' vs ds→Qd ds ρ'→Q vs H'
def bnd {α:Type} (o:Option α) (Q:α→Prop):Prop:=match o with
  | some a=>Q a
  | none=>False
theorem bnd_of {α:Type} {o:Option α} {Q:α→Prop} (h:bnd o Q):∃a,o=some a∧Q a:=by
  cases o with
  | none=>exact h.elim
  | some a=>exact⟨a,rfl,h⟩
section
variable {X:Cx} {C:DC}
theorem PE.wk {e:Expr} {t t':TE} (h:PE X e t) (f:∀σ H Q,t' σ H Q→t σ H Q):PE X e t':=fun pins s σ H Q I q=>h pins s σ H Q I (f σ H Q q)
theorem PT.wk {e:Expr} {t t':TT} (h:PT X e t) (f:∀σ H Q,t' σ H Q→t σ H Q):PT X e t':=fun pins s σ H Q I q=>h pins s σ H Q I (f σ H Q q)
theorem PW.wk {e:Expr} {t t':TT} (h:PW X e t) (f:∀σ H Q,t' σ H Q→t σ H Q):PW X e t':=fun wh pins s σ H Q I q=>h wh pins s σ H Q I (f σ H Q q)
theorem PA.wk {es:List Expr} {t t':TA} (h:PA X es t) (f:∀σ H Q,t' σ H Q→t σ H Q):PA X es t':=fun pos pins s σ H Q I q=>h pos pins s σ H Q I (f σ H Q q)
theorem PO.wk {e:Option Expr} {t t':TO} (h:PO X e t) (f:∀σ H Q,t' σ H Q→t σ H Q):PO X e t':=fun pins s σ H Q I q=>h pins s σ H Q I (f σ H Q q)
def dC (d:PyData)  (ρ:List Sl) (Q:PyData→List Sl→Prop):Prop:=Q d ρ
theorem pd_c {e:Expr} {v:V} {d:PyData} (h:PE X e (tC v)) (t:∀F H,ThV F H v d):PE X e (eOf C (dC d)):=PE.wk h fun _ _ _ zz1=>el3 zz1 fun _ _ _ zz2 ht k=>zz2.elim fun col r=>k _ _ _ _ ⟨col,r.push (t _ _)⟩ ht
theorem pd_int {i j pos}:PE X (.Constant (.int i) j pos) (eOf C (dC (.int i))):=pd_c pe_int fun _ _=>.int i
theorem pd_bl {b j pos}:PE X (.Constant (.bool b) j pos) (eOf C (dC (.bool b))):=pd_c pe_bl fun _ _=>.bl b
theorem pd_non {j pos}:PE X (.Constant .none j pos) (eOf C (dC .none)):=pd_c pe_non fun _ _=>.non
theorem pd_gi {e:Expr} {i:Int} (h:PE X e (tC (.int i))):PE X e (eOf C (dC (.int i))):=pd_c h fun _ _=>.int i
theorem join_some {α:Type} {o:Option (Option α)} {v:α} (h:o.join=some v):o=some (some v):=by
  cases o with
  | none=>cases h
  | some q=>exact congrArg some h
def dVar (i:Nat)  (ρ:List Sl) (Q:PyData→List Sl→Prop):Prop:=match ρ[i]? with
  | some (.sh d)=>Q d ρ
  | some (.ow ds)=>Q (.list ds) (ρ.set i (.sh (.list ds)))
  | _=>False
theorem pd_var {e:Expr} {i:Nat} (h:PE X e (tVar i)):PE X e (eOf C (dVar i)):=PE.wk h fun σ H Q zz3=>el3 zz3 fun ρ P Qd zz4 ht k=>zz4.elim fun col r=>by
  unfold dVar at ht
  split at ht
  · rename_i d e
    obtain⟨v,e1,t⟩:=r.sl i _ e
    exact⟨v,join_some e1,k _ _ _ _ ⟨col,r.push t⟩ ht⟩
  · rename_i ds e
    obtain⟨a,e1,R⟩:=r.freeze e
    exact⟨_,join_some e1,k _ _ _ _ R ht⟩
  · exact ht.elim
def slotD (ρ:List Sl) (i:Nat):Option PyData:=match ρ[i]? with
  | some (.sh d)=>some d
  | some (.ow ds)=>some (.list ds)
  | some (.bo ds)=>some (.list ds)
  | _=>none
inductive Red (col:Addr→Nat) (H:Hp):V→PyData→Prop
  | th {v d}:ThV (Z col) H v d→Red col H v d
  | ls {a vs ds}:H a=some (.lst vs)→ThVs (Z col) H vs ds→Red col H (.ref a) (.list ds)
theorem RelC.slot {col:Addr→Nat} {ρ:List Sl} {σ:St} {P:List Pe} {H:Hp} (r:RelC C col ρ σ P H) {i:Nat} {d:PyData} (h:slotD ρ i=some d):∃v,σ[i]?=some (some v)∧Red col H v d:=by
  unfold slotD at h
  split at h
  · rename_i d' e
    cases h
    obtain⟨v,e1,t⟩:=r.sl i _ e
    exact⟨v,join_some e1,.th t⟩
  · rename_i ds e
    cases h
    obtain⟨a,vs,e1,_,_,e2,t⟩:=r.sl i _ e
    exact⟨_,join_some e1,.ls e2 t⟩
  · rename_i ds e
    cases h
    obtain⟨a,vs,e1,_,_,e2,t⟩:=r.sl i _ e
    exact⟨_,join_some e1,.ls e2 t⟩
  · cases h
theorem Red.lst {col:Addr→Nat} {H:Hp} {v:V} {ds:List PyData} (h:Red col H v (.list ds)):∃a vs,v=.ref a∧H a=some (.lst vs)∧ThVs (Z col) H vs ds:=by
  cases h with
  | th t=>cases t with
    | lst _ e t=>exact⟨_,_,rfl,e,t⟩
  | ls e t=>exact⟨_,_,rfl,e,t⟩
theorem Red.tup {col:Addr→Nat} {H:Hp} {v:V} {ds:List PyData} (h:Red col H v (.tuple ds)):∃a vs,v=.ref a∧H a=some (.tup vs)∧ThVs (Z col) H vs ds:=by
  cases h with
  | th t=>cases t with
    | tup _ e t=>exact⟨_,_,rfl,e,t⟩
abbrev G2:=PyData→PyData→(PyData→Prop)→Prop
def OpOk (C:DC) (r:R2) (g:G2):Prop:=
  ∀{ρ:List Sl} {σ:St} {P:List Pe} {H:Hp} {v w:V} {a b:PyData} {Qd:PyData→Prop} {Q:VK},Rel C ρ σ (.v w b::.v v a::P) H→g a b Qd→(∀u d H',Rel C ρ σ (.v u d::P) H'→Qd d→Q u H')→r v w H Q
def dOp (g:G2) (ta tb:DE)  (ρ:List Sl) (Q:PyData→List Sl→Prop):Prop:=ta ρ fun a ρ1=>tb ρ1 fun b ρ2=>g a b fun d=>Q d ρ2
theorem dOp_rd {r:R2} {g:G2} {ta tb:DE} (hg:OpOk C r g) {σ:St} {H:Hp} {Q:VK} (h:eOf C (dOp g ta tb) σ H Q):tOp r (eOf C ta) (eOf C tb) σ H Q:=by
  obtain⟨ρ,P,Qd,R,ht,k⟩:=h
  exact⟨ρ,P,_,R,ht,fun v a ρ1 H1 R1 h1=>⟨ρ1,_,_,R1,h1,fun w b ρ2 H2 R2 h2=>hg R2 h2 fun u d H' R' q=>k u d ρ2 H' R' q⟩⟩
variable {a b:Expr} {ta tb:DE} {pos:Pos}
theorem pd_op {op:Operator} {r:R2} {g:G2} (ho:OpR X (binaryOp op) r) (hg:OpOk C r g) (ha:PE X a (eOf C ta)) (hb:PE X b (eOf C tb)):PE X (.BinOp a op b pos) (eOf C (dOp g ta tb)):=PE.wk (pe_op ho ha hb) fun _ _ _ h=>dOp_rd hg h
theorem pd_cmp {op:CmpOp} {r:R2} {g:G2} (ho:OpR X (compareOp op) r) (hg:OpOk C r g) (ha:PE X a (eOf C ta)) (hb:PE X b (eOf C tb)) (hm:behindInMarks op b=false):PE X (.Compare a [op] [b] pos) (eOf C (dOp g ta tb)):=PE.wk (pe_cmpR ho ha hb hm) fun _ _ _ h=>dOp_rd hg h
def dT (t:DE)  (ρ:List Sl) (Q:Bool→List Sl→Prop):Prop:=t ρ fun d ρ'=>match d with
  | .bool b=>Q b ρ'
  | _=>False
theorem dT_rd {t:DE} {σ:St} {H:Hp} {Q:Bool→Hp→Prop} (h:cOf C (dT t) σ H Q):eOf C t σ H fun x H'=>∃k,x=.bl k∧Q k H':=by
  obtain⟨ρ,P,Qd,R,ht,k⟩:=h
  refine⟨ρ,P,_,R,ht,fun v d ρ' H' R' q=>?_⟩
  split at q
  · obtain⟨col,r⟩:=R'
    have t:=r.pd _ List.mem_cons_self
    cases (show ThV (Z col) H' v (.bool _) from t)
    exact⟨_,rfl,k _ _ _ (Rel.pop ⟨col,r⟩) q⟩
  · exact q.elim
theorem pdt_val {e:Expr} {t:DE} (h:PE X e (eOf C t)) (he:∀whole,isTrue e X.env whole=(do let v ←whole;standAt e.pos;holding [v] (truthy v)):=by intro _;rfl):PT X e (cOf C (dT t)):=PT.wk (pt_val h he) fun _ _ _ h=>dT_rd h
theorem pdt_cmp {op:CmpOp} {r:R2} {g:G2} (ho:OpR X (compareOp op) r) (hg:OpOk C r g) (ha:PE X a (eOf C ta)) (hb:PE X b (eOf C tb)) (hm:behindInMarks op b=false):PT X (.Compare a [op] [b] pos) (cOf C (dT (dOp g ta tb))):=
  PT.wk (pt_cmpR ho ha hb hm) fun σ H Q h=>dOp_rd hg (dT_rd h)
def dNot (t:DT)  (ρ:List Sl) (Q:Bool→List Sl→Prop):Prop:=t ρ fun b ρ'=>Q (!b) ρ'
theorem pdt_not {t:DT} (h:PT X a (cOf C t)):PT X (.UnaryOp .Not a pos) (cOf C (dNot t)):=PT.wk (pt_not h) fun _ _ _ zz5=>el3 zz5 fun ρ P _ R ht k=>⟨ρ,P,_,R,ht,fun b ρ' H' R' q=>k _ _ _ R' q⟩
def dAnd (t u:DT)  (ρ:List Sl) (Q:Bool→List Sl→Prop):Prop:=t ρ fun b ρ'=>if b=true then u ρ' Q else Q false ρ'
def dOr (t u:DT)  (ρ:List Sl) (Q:Bool→List Sl→Prop):Prop:=t ρ fun b ρ'=>if b=true then Q true ρ' else u ρ' Q
variable {t u:DT} {rest:List Expr}
theorem pwd_and1 (h:PT X a (cOf C t)):PW X (.BoolOp .And [a] pos) (cOf C t):=pw_and1 h
theorem pwd_or1 (h:PT X a (cOf C t)):PW X (.BoolOp .Or [a] pos) (cOf C t):=pw_or1 h
theorem pwd_and (ha:PT X a (cOf C t)) (hb:PW X (.BoolOp .And (b::rest) pos) (cOf C u)):PW X (.BoolOp .And (a::b::rest) pos) (cOf C (dAnd t u)):=PW.wk (pw_and ha hb) fun _ _ _ zz6=>el3 zz6 fun ρ P Qd R ht k=>
  ⟨ρ,P,_,R,ht,fun b ρ' H' R' q=>by
    cases b with
    | true=>exact⟨ρ',P,Qd,R',by simpa using q,k⟩
    | false=>exact k _ _ _ R' (by simpa using q)⟩
theorem pwd_or (ha:PT X a (cOf C t)) (hb:PW X (.BoolOp .Or (b::rest) pos) (cOf C u)):PW X (.BoolOp .Or (a::b::rest) pos) (cOf C (dOr t u)):=PW.wk (pw_or ha hb) fun _ _ _ zz7=>el3 zz7 fun ρ P Qd R ht k=>
  ⟨ρ,P,_,R,ht,fun b ρ' H' R' q=>by
    cases b with
    | true=>exact k _ _ _ R' (by simpa using q)
    | false=>exact⟨ρ',P,Qd,R',by simpa using q,k⟩⟩
def dBV (t:DE) (f:Bool→List Sl→Prop)  (ρ:List Sl):Prop:=t ρ fun d ρ'=>match d with
  | .bool b=>f b ρ'
  | _=>False
def dAndV (ta tb:DE)  (ρ:List Sl) (Q:PyData→List Sl→Prop):Prop:=dBV ta (fun b ρ'=>if b=true then tb ρ' Q else Q (.bool false) ρ') ρ
def dOrV (ta tb:DE)  (ρ:List Sl) (Q:PyData→List Sl→Prop):Prop:=dBV ta (fun b ρ'=>if b=true then Q (.bool true) ρ' else tb ρ' Q) ρ
def dNotV (ta:DE)  (ρ:List Sl) (Q:PyData→List Sl→Prop):Prop:=dBV ta (fun b ρ'=>Q (.bool (!b)) ρ') ρ
theorem dBV_rd {f:Bool→List Sl→Prop} {ρ:List Sl} {σ:St} {P:List Pe} {H:Hp} {Q:VK} (R:Rel C ρ σ P H) (ht:dBV ta f ρ) (k:∀c ρ' H',Rel C ρ' σ P H'→f c ρ'→Q (.bl c) H'):eOf C ta σ H Q:=by
  refine⟨ρ,P,_,R,ht,fun v d ρ' H' R' q=>?_⟩
  split at q
  · obtain⟨col,r⟩:=R'
    have t:=r.pd _ List.mem_cons_self
    cases (show ThV (Z col) H' v (.bool _) from t)
    exact k _ _ _ (Rel.pop ⟨col,r⟩) q
  · exact q.elim
theorem pd_one {op} (h:PE X a (eOf C ta)):PE X (.BoolOp op [a] pos) (eOf C ta):=pe_one h
theorem pd_and (ha:PE X a (eOf C ta)) (hb:PE X (.BoolOp .And (b::rest) pos) (eOf C tb)):PE X (.BoolOp .And (a::b::rest) pos) (eOf C (dAndV ta tb)):=PE.wk (pe_and ha hb) fun _ _ _ zz8=>el3 zz8 fun _ P Qd R ht k=>
  dBV_rd R ht fun c ρ' H' R' q=>⟨c,rfl,by
    cases c with
    | true=>exact iteT ⟨ρ',P,Qd,R',by simpa using q,k⟩
    | false=>
      obtain⟨col,r⟩:=R'
      exact iteF (k _ _ _ _ ⟨col,r.push (.bl false)⟩ (by simpa using q))⟩
theorem pd_or (ha:PE X a (eOf C ta)) (hb:PE X (.BoolOp .Or (b::rest) pos) (eOf C tb)):PE X (.BoolOp .Or (a::b::rest) pos) (eOf C (dOrV ta tb)):=PE.wk (pe_or ha hb) fun _ _ _ zz9=>el3 zz9 fun _ P Qd R ht k=>
  dBV_rd R ht fun c ρ' H' R' q=>⟨c,rfl,by
    cases c with
    | true=>
      obtain⟨col,r⟩:=R'
      exact iteT (k _ _ _ _ ⟨col,r.push (.bl true)⟩ (by simpa using q))
    | false=>exact iteF ⟨ρ',P,Qd,R',by simpa using q,k⟩⟩
theorem pd_not (ha:PE X a (eOf C ta)):PE X (.UnaryOp .Not a pos) (eOf C (dNotV ta)):=PE.wk (pe_not ha) fun _ _ _ zz10=>el3 zz10 fun _ _ _ R ht k=>
  dBV_rd R ht fun c ρ' H' zz11 q=>zz11.elim fun col r=>⟨c,rfl,k _ _ _ _ ⟨col,r.push (.bl _)⟩ q⟩
def dNeg (ta:DE)  (ρ:List Sl) (Q:PyData→List Sl→Prop):Prop:=ta ρ fun d ρ'=>match d with
  | .int i=>Q (.int (-i)) ρ'
  | _=>False
theorem pd_neg (ha:PE X a (eOf C ta)):PE X (.UnaryOp .USub a pos) (eOf C (dNeg ta)):=PE.wk (pe_un un_neg ha) fun _ _ _ zz12=>el3 zz12 fun ρ P _ R ht k=>⟨ρ,P,_,R,ht,fun v d ρ' H' R' q=>by
  split at q
  · obtain⟨col,r⟩:=R'
    have t:=r.pd _ List.mem_cons_self
    cases (show ThV (Z col) H' v (.int _) from t)
    exact⟨_,rfl,k _ _ _ _ ⟨col,(r.sub fun _ h=>List.mem_cons_of_mem _ h).push (.int _)⟩ q⟩
  · exact q.elim⟩
def dIf (c:DT) (ta tb:DE)  (ρ:List Sl) (Q:PyData→List Sl→Prop):Prop:=c ρ fun b ρ'=>if b=true then ta ρ' Q else tb ρ' Q
theorem pd_if {c:Expr} (hc:PT X c (cOf C t)) (ha:PE X a (eOf C ta)) (hb:PE X b (eOf C tb)):PE X (.IfExp c a b pos) (eOf C (dIf t ta tb)):=PE.wk (pe_ifExp hc ha hb) fun _ _ _ zz13=>el3 zz13 fun ρ P Qd R ht k=>
  ⟨ρ,P,_,R,ht,fun b ρ' H' R' q=>by
    cases b with
    | true=>exact iteT ⟨ρ',P,Qd,R',by simpa using q,k⟩
    | false=>exact iteF ⟨ρ',P,Qd,R',by simpa using q,k⟩⟩
def dChain (g g':G2) (ta tb tc:DE)  (ρ:List Sl) (Q:PyData→List Sl→Prop):Prop:=ta ρ fun a ρ1=>tb ρ1 fun b ρ2=>g a b fun z=>match z with
  | .bool k=>if k=true then tc ρ2 fun c ρ3=>g' b c fun d=>Q d ρ3 else Q (.bool false) ρ2
  | _=>False
end
def gI (c:Int→Int→Prop) (f:Int→Int→PyData)  (a b:PyData) (Q:PyData→Prop):Prop:=match a,b with
  | .int i,.int j=>c i j∧Q (f i j)
  | _,_=>False
def gI0 (f:Int→Int→PyData)  (a b:PyData) (Q:PyData→Prop):Prop:=match a,b with
  | .int i,.int j=>Q (f i j)
  | _,_=>False
section
variable {C:DC} {X:Cx}
theorem th2 {ρ:List Sl} {σ:St} {P:List Pe} {H:Hp} {v w:V} {a b:PyData} (r:Rel C ρ σ (.v w b::.v v a::P) H):∃col,RelC C col ρ σ P H∧ThV (Z col) H v a∧ThV (Z col) H w b:=by
  obtain⟨col,r⟩:=r
  exact⟨col,r.sub fun _ h=>List.mem_cons_of_mem _ (List.mem_cons_of_mem _ h),r.pd _ (List.mem_cons_of_mem _ List.mem_cons_self),r.pd _ List.mem_cons_self⟩
theorem ok_I0 {f:Int→Int→V} {g:Int→Int→PyData} (h:∀i j F H,ThV F H (f i j) (g i j)):OpOk C (rI0 f) (gI0 g):=by
  intro ρ σ P H v w a b Qd Q R hg k
  unfold gI0 at hg
  split at hg
  · obtain⟨col,r,t1,t2⟩:=th2 R
    cases t1;cases t2
    exact⟨_,_,rfl,rfl,k _ _ _ ⟨col,r.push (h _ _ _ _)⟩ hg⟩
  · exact hg.elim
theorem ok_I {c:Int→Int→Prop} {f:Int→Int→V} {g:Int→Int→PyData} (h:∀i j F H,ThV F H (f i j) (g i j)):OpOk C (rI c f) (gI c g):=by
  intro ρ σ P H v w a b Qd Q R hg k
  unfold gI at hg
  split at hg
  · obtain⟨col,r,t1,t2⟩:=th2 R
    cases t1;cases t2
    exact⟨_,_,rfl,rfl,hg.1,k _ _ _ ⟨col,r.push (h _ _ _ _)⟩ hg.2⟩
  · exact hg.elim
def gAdd:G2:=gI0 fun i j=>.int (i + j)
def gMns:G2:=gI0 fun i j=>.int (i - j)
def gMul:G2:=gI CMul fun i j=>.int (i * j)
def gMod:G2:=gI (fun _ j=>0 < j) fun i j=>.int (i % j)
def gDiv:G2:=gI CDivB fun i j=>.int (i / j)
def gPow:G2:=gI CPow fun i j=>.int (i ^ j.toNat)
def gLt:G2:=gI0 fun i j=>.bool (decide (i < j))
def gLe:G2:=gI0 fun i j=>.bool (decide (i≤j))
def gGt:G2:=gI0 fun i j=>.bool (decide (j < i))
def gGe:G2:=gI0 fun i j=>.bool (decide (j≤i))
theorem ok_add:OpOk C (rI0 (fun i j=>.int (i + j))) gAdd:=ok_I0 (f:=fun i j=>.int (i + j)) fun _ _ _ _=>.int _
theorem ok_sub:OpOk C (rI0 (fun i j=>.int (i - j))) gMns:=ok_I0 (f:=fun i j=>.int (i - j)) fun _ _ _ _=>.int _
theorem ok_mul:OpOk C (rI CMul (fun i j=>.int (i * j))) gMul:=ok_I (f:=fun i j=>.int (i * j)) fun _ _ _ _=>.int _
theorem ok_mod:OpOk C (rI (fun _ j=>0 < j) (fun i j=>.int (i % j))) gMod:=ok_I (f:=fun i j=>.int (i % j)) fun _ _ _ _=>.int _
theorem ok_div:OpOk C (rI CDivB (fun i j=>.int (i / j))) gDiv:=ok_I (f:=fun i j=>.int (i / j)) fun _ _ _ _=>.int _
theorem ok_pow:OpOk C (rI CPow (fun i j=>.int (i ^ j.toNat))) gPow:=ok_I (f:=fun i j=>.int (i ^ j.toNat)) fun _ _ _ _=>.int _
theorem ok_lt:OpOk C (rI0 (fun i j=>.bl (decide (i < j)))) gLt:=ok_I0 (f:=fun i j=>.bl (decide (i < j))) fun _ _ _ _=>.bl _
theorem ok_gt:OpOk C (rI0 (fun i j=>.bl (decide (j < i)))) gGt:=ok_I0 (f:=fun i j=>.bl (decide (j < i))) fun _ _ _ _=>.bl _
theorem ok_ge:OpOk C (rI0 (fun i j=>.bl (decide (j≤i)))) gGe:=ok_I0 (f:=fun i j=>.bl (decide (j≤i))) fun _ _ _ _=>.bl _
def gEq (neg:Bool)  (a b:PyData) (Q:PyData→Prop):Prop:=a.canLay0=true∧b.canLay0=true∧min a.depth b.depth≤64∧Q (.bool (if neg then !PyData.eqv a b else PyData.eqv a b))
theorem ok_eq {K:PySem.W.Frag} {neg:Bool}:OpOk C (rEqD K neg) (gEq neg):=by
  intro ρ σ P H v w a b Qd Q R hg k
  obtain⟨col,r,t1,t2⟩:=th2 R
  exact⟨a,b,t1.dat hg.1,t2.dat hg.2.1,hg.1,hg.2.1,hg.2.2.1,k _ _ _ ⟨col,r.push (.bl _)⟩ hg.2.2.2⟩
def isN:PyData→Bool
  | .none=>true
  | _=>false
def gIsN (neg:Bool)  (a b:PyData) (Q:PyData→Prop):Prop:=match b with
  | .none=>Q (.bool (if neg then !isN a else isN a))
  | _=>False
theorem isN_th {F:Addr→Prop} {H:Hp} {v:V} {a:PyData} (t:ThV F H v a):decide (v=V.non)=isN a:=by
  cases t <;> simp [isN]
theorem ok_isN:OpOk C (fun x y H Q=>y=.non∧Q (.bl (decide (x=.non))) H) (gIsN false):=by
  intro ρ σ P H v w a b Qd Q R hg k
  unfold gIsN at hg
  split at hg
  · obtain⟨col,r,t1,t2⟩:=th2 R
    cases t2
    refine⟨rfl,k _ _ _ ⟨col,r.push (d:=.bool (isN a)) ?_⟩ hg⟩
    rw[isN_th t1];exact .bl _
  · exact hg.elim
theorem ok_notN:OpOk C (fun x y H Q=>y=.non∧Q (.bl (!decide (x=.non))) H) (gIsN true):=by
  intro ρ σ P H v w a b Qd Q R hg k
  unfold gIsN at hg
  split at hg
  · obtain⟨col,r,t1,t2⟩:=th2 R
    cases t2
    refine⟨rfl,k _ _ _ ⟨col,r.push (d:=.bool (!isN a)) ?_⟩ hg⟩
    rw[isN_th t1];exact .bl _
  · exact hg.elim
end
section
variable {X:Cx} {C:DC} {a b c:Expr} {ta tb tc:DE} {pos:Pos}
theorem chain_rd {f f':Int→Int→Bool} {σ:St} {H:Hp} {Q:VK} (h:eOf C (dChain (gI0 fun i j=>.bool (f i j)) (gI0 fun i j=>.bool (f' i j)) ta tb tc) σ H Q) :
    tChain (rI0 fun i j=>.bl (f i j)) (rI0 fun i j=>.bl (f' i j)) (eOf C ta) (eOf C tb) (eOf C tc) σ H Q:=by
  obtain⟨ρ,P,Qd,R,ht,k⟩:=h
  exact⟨ρ,P,_,R,ht,fun v x ρ1 H1 R1 h1=>⟨ρ1,_,_,R1,h1,fun w y ρ2 H2 R2 h2=>by
    obtain⟨col,r,t1,t2⟩:=th2 R2
    cases x with
    | int i=>
      cases y with
      | int j=>
        cases t1;cases t2
        refine⟨i,j,rfl,rfl,f i j,rfl,?_⟩
        have h2':if f i j=true then tc ρ2 (fun c ρ3=>gI0 (fun i j=>.bool (f' i j)) (.int j) c fun d=>Qd d ρ3) else Qd (.bool false) ρ2:=h2
        cases e:f i j with
        | true=>
          rw[e] at h2'
          refine iteT ⟨ρ2,P,_,⟨col,r⟩,by simpa using h2',fun u z ρ3 H3 R3 h3=>?_⟩
          obtain⟨col3,r3⟩:=R3
          have t3:=r3.pd _ List.mem_cons_self
          cases z with
          | int l=>
            cases (show ThV (Z col3) H3 u (.int l) from t3)
            exact⟨j,l,rfl,rfl,k _ _ _ _ ⟨col3,(r3.sub fun _ h=>List.mem_cons_of_mem _ h).push (.bl _)⟩ h3⟩
          | _=>exact h3.elim
        | false=>
          rw[e] at h2'
          exact iteF (k _ _ _ _ ⟨col,r.push (.bl false)⟩ (by simpa using h2'))
      | _=>exact h2.elim
    | _=>exact h2.elim⟩⟩
theorem pd_chain {op op':CmpOp} {f f':Int→Int→Bool} (ho:OpR X (compareOp op) (rI0 fun i j=>.bl (f i j))) (ho':OpR X (compareOp op') (rI0 fun i j=>.bl (f' i j))) (ha:PE X a (eOf C ta)) (hb:PE X b (eOf C tb)) (hc:PE X c (eOf C tc))
    (hm:lastMarks [op,op'] [b,c]=false:=by with_unfolding_all rfl):PE X (.Compare a [op,op'] [b,c] pos) (eOf C (dChain (gI0 fun i j=>.bool (f i j)) (gI0 fun i j=>.bool (f' i j)) ta tb tc)):=PE.wk (pe_chain ho ho' ha hb hc hm) fun _ _ _ h=>chain_rd h
theorem pdt_chain {op op':CmpOp} {f f':Int→Int→Bool} (ho:OpR X (compareOp op) (rI0 fun i j=>.bl (f i j))) (ho':OpR X (compareOp op') (rI0 fun i j=>.bl (f' i j))) (ha:PE X a (eOf C ta)) (hb:PE X b (eOf C tb)) (hc:PE X c (eOf C tc))
    (hm:lastMarks [op,op'] [b,c]=false:=by with_unfolding_all rfl):PT X (.Compare a [op,op'] [b,c] pos) (cOf C (dT (dChain (gI0 fun i j=>.bool (f i j)) (gI0 fun i j=>.bool (f' i j)) ta tb tc))):=PT.wk (pt_chain ho ho' ha hb hc hm) fun _ _ _ h=>chain_rd (dT_rd h)
end
section
variable {X:Cx} {C:DC} {e a b:Expr} {es:List Expr} {t ta tb:DE} {u:DF} {pos:Pos}
theorem sub_cons {P P':List Pe} {x:Pe} (h:∀p∈P,p∈P'):∀p∈x::P,p∈x::P':=fun p hp=>(List.mem_cons.mp hp).elim (fun e=>e▸List.mem_cons_self) fun hp=>List.mem_cons_of_mem _ (h p hp)
def dNil  (ρ:List Sl) (Q:List PyData→List Sl→Prop):Prop:=Q [] ρ
def dCons (t:DE) (u:DF)  (ρ:List Sl) (Q:List PyData→List Sl→Prop):Prop:=t ρ fun d ρ1=>u ρ1 fun ds ρ2=>Q (d::ds) ρ2
theorem dv_nil:PA X [] (vOf C dNil):=PA.wk pa_nil fun _ _ _ zz1=>el3 zz1 fun _ _ _ R ht k=>k [] [] _ _ _ R (fun _ h=>h) .nil ht
theorem dv_cons (ha:PE X e (eOf C t)) (hr:PA X es (vOf C u)) (hs:starEach (e::es) X.env=(false,eval e X.env)::starEach es X.env:=by rfl):PA X (e::es) (vOf C (dCons t u)):=PA.wk (pa_cons ha hr hs) fun _ _ _ zz2=>el3 zz2 fun ρ P _ R ht k=>
  ⟨ρ,P,_,R,ht,fun _ _ ρ1 _ R1 h1=>⟨ρ1,_,_,R1,h1,fun _ _ _ _ _ R2 s2 p2 h2=>k _ _ _ _ _ R2 (fun p hp=>s2 p (List.mem_cons_of_mem _ hp)) (.cons (s2 _ List.mem_cons_self) p2) h2⟩⟩
def dTup (t:DF)  (ρ:List Sl) (Q:PyData→List Sl→Prop):Prop:=t ρ fun ds ρ'=>ds.length≤1000∧Q (.tuple ds) ρ'
theorem pd_tup {x1} (h:PA X es (vOf C u)):PE X (.Tuple es x1 pos) (eOf C (dTup u)):=PE.wk (pe_tup h) fun _ _ _ zz3=>el3 zz3 fun ρ P _ R ht k=>⟨ρ,P,_,R,ht,fun vs ds ρ' P' H' zz4 s p q=>zz4.elim fun col r=>
  ⟨by rw[(p.th r).len];exact Nat.le_of_lt (small1000 q.1),fun b hb=>k _ _ _ _ ⟨col,(r.tup (p.th r) hb).sub (sub_cons s)⟩ q.2⟩⟩
def dLst (t:DF)  (ρ:List Sl) (Q:List PyData→List Sl→Prop):Prop:=t ρ fun ds ρ'=>ds.length≤1000∧Q ds ρ'
theorem pf_lst (h:PA X es (vOf C u)):PE X (.List es pos) (fOf C (dLst u)):=PE.wk (pe_lst h) fun _ _ _ zz5=>el3 zz5 fun ρ P _ R ht k=>⟨ρ,P,_,R,ht,fun vs ds ρ' P' H' zz6 s p q=>zz6.elim fun col r=>
  ⟨by rw[(p.th r).len];exact Nat.le_of_lt (small1000 q.1),fun b hb=>k _ _ _ _ _ ⟨col,r.sub s,p.th r⟩ hb q.2⟩⟩
def dF (t:DF)  (ρ:List Sl) (Q:PyData→List Sl→Prop):Prop:=t ρ fun ds ρ'=>Q (.list ds) ρ'
theorem pd_f (h:PE X e (fOf C u)):PE X e (eOf C (dF u)):=PE.wk h fun _ _ _ zz7=>el3 zz7 fun ρ P _ R ht k=>⟨ρ,P,_,R,ht,fun _ _ _ _ _ zz8 hp q=>el2 zz8 fun col r t=>k _ _ _ _ ⟨col,r.lst t hp⟩ q⟩
def ixD (a b:PyData):Option PyData:=match a,b with
  | .list xs,.int i=>atI xs i
  | .tuple xs,.int i=>atI xs i
  | _,_=>none
theorem atI_th {F:Addr→Prop} {H:Hp} {vs:List V} {ds:List PyData} {i:Int} {d:PyData} (t:ThVs F H vs ds) (h:atI ds i=some d):∃v,atI vs i=some v∧ThV F H v d:=by
  unfold atI at h ⊢
  rw[t.len]
  cases q:ixN ds.length i with
  | none=>rw[q] at h;cases h
  | some j=>
    rw[q] at h
    exact t.at h
theorem ix_rd {K:PySem.W.Frag} {col:Addr→Nat} {H:Hp} {v w:V} {a b d:PyData} (t1:Red col H v a) (t2:ThV (Z col) H w b) (h:ixD a b=some d):∃u,ThV (Z col) H u d∧∀Q:VK,Q u H→rIx K v w H Q:=by
  unfold ixD at h
  split at h
  · cases t2
    obtain⟨p,vs,rfl,e,t⟩:=t1.lst
    obtain⟨u,hu,tu⟩:=atI_th t h
    exact⟨u,tu,fun Q q=>.inl ⟨p,vs,_,u,rfl,rfl,SqL.of e,hu,q⟩⟩
  · cases t2
    obtain⟨p,vs,rfl,e,t⟩:=t1.tup
    obtain⟨u,hu,tu⟩:=atI_th t h
    exact⟨u,tu,fun Q q=>.inr (.inl ⟨p,vs,_,u,rfl,rfl,SqT.of e,hu,q⟩)⟩
  · cases h
def dIx (ta tb:DE)  (ρ:List Sl) (Q:PyData→List Sl→Prop):Prop:=ta ρ fun a ρ1=>tb ρ1 fun b ρ2=>bnd (ixD a b) fun d=>Q d ρ2
theorem pd_ix (ha:PE X a (eOf C ta)) (hb:PE X b (eOf C tb)) (hs:PlainIx b):PE X (.Subscript a b pos) (eOf C (dIx ta tb)):=PE.wk (pe_ix ix_seq ha hb hs) fun _ _ _ zz9=>el3 zz9 fun ρ P _ R ht k=>⟨ρ,P,_,R,ht,fun v _ ρ1 H1 R1 h1=>⟨ρ1,_,_,R1,h1,fun w _ ρ2 H2 R2 h2=>by
  obtain⟨d,hd,q⟩:=bnd_of h2
  obtain⟨col,r,t1,t2⟩:=th2 R2
  obtain⟨u,tu,f⟩:=ix_rd (K:=X.K) (.th t1) t2 hd
  exact f _ (k _ _ _ _ ⟨col,r.push tu⟩ q)⟩⟩
def dIxV (i:Nat) (tb:DE)  (ρ:List Sl) (Q:PyData→List Sl→Prop):Prop:=bnd (slotD ρ i) fun _=>tb ρ fun b ρ2=>bnd (slotD ρ2 i) fun a=>bnd (ixD a b) fun d=>Q d ρ2
theorem pd_ixv {i:Nat} (ha:PE X a (tVar i)) (hb:PE X b (eOf C tb)) (hs:PlainIx b):PE X (.Subscript a b pos) (eOf C (dIxV i tb)):=PE.wk (pe_ix ix_seq ha hb hs) fun σ H Q zz10=>el3 zz10 fun ρ P Qd zz11 ht k=>zz11.elim fun col0 r0=>by
  obtain⟨_,h0,ht⟩:=bnd_of ht
  obtain⟨v,ev,_⟩:=r0.slot h0
  refine⟨v,ev,ρ,P,_,⟨col0,r0⟩,ht,fun w b ρ2 H2 R2 h2=>?_⟩
  obtain⟨a,ha,h2⟩:=bnd_of h2
  obtain⟨d,hd,q⟩:=bnd_of h2
  obtain⟨col,r⟩:=R2
  obtain⟨v',ev',t1⟩:=r.slot ha
  rw[ev] at ev'
  cases ev'
  obtain⟨u,tu,f⟩:=ix_rd (K:=X.K) t1 (r.pd _ List.mem_cons_self) hd
  exact f _ (k _ _ _ _ ⟨col,(r.sub fun _ h=>List.mem_cons_of_mem _ h).push tu⟩ q)
def CbOk (C:DC) (r:List V→Hp→VK→Prop) (g:List PyData→(PyData→Prop)→Prop):Prop:=
  ∀{ρ:List Sl} {σ:St} {P:List Pe} {col:Addr→Nat} {H:Hp} {vs:List V} {ds:List PyData} {Qd:PyData→Prop} {Q:VK},RelC C col ρ σ P H→ThVs (Z col) H vs ds→g ds Qd→(∀u d H',Rel C ρ σ (.v u d::P) H'→Qd d→Q u H')→r vs H Q
def dCb (g:List PyData→(PyData→Prop)→Prop) (u:DF)  (ρ:List Sl) (Q:PyData→List Sl→Prop):Prop:=u ρ fun ds ρ'=>g ds fun d=>Q d ρ'
theorem pd_cb {r:List V→Hp→VK→Prop} {g:List PyData→(PyData→Prop)→Prop} (hr:CbOk C r g) (h:PE X e (tCB r (vOf C u))):PE X e (eOf C (dCb g u)):=PE.wk h fun _ _ _ zz12=>el3 zz12 fun ρ P _ R ht k=>⟨ρ,P,_,R,ht,fun vs ds ρ' P' H' zz13 s p q=>zz13.elim fun col r=>
  hr (r.sub s) (p.th r) q fun u d H2 R2 q2=>k _ _ _ _ R2 q2⟩
theorem ths1 {F:Addr→Prop} {H:Hp} {vs:List V} {d:PyData} (t:ThVs F H vs [d]):∃v,vs=[v]∧ThV F H v d:=by
  cases t with
  | cons x y=>cases y;exact⟨_,rfl,x⟩
theorem ths2 {F:Addr→Prop} {H:Hp} {vs:List V} {d d':PyData} (t:ThVs F H vs [d,d']):∃v w,vs=[v,w]∧ThV F H v d∧ThV F H w d':=by
  cases t with
  | cons x y=>
    obtain⟨w,rfl,z⟩:=ths1 y
    exact⟨_,w,rfl,x,z⟩
def lenD:PyData→Option Nat
  | .list xs=>some xs.length
  | .tuple xs=>some xs.length
  | _=>none
def gLen  (ds:List PyData) (Q:PyData→Prop):Prop:=match ds with
  | [d]=>bnd (lenD d) fun n=>Q (.int n)
  | _=>False
abbrev rLen (K:PySem.W.Frag):List V→Hp→VK→Prop:=fun xs H Q=>∃p ys,xs=[.ref p]∧(SqL K H p ys∨SqT K H p ys)∧Q (.int ys.length) H
theorem len_rd {K:PySem.W.Frag} {col:Addr→Nat} {H:Hp} {v:V} {a:PyData} {n:Nat} {Q:VK} (t:Red col H v a) (h:lenD a=some n) (q:Q (.int n) H):rLen K [v] H Q:=by
  cases a with
  | list ds=>
    cases h
    obtain⟨p,vs,rfl,e,t⟩:=t.lst
    exact⟨p,vs,rfl,.inl (SqL.of e),by rw[t.len];exact q⟩
  | tuple ds=>
    cases h
    obtain⟨p,vs,rfl,e,t⟩:=t.tup
    exact⟨p,vs,rfl,.inr (SqT.of e),by rw[t.len];exact q⟩
  | _=>cases h
theorem cb_len {K:PySem.W.Frag}:CbOk C (rLen K) gLen:=by
  intro ρ σ P col H vs ds Qd Q r t g k
  unfold gLen at g
  split at g
  · obtain⟨v,rfl,t1⟩:=ths1 t
    obtain⟨n,hn,q⟩:=bnd_of g
    exact len_rd (.th t1) hn (k _ _ _ ⟨col,r.push (.int _)⟩ q)
  · exact g.elim
def dLenV (i:Nat)  (ρ:List Sl) (Q:PyData→List Sl→Prop):Prop:=bnd (slotD ρ i) fun a=>bnd (lenD a) fun n=>Q (.int n) ρ
theorem pd_lenv {i:Nat} {K:PySem.W.Frag} (h:PE X e (tCB (rLen K) (tCons (tVar i) tNil))):PE X e (eOf C (dLenV i)):=PE.wk h fun _ _ _ zz14=>el3 zz14 fun ρ P _ zz15 ht k=>zz15.elim fun col r=>by
  obtain⟨a,ha,ht⟩:=bnd_of ht
  obtain⟨n,hn,q⟩:=bnd_of ht
  obtain⟨v,ev,t⟩:=r.slot ha
  exact⟨v,ev,len_rd t hn (k _ _ _ _ ⟨col,r.push (.int _)⟩ q)⟩
def gI2 (f:Int→Int→Int)  (ds:List PyData) (Q:PyData→Prop):Prop:=match ds with
  | [.int i,.int j]=>Q (.int (f i j))
  | _=>False
theorem cb_I2 {f:Int→Int→Int}:CbOk C (fun xs H Q=>∃i j,xs=[.int i,.int j]∧Q (.int (f i j)) H) (gI2 f):=by
  intro ρ σ P col H vs ds Qd Q r t g k
  unfold gI2 at g
  split at g
  · obtain⟨v,w,rfl,t1,t2⟩:=ths2 t
    cases t1;cases t2
    exact⟨_,_,rfl,k _ _ _ ⟨col,r.push (.int _)⟩ g⟩
  · exact g.elim
def gMin:=gI2 fun i j=>if j < i then j else i
def gMax:=gI2 fun i j=>if j > i then j else i
theorem cb_min:CbOk C (fun xs H Q=>∃i j,xs=[.int i,.int j]∧Q (.int (if j < i then j else i)) H) gMin:=cb_I2 (f:=fun i j=>if j < i then j else i)
theorem cb_max:CbOk C (fun xs H Q=>∃i j,xs=[.int i,.int j]∧Q (.int (if j > i then j else i)) H) gMax:=cb_I2 (f:=fun i j=>if j > i then j else i)
def gAbs  (ds:List PyData) (Q:PyData→Prop):Prop:=match ds with
  | [.int i]=>Q (.int (if i < 0 then -i else i))
  | _=>False
def gInt  (ds:List PyData) (Q:PyData→Prop):Prop:=match ds with
  | [.int i]=>Q (.int i)
  | [.bool b]=>Q (.int (if b then 1 else 0))
  | _=>False
theorem cb_int:CbOk C (fun xs H Q=>(∃i,xs=[.int i]∧Q (.int i) H)∨∃k,xs=[.bl k]∧Q (.int (if k then 1 else 0)) H) gInt:=by
  intro ρ σ P col H vs ds Qd Q r t g k
  unfold gInt at g
  split at g
  · obtain⟨v,rfl,t1⟩:=ths1 t
    cases t1
    exact .inl ⟨_,rfl,k _ _ _ ⟨col,r.push (.int _)⟩ g⟩
  · obtain⟨v,rfl,t1⟩:=ths1 t
    cases t1
    exact .inr ⟨_,rfl,k _ _ _ ⟨col,r.push (.int _)⟩ g⟩
  · exact g.elim
def boolsD:List PyData→Option (List Bool)
  | []=>some []
  | .bool b::r=>(boolsD r).map (b::·)
  | _::_=>none
theorem bools_th {F:Addr→Prop} {H:Hp} {ds:List PyData} {vs:List V} {bs:List Bool} (t:ThVs F H vs ds) (h:boolsD ds=some bs):vs=bs.map V.bl:=by
  induction ds generalizing vs bs with
  | nil=>cases t;cases h;rfl
  | cons d r ih=>
    cases t with
    | cons x y=>
      cases x with
      | bl b=>
        have h':(boolsD r).map (b::·)=some bs:=h
        cases q:boolsD r with
        | none=>rw[q] at h';cases h'
        | some cs=>
          rw[q] at h'
          cases h'
          rw[ih y q];rfl
      | _=>cases h
def gBs (f:List Bool→Bool)  (ds:List PyData) (Q:PyData→Prop):Prop:=match ds with
  | [.list xs]=>bnd (boolsD xs) fun bs=>Q (.bool (f bs))
  | _=>False
theorem cb_bs {K:PySem.W.Frag} {f:List Bool→Bool}:CbOk C (fun xs H Q=>∃(p:Addr) (bs:List Bool),xs=[.ref p]∧SqL K H p (bs.map V.bl)∧Q (.bl (f bs)) H) (gBs f):=by
  intro ρ σ P col H vs ds Qd Q r t g k
  unfold gBs at g
  split at g
  · obtain⟨bs,hb,q⟩:=bnd_of g
    obtain⟨v,rfl,t1⟩:=ths1 t
    cases t1 with
    | lst _ e t2=>
      have z:=bools_th t2 hb
      subst z
      exact⟨_,bs,rfl,SqL.of e,k _ _ _ ⟨col,r.push (.bl _)⟩ q⟩
  · exact g.elim
def gAll:=gBs fun bs=>bs.all id
def gAny:=gBs fun bs=>bs.any id
theorem cb_all {K:PySem.W.Frag}:CbOk C (fun xs H Q=>∃(p:Addr) (bs:List Bool),xs=[.ref p]∧SqL K H p (bs.map V.bl)∧Q (.bl (bs.all id)) H) gAll:=cb_bs
theorem cb_any {K:PySem.W.Frag}:CbOk C (fun xs H Q=>∃(p:Addr) (bs:List Bool),xs=[.ref p]∧SqL K H p (bs.map V.bl)∧Q (.bl (bs.any id)) H) gAny:=cb_bs
abbrev rListOf (K:PySem.W.Frag):List V→Hp→VK→Prop:=fun xs H Q=>∃p ys,xs=[.ref p]∧(SqL K H p ys∨SqT K H p ys)∧∀l,H l=none→Q (.ref l) (upd H l (.lst ys))
def itemsD:PyData→Option (List PyData)
  | .list xs=>some xs
  | .tuple xs=>some xs
  | _=>none
theorem items_rd {col:Addr→Nat} {H:Hp} {v:V} {a:PyData} {ds:List PyData} (t:Red col H v a) (h:itemsD a=some ds):∃p vs,v=.ref p∧(H p=some (.lst vs)∨H p=some (.tup vs))∧ThVs (Z col) H vs ds:=by
  cases a with
  | list ds=>
    cases h
    obtain⟨p,vs,rfl,e,t⟩:=t.lst
    exact⟨p,vs,rfl,.inl e,t⟩
  | tuple ds=>
    cases h
    obtain⟨p,vs,rfl,e,t⟩:=t.tup
    exact⟨p,vs,rfl,.inr e,t⟩
  | _=>cases h
def dListV (i:Nat)  (ρ:List Sl) (Q:List PyData→List Sl→Prop):Prop:=bnd (slotD ρ i) fun a=>bnd (itemsD a) fun ds=>Q ds ρ
theorem pf_listv {i:Nat} {K:PySem.W.Frag} (h:PE X e (tCB (rListOf K) (tCons (tVar i) tNil))):PE X e (fOf C (dListV i)):=PE.wk h fun _ _ _ zz16=>el3 zz16 fun ρ P _ zz17 ht k=>zz17.elim fun col r=>by
  obtain⟨a,ha,ht⟩:=bnd_of ht
  obtain⟨ds,hn,q⟩:=bnd_of ht
  obtain⟨v,ev,t⟩:=r.slot ha
  obtain⟨p,vs,rfl,e,t⟩:=items_rd t hn
  exact⟨_,ev,p,vs,rfl,e.elim (fun e=>.inl (SqL.of e)) (fun e=>.inr (SqT.of e)),fun l hl=>k _ _ _ _ _ ⟨col,r,t⟩ hl q⟩
def dList (ta:DE)  (ρ:List Sl) (Q:List PyData→List Sl→Prop):Prop:=ta ρ fun a ρ'=>bnd (itemsD a) fun ds=>Q ds ρ'
theorem pf_list {K:PySem.W.Frag} (h:PE X e (tCB (rListOf K) (tCons (eOf C ta) tNil))):PE X e (fOf C (dList ta)):=PE.wk h fun _ _ _ zz18=>el3 zz18 fun ρ P _ R ht k=>⟨ρ,P,_,R,ht,fun v d ρ' H' zz19 q=>zz19.elim fun col r=>by
  obtain⟨ds,hn,q⟩:=bnd_of q
  obtain⟨p,vs,rfl,e,t⟩:=items_rd (.th (r.pd _ List.mem_cons_self)) hn
  exact⟨p,vs,rfl,e.elim (fun e=>.inl (SqL.of e)) (fun e=>.inr (SqT.of e)),fun l hl=>k _ _ _ _ _ ⟨col,r.sub fun _ h=>List.mem_cons_of_mem _ h,t⟩ hl q⟩⟩
abbrev DO:=List Sl→(Option Int→List Sl→Prop)→Prop
def oOf (C:DC) (t:DO):TO:=fun σ H Q=>∃ρ P Qd,Rel C ρ σ P H∧t ρ Qd∧∀o ρ' H',Rel C ρ' σ P H'→Qd o ρ'→Q o H'
def oN  (ρ:List Sl) (Q:Option Int→List Sl→Prop):Prop:=Q none ρ
def oS (t:DE)  (ρ:List Sl) (Q:Option Int→List Sl→Prop):Prop:=t ρ fun d ρ'=>match d with
  | .int i=>Q (some i) ρ'
  | _=>False
theorem do_n:PO X none (oOf C oN):=PO.wk po_none fun _ _ _ zz20=>el3 zz20 fun _ _ _ R ht k=>k _ _ _ R ht
theorem do_s (h:PE X e (eOf C t)):PO X (some e) (oOf C (oS t)):=PO.wk (po_some h) fun _ _ _ zz21=>el3 zz21 fun ρ P _ R ht k=>⟨ρ,P,_,R,ht,fun v d ρ' H' R' q=>by
  split at q
  · obtain⟨col,r⟩:=R'
    have t:=r.pd _ List.mem_cons_self
    cases (show ThV (Z col) H' v (.int _) from t)
    exact⟨_,rfl,k _ _ _ (Rel.pop ⟨col,r⟩) q⟩
  · exact q.elim⟩
def cutD (xs:List PyData) (lo hi:Option Int):List PyData:=(xs.drop (HT.sIx xs.length 0 lo)).take (HT.sIx xs.length xs.length hi - HT.sIx xs.length 0 lo)
theorem ThVs.drop {F:Addr→Prop} {H:Hp}:∀{vs:List V} {ds:List PyData} (n:Nat),ThVs F H vs ds→ThVs F H (vs.drop n) (ds.drop n)
  | _,_,0,h=>h
  | _,_,_ + 1,.nil=>.nil
  | _,_,n + 1,.cons _ t=>ThVs.drop n t
theorem ThVs.take {F:Addr→Prop} {H:Hp}:∀{vs:List V} {ds:List PyData} (n:Nat),ThVs F H vs ds→ThVs F H (vs.take n) (ds.take n)
  | _,_,0,_=>.nil
  | _,_,_ + 1,.nil=>.nil
  | _,_,n + 1,.cons x t=>.cons x (ThVs.take n t)
theorem cut_th {F:Addr→Prop} {H:Hp} {vs:List V} {ds:List PyData} (t:ThVs F H vs ds) (lo hi:Option Int):ThVs F H (cutV vs lo hi) (cutD ds lo hi):=by
  unfold cutV cutD
  rw[t.len]
  exact (t.drop _).take _
def listD:PyData→Option (List PyData)
  | .list xs=>some xs
  | _=>none
def dSlV (i:Nat) (tl th:DO)  (ρ:List Sl) (Q:List PyData→List Sl→Prop):Prop:=bnd (slotD ρ i) fun _=>tl ρ fun lo ρ1=>th ρ1 fun hi ρ2=>bnd (slotD ρ2 i) fun a=>bnd (listD a) fun xs=>Q (cutD xs lo hi) ρ2
theorem pf_slv {i:Nat} {lo hi:Option Expr} {p2:Pos} {tl th:DO} (ha:PE X a (tVar i)) (hl:PO X lo (oOf C tl)) (hh:PO X hi (oOf C th)):PE X (.Subscript a (.Slice lo hi none p2) pos) (fOf C (dSlV i tl th)):=PE.wk (pe_slice sl_list ha hl hh) fun σ H Q zz22=>el3 zz22 fun ρ P Qd zz23 ht k=>zz23.elim fun col0 r0=>by
  obtain⟨_,h0,ht⟩:=bnd_of ht
  obtain⟨v,ev,_⟩:=r0.slot h0
  refine⟨v,ev,ρ,P,_,⟨col0,r0⟩,ht,fun lo ρ1 H1 R1 h1=>⟨ρ1,P,_,R1,h1,fun hi ρ2 H2 R2 h2=>?_⟩⟩
  obtain⟨a,ha,h2⟩:=bnd_of h2
  obtain⟨xs,hx,q⟩:=bnd_of h2
  obtain⟨col,r⟩:=R2
  obtain⟨v',ev',t1⟩:=r.slot ha
  rw[ev] at ev'
  cases ev'
  cases a with
  | list ds=>
    cases hx
    obtain⟨p,vs,rfl,e,t⟩:=t1.lst
    exact⟨p,vs,rfl,SqL.of e,fun b hb=>k _ _ _ _ _ ⟨col,r,cut_th t lo hi⟩ hb q⟩
  | _=>cases hx
def dSl (ta:DE) (tl th:DO)  (ρ:List Sl) (Q:List PyData→List Sl→Prop):Prop:=ta ρ fun a ρ0=>tl ρ0 fun lo ρ1=>th ρ1 fun hi ρ2=>bnd (listD a) fun xs=>Q (cutD xs lo hi) ρ2
theorem pf_sl {lo hi:Option Expr} {p2:Pos} {tl th:DO} (ha:PE X a (eOf C ta)) (hl:PO X lo (oOf C tl)) (hh:PO X hi (oOf C th)):PE X (.Subscript a (.Slice lo hi none p2) pos) (fOf C (dSl ta tl th)):=PE.wk (pe_slice sl_list ha hl hh) fun σ H Q zz24=>el3 zz24 fun ρ P Qd R ht k=>
  ⟨ρ,P,_,R,ht,fun v a ρ0 H0 R0 h0=>⟨ρ0,_,_,R0,h0,fun lo ρ1 H1 R1 h1=>⟨ρ1,_,_,R1,h1,fun hi ρ2 H2 R2 h2=>by
    obtain⟨xs,hx,q⟩:=bnd_of h2
    obtain⟨col,r⟩:=R2
    cases a with
    | list ds=>
      cases hx
      obtain⟨p,vs,rfl,e,t⟩:=Red.lst (.th (r.pd _ List.mem_cons_self))
      exact⟨p,vs,rfl,SqL.of e,fun b hb=>k _ _ _ _ _ ⟨col,r.sub fun _ h=>List.mem_cons_of_mem _ h,cut_th t lo hi⟩ hb q⟩
    | _=>cases hx⟩⟩⟩
def dCat (ta tb:DE)  (ρ:List Sl) (Q:List PyData→List Sl→Prop):Prop:=ta ρ fun a ρ1=>tb ρ1 fun b ρ2=>bnd (listD a) fun xs=>bnd (listD b) fun ys=>xs.length + ys.length≤100000∧Q (xs++ys) ρ2
theorem pf_cat (ha:PE X a (eOf C ta)) (hb:PE X b (eOf C tb)):PE X (.BinOp a .Add b pos) (fOf C (dCat ta tb)):=PE.wk (pe_op op_cat ha hb) fun σ H Q zz25=>el3 zz25 fun ρ P Qd R ht k=>
  ⟨ρ,P,_,R,ht,fun v a ρ1 H1 R1 h1=>⟨ρ1,_,_,R1,h1,fun w b ρ2 H2 R2 h2=>by
    obtain⟨xs,hx,h2⟩:=bnd_of h2
    obtain⟨ys,hy,h3,q⟩:=bnd_of h2
    obtain⟨col,r,t1,t2⟩:=th2 R2
    cases a with
    | list ds=>
      cases b with
      | list es=>
        cases hx;cases hy
        obtain⟨p,vs,rfl,e,t⟩:=Red.lst (.th t1)
        obtain⟨p',vs',rfl,e',t'⟩:=Red.lst (.th t2)
        exact⟨p,p',vs,vs',rfl,rfl,e,e',by rw[t.len,t'.len,sizeLine_eq];lia,fun b hb=>k _ _ _ _ _ ⟨col,r,t.append t'⟩ hb q⟩
      | _=>cases hy
    | _=>cases hx⟩⟩
def repD (xs:List PyData) (n:Nat):List PyData:=(List.replicate n xs).flatten
theorem rep_th {F:Addr→Prop} {H:Hp} {vs:List V} {ds:List PyData} (t:ThVs F H vs ds):∀n:Nat,ThVs F H (List.replicate n vs).flatten (repD ds n)
  | 0=>.nil
  | n + 1=>by
    unfold repD
    rw[List.replicate_succ,List.replicate_succ,List.flatten_cons,List.flatten_cons]
    exact t.append (rep_th t n)
def dRep (ta tb:DE)  (ρ:List Sl) (Q:List PyData→List Sl→Prop):Prop:=ta ρ fun a ρ1=>tb ρ1 fun b ρ2=>match b with
  | .int k=>bnd (listD a) fun xs=>(-1000≤k∧k≤1000∧xs.length≤100)∧Q (repD xs k.toNat) ρ2
  | _=>False
theorem pf_rep (ha:PE X a (eOf C ta)) (hb:PE X b (eOf C tb)):PE X (.BinOp a .Mult b pos) (fOf C (dRep ta tb)):=PE.wk (pe_op op_rep ha hb) fun σ H Q zz26=>el3 zz26 fun ρ P Qd R ht k=>
  ⟨ρ,P,_,R,ht,fun v a ρ1 H1 R1 h1=>⟨ρ1,_,_,R1,h1,fun w b ρ2 H2 R2 h2=>by
    split at h2
    · obtain⟨xs,hx,⟨h3,h4,h5⟩,q⟩:=bnd_of h2
      obtain⟨col,r,t1,t2⟩:=th2 R2
      cases t2
      cases a with
      | list ds=>
        cases hx
        obtain⟨p,vs,rfl,e,t⟩:=Red.lst (.th t1)
        rename_i kk
        refine⟨p,kk,vs,rfl,rfl,e,by lia,by lia,?_,fun b hb=>k _ _ _ _ _ ⟨col,r,rep_th t _⟩ hb q⟩
        have hl:=t.len
        rw[←hl] at h5
        have:vs.length * kk.toNat≤100 * 1000:=Nat.mul_le_mul h5 (by lia)
        rw[sizeLine_eq]
        lia
      | _=>cases hx
    · exact h2.elim⟩⟩
def tyD:PyData→Option String
  | .none=>some "NoneType"
  | .bool _=>some "bool"
  | .int _=>some "int"
  | .str _=>some "str"
  | .list _=>some "list"
  | .tuple _=>some "tuple"
  | .dict _=>some "dict"
theorem ty_rd {K:PySem.W.Frag} {col:Addr→Nat} {H:Hp} {v:V} {a:PyData} (t:Red col H v a):∃T,tyD a=some T∧TyOf2 K H v (.type T):=by
  cases t with
  | th t=>cases t with
    | non=>exact⟨_,rfl,.o .non⟩
    | bl b=>exact⟨_,rfl,.o (.bl b)⟩
    | int i=>exact⟨_,rfl,.o (.int i)⟩
    | str x=>exact⟨_,rfl,.o (.str x)⟩
    | lst _ e _=>exact⟨_,rfl,.o (.lst e)⟩
    | tup _ e _=>exact⟨_,rfl,.o (.tup e)⟩
    | dic _ e u=>cases u with
      | t=>exact⟨_,rfl,.o (.dT e)⟩
      | k i j=>exact⟨_,rfl,.o (.dK e)⟩
      | f o ks=>exact⟨_,rfl,.f e⟩
  | ls e _=>exact⟨_,rfl,.o (.lst e)⟩
def isiD (T:String) (d:PyData):Bool:=match tyD d with
  | some t=>t == T||(T == "int" &&t == "bool")
  | none=>false
def TyOk (K:PySem.W.Frag) (T:String):Prop:=∀d t,tyD d=some t→PySem.W.kitOne K (.type t) (.type T)=some (isiD T d)
abbrev rIsi (K:PySem.W.Frag):List V→Hp→VK→Prop:=fun xs H Q=>∃x cv c t b,xs=[x,cv]∧RelV cv c∧TyOf2 K H x t∧PySem.W.kitOne K t c=some b∧Q (.bl b) H
def dIsiV (i:Nat) (T:String)  (ρ:List Sl) (Q:PyData→List Sl→Prop):Prop:=bnd (slotD ρ i) fun a=>Q (.bool (isiD T a)) ρ
theorem pd_isiv {i:Nat} {K:PySem.W.Frag} {T:String} (hT:TyOk K T) (h:PE X e (tCB (rIsi K) (tCons (tVar i) (tCons (tC (.ty T)) tNil)))):PE X e (eOf C (dIsiV i T)):=PE.wk h fun _ _ _ zz27=>el3 zz27 fun ρ P _ zz28 ht k=>zz28.elim fun col r=>by
  obtain⟨a,ha,q⟩:=bnd_of ht
  obtain⟨v,ev,t⟩:=r.slot ha
  obtain⟨t',e1,e2⟩:=ty_rd (K:=K) t
  exact⟨v,ev,v,.ty T,.type T,_,_,rfl,rfl,e2,hT a t' e1,k _ _ _ _ ⟨col,r.push (.bl _)⟩ q⟩
def dIsi (ta:DE) (T:String)  (ρ:List Sl) (Q:PyData→List Sl→Prop):Prop:=ta ρ fun a ρ'=>Q (.bool (isiD T a)) ρ'
theorem ty_int {K:PySem.W.Frag}:TyOk K "int" :=fun d t h=>by cases d <;> cases h <;> with_unfolding_all rfl
theorem ty_bool {K:PySem.W.Frag}:TyOk K "bool" :=fun d t h=>by cases d <;> cases h <;> with_unfolding_all rfl
theorem ty_list {K:PySem.W.Frag}:TyOk K "list" :=fun d t h=>by cases d <;> cases h <;> with_unfolding_all rfl
end
inductive Md where
  | sh
  | bo
  | hd
  | b2
  | bd
def rowsL:List PyData→Option (List (List PyData))
  | []=>some []
  | .list ds::r=>(rowsL r).map (ds::·)
  | _=>none
def rowsD:PyData→Option (List (List PyData))
  | .list xs=>rowsL xs
  | _=>none
abbrev lls (dss:List (List PyData)):List PyData:=dss.map PyData.list
theorem rowsL_eq {xs:List PyData} {dss:List (List PyData)} (h:rowsL xs=some dss):xs=lls dss:=by
  induction xs generalizing dss with
  | nil=>cases h;rfl
  | cons x r ih=>
    cases x with
    | list ds=>
      have h':(rowsL r).map (ds::·)=some dss:=h
      cases q:rowsL r with
      | none=>rw[q] at h';cases h'
      | some ess=>
        rw[q] at h'
        cases h'
        rw[ih q];rfl
    | _=>cases h
theorem rowsD_eq {d:PyData} {dss:List (List PyData)} (h:rowsD d=some dss):d=.list (lls dss):=by
  cases d with
  | list xs=>rw[rowsL_eq h]
  | _=>cases h
theorem th_rows {F:Addr→Prop} {H:Hp} {dss:List (List PyData)} {vs:List V} (t:ThVs F H vs (lls dss)):∃as:List Addr,vs=as.map V.ref∧Rws F F H as dss:=by
  induction dss generalizing vs with
  | nil=>cases t;exact⟨[],rfl,.nil⟩
  | cons ds dss ih=>
    cases t with
    | cons x y=>
      obtain⟨as,rfl,r⟩:=ih y
      cases x with
      | lst n e z=>exact⟨_::as,rfl,.cons n e z r⟩
def slot2 (ρ:List Sl) (i:Nat):Option (List (List PyData)):=match ρ[i]? with
  | some (.o2 dss)=>some dss
  | some (.b2 dss)=>some dss
  | some (.sh d)=>rowsD d
  | _=>none
def ArgR (F:Addr→Prop) (hand:Option (Addr×Addr)) (H:Hp) (v:V) (d:PyData):Md→Prop
  | .sh=>ThV F H v d
  | .bo=>∃a vs ds,v=.ref a∧d=.list ds∧(∀q,hand=some q→a≠q.1)∧H a=some (.lst vs)∧ThVs F H vs ds
  | .hd=>∃q,hand=some q∧v=.ref q.1
  | .b2=>∃a as dss,v=.ref a∧d=.list (lls dss)∧(∀q,hand=some q→a≠q.1)∧H a=some (.lst (as.map V.ref))∧Rws (fun b=>∀q,hand=some q→b≠q.1) F H as dss
  | .bd=>ThV (fun b=>∀q,hand=some q→b≠q.1) H v d
inductive ArgsR (F:Addr→Prop) (hand:Option (Addr×Addr)) (H:Hp):List Md→List V→List PyData→Prop
  | nil:ArgsR F hand H [] [] []
  | cons {m v d ms vs ds}:ArgR F hand H v d m→ArgsR F hand H ms vs ds→ArgsR F hand H (m::ms) (v::vs) (d::ds)
theorem ArgsR.len {F:Addr→Prop} {hand:Option (Addr×Addr)} {H:Hp} {ms:List Md} {vs:List V} {ds:List PyData} (t:ArgsR F hand H ms vs ds):vs.length=ms.length∧ds.length=ms.length:=by
  induction t with
  | nil=>exact⟨rfl,rfl⟩
  | cons _ t ih=>exact⟨congrArg (· + 1) ih.1,congrArg (· + 1) ih.2⟩
abbrev DSp:=List PyData→(PyData→Prop)→Prop
def spD (ms:List Md) (sp:DSp):Sp:=fun vs H Q _=>∃F hand ds Qd,((∀b,H b=none→F b)∧∀b xs,H b=some (.tup xs)→F b)∧(∀q,hand=some q→¬ F q.1)∧Hq hand H∧ArgsR F hand H ms vs ds∧sp ds Qd∧∀d v H',Qd d→ThV F H' v d→Kq hand H H'→Hq hand H'→Q v H'
inductive Ar where
  | v (d:PyData)
  | s (i:Nat)
  | w (d:PyData)
inductive ArV (σ:St) (P:List Pe):List V→List Ar→Prop
  | nil:ArV σ P [] []
  | v {v d vs as}:Pe.v v d∈P→ArV σ P vs as→ArV σ P (v::vs) (.v d::as)
  | s {i v vs as}:σ[i]?=some (some v)→ArV σ P vs as→ArV σ P (v::vs) (.s i::as)
  | w {v d vs as}:Pe.w v d∈P→ArV σ P vs as→ArV σ P (v::vs) (.w d::as)
abbrev DA:=List Sl→(List Ar→List Sl→Prop)→Prop
def aOf (C:DC) (t:DA):TA:=fun σ H Q=>∃ρ P Qd,Rel C ρ σ P H∧t ρ Qd∧∀vs as ρ' P' H',Rel C ρ' σ P' H'→(∀p∈P,p∈P')→ArV σ P' vs as→Qd as ρ'→Q vs H'
def isSl (ρ:List Sl) (i:Nat):Bool:=match ρ[i]? with
  | some .no=>false
  | none=>false
  | _=>true
section
variable {X:Cx} {C:DC} {e:Expr} {es:List Expr} {t:DE} {u:DA}
def aNil  (ρ:List Sl) (Q:List Ar→List Sl→Prop):Prop:=Q [] ρ
def aV (t:DE) (u:DA)  (ρ:List Sl) (Q:List Ar→List Sl→Prop):Prop:=t ρ fun d ρ1=>u ρ1 fun as ρ2=>Q (.v d::as) ρ2
def aS (i:Nat) (u:DA)  (ρ:List Sl) (Q:List Ar→List Sl→Prop):Prop:=isSl ρ i=true∧u ρ fun as ρ2=>Q (.s i::as) ρ2
theorem da_nil:PA X [] (aOf C aNil):=PA.wk pa_nil fun _ _ _ zz31=>el3 zz31 fun _ _ _ R ht k=>k [] [] _ _ _ R (fun _ h=>h) .nil ht
theorem da_v (ha:PE X e (eOf C t)) (hr:PA X es (aOf C u)) (hs:starEach (e::es) X.env=(false,eval e X.env)::starEach es X.env:=by rfl):PA X (e::es) (aOf C (aV t u)):=PA.wk (pa_cons ha hr hs) fun _ _ _ zz32=>el3 zz32 fun ρ P _ R ht k=>
  ⟨ρ,P,_,R,ht,fun _ _ ρ1 _ R1 h1=>⟨ρ1,_,_,R1,h1,fun _ _ _ _ _ R2 s2 p2 h2=>k _ _ _ _ _ R2 (fun p hp=>s2 p (List.mem_cons_of_mem _ hp)) (.v (s2 _ List.mem_cons_self) p2) h2⟩⟩
theorem slot_at {col:Addr→Nat} {ρ:List Sl} {σ:St} {P:List Pe} {H:Hp} {i:Nat} (r:RelC C col ρ σ P H) (h:isSl ρ i=true):∃v,σ[i]?=some (some v):=by
  unfold isSl at h
  split at h
  · cases h
  · cases h
  · rename_i s n1 n2
    cases q:ρ[i]? with
    | none=>exact absurd q n2
    | some s=>
      have z:=r.sl i s q
      cases s with
      | no=>exact absurd q n1
      | sh d=>obtain⟨v,e,_⟩:=z;exact⟨v,join_some e⟩
      | ow d=>obtain⟨a,_,e,_⟩:=z;exact⟨_,join_some e⟩
      | bo d=>obtain⟨a,_,e,_⟩:=z;exact⟨_,join_some e⟩
      | hd=>obtain⟨q,_,e⟩:=z;exact⟨_,join_some e⟩
      | o2 d=>obtain⟨a,_,e,_⟩:=z;exact⟨_,join_some e⟩
      | b2 d=>obtain⟨a,_,e,_⟩:=z;exact⟨_,join_some e⟩
      | di f ks=>obtain⟨a,e,_⟩:=z;exact⟨_,join_some e⟩
      | dm f ks=>obtain⟨a,e,_⟩:=z;exact⟨_,join_some e⟩
      | bd d=>obtain⟨v,e,_⟩:=z;exact⟨v,join_some e⟩
      | ot d=>obtain⟨v,e,_⟩:=z;exact⟨v,join_some e⟩
      | ob R=>obtain⟨v,e,_⟩:=z;exact⟨v,join_some e⟩
theorem RelC.le {col:Addr→Nat} {ρ:List Sl} {σ:St} {P:List Pe} {H:Hp} (r:RelC C col ρ σ P H) {v:V} {d:PyData} (t:ThV (Le C) C.H0 v d):ThV (Le C) H v d:=t.mv fun b o g e=>⟨g,r.kq b o e g.2⟩
theorem RelC.slot2 {col:Addr→Nat} {ρ:List Sl} {σ:St} {P:List Pe} {H:Hp} (r:RelC C col ρ σ P H) {i:Nat} {dss:List (List PyData)} (h:slot2 ρ i=some dss):∃a as,σ[i]?=some (some (.ref a))∧(∀q,C.hand=some q→a≠q.1)∧H a=some (.lst (as.map V.ref))∧Rws (fun b=>∀q,C.hand=some q→b≠q.1) (Z col) H as dss:=by
  unfold My.slot2 at h
  split at h
  · rename_i dss' e
    cases h
    obtain⟨a,as,e1,c,e2,nd,t⟩:=r.sl i _ e
    exact⟨a,as,join_some e1,r.notH (by have:=c.1;lia),e2,t.mv (fun b o z e=>⟨z,e⟩) fun b o g e=>⟨r.notH (by have:=g.1;lia),e⟩⟩
  · rename_i dss' e
    cases h
    obtain⟨a,as,e1,c,e2,t⟩:=r.sl i _ e
    exact⟨a,as,join_some e1,c.2,e2,t.mv (fun b o z e=>⟨z,e⟩) fun b o g e=>⟨g.2,e⟩⟩
  · rename_i d e
    cases rowsD_eq h
    obtain⟨v,e1,t⟩:=r.sl i _ e
    cases t with
    | lst n e2 t=>
      obtain⟨as,rfl,t2⟩:=th_rows t
      exact⟨_,as,join_some e1,r.notH (by rw[show col _=0 from n];decide),e2,t2.mv (fun b o z e=>⟨z,e⟩) fun b o g e=>⟨r.notH (by rw[show col b=0 from g];decide),e⟩⟩
  · cases h
theorem da_s {i:Nat} (ha:PE X e (tVar i)) (hr:PA X es (aOf C u)) (hs:starEach (e::es) X.env=(false,eval e X.env)::starEach es X.env:=by rfl):PA X (e::es) (aOf C (aS i u)):=PA.wk (pa_cons ha hr hs) fun σ H Q zz33=>el3 zz33 fun ρ P Qd zz34 ht k=>zz34.elim fun col r=>by
  obtain⟨v,ev⟩:=slot_at r ht.1
  exact⟨v,ev,ρ,P,_,⟨col,r⟩,ht.2,fun _ _ _ _ _ R2 s2 p2 h2=>k _ _ _ _ _ R2 s2 (.s ev p2) h2⟩
def arD (ρ:List Sl) (m:Md) (a:Ar):Option PyData:=match m,a with
  | .sh,.v d=>some d
  | .bo,.v (.list ds)=>some (.list ds)
  | .bo,.s i=>(slotD ρ i).bind fun d=>(listD d).map PyData.list
  | .hd,.s i=>match ρ[i]? with
    | some .hd=>some .none
    | _=>none
  | .b2,.s i=>(slot2 ρ i).map fun dss=>.list (lls dss)
  | .bd,.v d=>some d
  | .bd,.w d=>some d
  | .bd,.s i=>match ρ[i]? with
    | some (.bd d)=>some d
    | some (.sh d)=>some d
    | _=>none
  | _,_=>none
def arsD (ρ:List Sl):List Md→List Ar→Option (List PyData)
  | [],[]=>some []
  | m::ms,a::as=>(arD ρ m a).bind fun d=>(arsD ρ ms as).map (d::·)
  | _,_=>none
theorem listD_eq {d:PyData} {xs:List PyData} (h:listD d=some xs):d=.list xs:=by
  cases d <;> cases h
  rfl
theorem ar_ok {col:Addr→Nat} {ρ:List Sl} {σ:St} {P:List Pe} {H:Hp} (r:RelC C col ρ σ P H) {m:Md} {v:V} {d:PyData} {a:Ar} (ha:match a with | .v d=>Pe.v v d∈P | .s i=>σ[i]?=some (some v) | .w d=>Pe.w v d∈P) (h:arD ρ m a=some d):ArgR (Z col) C.hand H v d m:=by
  unfold arD at h
  split at h
  · cases h;exact r.pd _ ha
  · cases h
    have z:ThV (Z col) H v (.list _):=r.pd _ ha
    cases z with
    | lst za e t=>exact⟨_,_,_,rfl,rfl,r.notH (by rw[show col _=0 from za];decide),e,t⟩
  · rename_i i
    have ha':σ[i]?=some (some v):=ha
    cases q:slotD ρ i with
    | none=>rw[q] at h;cases h
    | some d'=>
      rw[q] at h
      cases q2:listD d' with
      | none=>
        have h':(listD d').map PyData.list=some d:=h
        rw[q2] at h';cases h'
      | some xs=>
        have h':(listD d').map PyData.list=some d:=h
        rw[q2] at h'
        cases h'
        have:=listD_eq q2
        subst this
        unfold slotD at q
        split at q
        · rename_i d'' e
          cases q
          obtain⟨v',e1,t⟩:=r.sl i _ e
          rw[join_some e1] at ha'
          cases ha'
          cases t with
          | lst za e t=>exact⟨_,_,_,rfl,rfl,r.notH (by rw[show col _=0 from za];decide),e,t⟩
        · rename_i ds e
          cases q
          obtain⟨a,vs,e1,c,_,e2,t⟩:=r.sl i _ e
          rw[join_some e1] at ha'
          cases ha'
          exact⟨_,_,_,rfl,rfl,r.notH (by lia),e2,t⟩
        · rename_i ds e
          cases q
          obtain⟨a,vs,e1,c,n,e2,t⟩:=r.sl i _ e
          rw[join_some e1] at ha'
          cases ha'
          exact⟨_,_,_,rfl,rfl,n,e2,t⟩
        · cases q
  · rename_i i
    have ha':σ[i]?=some (some v):=ha
    split at h
    · rename_i e
      cases h
      obtain⟨q,e1,e2⟩:=r.sl i _ e
      rw[join_some e2] at ha'
      cases ha'
      exact⟨q,e1,rfl⟩
    · cases h
  · rename_i i
    have ha':σ[i]?=some (some v):=ha
    cases q:slot2 ρ i with
    | none=>rw[q] at h;cases h
    | some dss=>
      rw[q] at h
      cases h
      obtain⟨a,as,e1,n,e2,t⟩:=r.slot2 q
      rw[e1] at ha'
      cases ha'
      exact⟨a,as,dss,rfl,rfl,n,e2,t⟩
  · cases h
    exact ThV.mv (fun b o z e=>⟨r.notH (by rw[show col b=0 from z];decide),e⟩) (r.pd _ ha)
  · cases h
    exact ThV.mv (fun b o z e=>⟨z.2,e⟩) (r.le (r.pd _ ha))
  · rename_i i
    have ha':σ[i]?=some (some v):=ha
    split at h
    · rename_i e
      cases h
      obtain⟨v',e1,t⟩:=r.sl i _ e
      rw[join_some e1] at ha'
      cases ha'
      exact ThV.mv (fun b o z e=>⟨z.2,e⟩) (r.le t)
    · rename_i e
      cases h
      obtain⟨v',e1,t⟩:=r.sl i _ e
      rw[join_some e1] at ha'
      cases ha'
      exact ThV.mv (fun b o z e=>⟨r.notH (by rw[show col b=0 from z];decide),e⟩) t
    · cases h
  · cases h
theorem ars_ok {col:Addr→Nat} {ρ:List Sl} {σ:St} {P:List Pe} {H:Hp} (r:RelC C col ρ σ P H):∀{ms:List Md} {vs:List V} {ds:List PyData} {as:List Ar},ArV σ P vs as→arsD ρ ms as=some ds→ArgsR (Z col) C.hand H ms vs ds
  | [],_,_,_,.nil,h=>by cases h;exact .nil
  | [],_,_,_,.v _ _,h=>by cases h
  | [],_,_,_,.s _ _,h=>by cases h
  | [],_,_,_,.w _ _,h=>by cases h
  | _::_,_,_,_,.nil,h=>by cases h
  | m::ms,_,ds,_,.v (d:=d0) (as:=as) hm t,h=>by
    have h':((arD ρ m (.v d0)).bind fun d=>(arsD ρ ms as).map (d::·))=some ds:=h
    cases q:arD ρ m (.v d0) with
    | none=>rw[q] at h';cases h'
    | some d=>
      rw[q] at h'
      have h2:(arsD ρ ms as).map (d::·)=some ds:=h'
      cases q2:arsD ρ ms as with
      | none=>rw[q2] at h2;cases h2
      | some ds'=>
        rw[q2] at h2
        cases h2
        exact .cons (ar_ok r (a:=.v d0) hm q) (ars_ok r t q2)
  | m::ms,_,ds,_,.s (i:=i) (as:=as) hm t,h=>by
    have h':((arD ρ m (.s i)).bind fun d=>(arsD ρ ms as).map (d::·))=some ds:=h
    cases q:arD ρ m (.s i) with
    | none=>rw[q] at h';cases h'
    | some d=>
      rw[q] at h'
      have h2:(arsD ρ ms as).map (d::·)=some ds:=h'
      cases q2:arsD ρ ms as with
      | none=>rw[q2] at h2;cases h2
      | some ds'=>
        rw[q2] at h2
        cases h2
        exact .cons (ar_ok r (a:=.s i) hm q) (ars_ok r t q2)
  | m::ms,_,ds,_,.w (d:=d0) (as:=as) hm t,h=>by
    have h':((arD ρ m (.w d0)).bind fun d=>(arsD ρ ms as).map (d::·))=some ds:=h
    cases q:arD ρ m (.w d0) with
    | none=>rw[q] at h';cases h'
    | some d=>
      rw[q] at h'
      have h2:(arsD ρ ms as).map (d::·)=some ds:=h'
      cases q2:arsD ρ ms as with
      | none=>rw[q2] at h2;cases h2
      | some ds'=>
        rw[q2] at h2
        cases h2
        exact .cons (ar_ok r (a:=.w d0) hm q) (ars_ok r t q2)
def dCall (ms:List Md) (sp:DSp) (u:DA)  (ρ:List Sl) (Q:PyData→List Sl→Prop):Prop:=u ρ fun as ρ'=>bnd (arsD ρ' ms as) fun ds=>sp ds fun d=>Q d ρ'
theorem pd_call {ms:List Md} {sp:DSp} {E:XK} (h:PE X e (tCall (spD ms sp) [] E (aOf C u))):PE X e (eOf C (dCall ms sp u)):=PE.wk h fun σ H Q zz35=>el3 zz35 fun ρ P Qd R ht k=>⟨ρ,P,_,R,ht,fun vs as ρ' P' H' zz36 s p q=>zz36.elim fun col r=>by
  obtain⟨ds,hds,q⟩:=bnd_of q
  rw[List.append_nil]
  obtain⟨col,r,tp⟩:=r.norm
  refine⟨Z col,C.hand,ds,_,⟨r.fresh,tp⟩,fun q hq z=>?_,r.hq,ars_ok r p hds,q,fun d v H2 q2 t2 k2 h2=>k _ _ _ _ ⟨col,(((r.mv k2 h2).sub s)).push t2⟩ q2⟩
  have:=r.hnd q hq
  rw[show col q.1=0 from z] at this
  cases this⟩
end
structure ItOk (C:DC) (J:It) (xs:List PyData) (P:List Pe):Prop where
  go:∀{i:Nat} {ρ:List Sl} {σ:St} {P':List Pe} {H:Hp},(∀p∈P,p∈P')→Rel C ρ σ P' H→i < xs.length→J.go i H
  yld:∀{i:Nat} {ρ:List Sl} {σ:St} {P':List Pe} {H H':Hp} {x:V} {d:PyData},(∀p∈P,p∈P')→Rel C ρ σ P' H→xs[i]?=some d→J.yld i H x H'→Rel C ρ σ (.v x d::P') H'
  stop:∀{ρ:List Sl} {σ:St} {P':List Pe} {H:Hp},(∀p∈P,p∈P')→Rel C ρ σ P' H→J.stop xs.length H
theorem th_lst {F:Addr→Prop} {H:Hp} {v:V} {xs:List PyData} (t:ThV F H v (.list xs)):∃a vs,v=.ref a∧F a∧H a=some (.lst vs)∧ThVs F H vs xs:=by
  cases t with
  | lst za e t=>exact⟨_,_,rfl,za,e,t⟩
theorem th_tup {F:Addr→Prop} {H:Hp} {v:V} {xs:List PyData} (t:ThV F H v (.tuple xs)):∃a vs,v=.ref a∧F a∧H a=some (.tup vs)∧ThVs F H vs xs:=by
  cases t with
  | tup za e t=>exact⟨_,_,rfl,za,e,t⟩
def iOf (C:DC) (t:DF):TI:=fun σ H R=>∃ρ P Qd,Rel C ρ σ P H∧t ρ Qd∧∀xs ρ' P' H' J,Rel C ρ' σ P' H'→(∀p∈P,p∈P')→ItOk C J xs P'→Qd xs ρ'→R J H'
section
variable {X:Cx} {C:DC} {tg e:Expr} {t:DE} {u:DF} {pos:Pos}
theorem PI.wk {tg e:Expr} {w w':TI} (h:PI X tg e w) (f:∀σ H R,w' σ H R→w σ H R):PI X tg e w':=fun pins s σ H R I q=>h pins s σ H R I (f σ H R q)
theorem it_list {K:PySem.W.Frag} {a:Addr} {vs:List V} {xs:List PyData} {P:List Pe}:ItOk C (Itl K a) xs (.n a (.lst vs)::.s vs xs::P) where
  go:=fun {i ρ σ P' H} s R hi=>by
    obtain⟨col,r⟩:=R
    have h1:=r.pd _ (s _ List.mem_cons_self)
    have h2:ThVs (Z col) H vs xs:=r.pd _ (s _ (List.mem_cons_of_mem _ List.mem_cons_self))
    have hl:=h2.len
    exact⟨vs,vs[i],SqL.of h1.2.2,List.getElem?_eq_getElem (by lia)⟩
  yld:=fun {i ρ σ P' H H' x d} s R hi y=>by
    obtain⟨e,y⟩:=y
    subst e
    obtain⟨col,r⟩:=R
    have h1:=r.pd _ (s _ List.mem_cons_self)
    have h2:ThVs (Z col) H' vs xs:=r.pd _ (s _ (List.mem_cons_of_mem _ List.mem_cons_self))
    have hx:=y vs (SqL.of h1.2.2)
    obtain⟨d',e1,t⟩:=h2.get hx
    rw[hi] at e1
    cases e1
    exact⟨col,r.push t⟩
  stop:=fun {ρ σ P' H} s R=>by
    obtain⟨col,r⟩:=R
    have h1:=r.pd _ (s _ List.mem_cons_self)
    have h2:ThVs (Z col) H vs xs:=r.pd _ (s _ (List.mem_cons_of_mem _ List.mem_cons_self))
    have hl:=h2.len
    exact⟨vs,SqL.of h1.2.2,by lia⟩
def dIl (t:DE)  (ρ:List Sl) (Q:List PyData→List Sl→Prop):Prop:=t ρ fun d ρ'=>bnd (listD d) fun xs=>Q xs ρ'
theorem di_list (h:PE X e (eOf C t)):PI X tg e (iOf C (dIl t)):=PI.wk (pi_list h) fun _ _ _ zz1=>el3 zz1 fun ρ P _ R ht k=>⟨ρ,P,_,R,ht,fun v d ρ' H' zz2 q=>zz2.elim fun col r=>by
  obtain⟨xs,hx,q⟩:=bnd_of q
  have:=listD_eq hx
  subst this
  obtain⟨a,vs,rfl,za,e1,t1⟩:=th_lst (show ThV (Z col) H' v (.list xs) from r.pd _ List.mem_cons_self)
  refine⟨a,rfl,⟨vs,SqL.of e1⟩,k xs ρ' (.n a (.lst vs)::.s vs xs::P) H' _ ⟨col,?_⟩ (fun _ h=>List.mem_cons_of_mem _ (List.mem_cons_of_mem _ h)) it_list q⟩
  exact ((r.sub fun _ h=>List.mem_cons_of_mem _ h).add (x:=.s vs xs) t1).add (x:=.n a (.lst vs)) ⟨by rw[show col a=0 from za];decide,r.notH (by rw[show col a=0 from za];decide),e1⟩⟩
def tupD:PyData→Option (List PyData)
  | .tuple xs=>some xs
  | _=>none
def dIt (t:DE)  (ρ:List Sl) (Q:List PyData→List Sl→Prop):Prop:=t ρ fun d ρ'=>bnd (tupD d) fun xs=>Q xs ρ'
def dIv (i:Nat)  (ρ:List Sl) (Q:List PyData→List Sl→Prop):Prop:=match ρ[i]? with
  | some (.sh (.list xs))=>Q xs ρ
  | some (.ow xs)=>Q xs (ρ.set i (.sh (.list xs)))
  | some (.bo xs)=>Q xs ρ
  | _=>False
theorem di_var {i:Nat} (h:PE X e (tVar i)):PI X tg e (iOf C (dIv i)):=PI.wk (pi_list h) fun σ H R' zz5=>el3 zz5 fun ρ P Qd zz6 ht k=>zz6.elim fun col r=>by
  unfold dIv at ht
  split at ht
  · rename_i xs e
    obtain⟨v,e1,t⟩:=r.sl i _ e
    obtain⟨a,vs,rfl,za,e2,t1⟩:=th_lst t
    · refine⟨_,join_some e1,a,rfl,⟨vs,SqL.of e2⟩,k xs ρ (.n a (.lst vs)::.s vs xs::P) H _ ⟨col,?_⟩ (fun _ h=>List.mem_cons_of_mem _ (List.mem_cons_of_mem _ h)) it_list ht⟩
      exact (r.add (x:=.s vs xs) t1).add (x:=.n a (.lst vs)) ⟨by rw[show col a=0 from za];decide,r.notH (by rw[show col a=0 from za];decide),e2⟩
  · rename_i xs e
    obtain⟨a,e1,col',r'⟩:=r.freeze e
    obtain⟨a',vs,ea,za,e2,t1⟩:=th_lst (show ThV (Z col') H (.ref a) (.list xs) from r'.pd _ List.mem_cons_self)
    cases ea
    · refine⟨_,join_some e1,a,rfl,⟨vs,SqL.of e2⟩,k xs _ (.n a (.lst vs)::.s vs xs::P) H _ ⟨col',?_⟩ (fun _ h=>List.mem_cons_of_mem _ (List.mem_cons_of_mem _ h)) it_list ht⟩
      exact ((r'.sub fun _ h=>List.mem_cons_of_mem _ h).add (x:=.s vs xs) t1).add (x:=.n a (.lst vs)) ⟨by rw[show col' a=0 from za];decide,r'.notH (by rw[show col' a=0 from za];decide),e2⟩
  · rename_i xs e
    obtain⟨a,vs,e1,c,n,e2,t⟩:=r.sl i _ e
    exact⟨_,join_some e1,a,rfl,⟨vs,SqL.of e2⟩,k xs ρ (.n a (.lst vs)::.s vs xs::P) H _ ⟨col,(r.add (x:=.s vs xs) t).add (x:=.n a (.lst vs)) ⟨c,n,e2⟩⟩ (fun _ h=>List.mem_cons_of_mem _ (List.mem_cons_of_mem _ h)) it_list ht⟩
  · exact ht.elim
def rngD (lo:Int) (n:Nat):List PyData:=(List.range n).map fun i=>.int (lo + ((i:Nat):Int))
theorem rngD_get {lo:Int} {n i:Nat} {d:PyData} (h:(rngD lo n)[i]?=some d):i < n∧d=.int (lo + i):=by
  unfold rngD at h
  rw[List.getElem?_map] at h
  by_cases hi:i < n
  · rw[List.getElem?_range hi] at h
    cases h
    exact⟨hi,rfl⟩
  · rw[List.getElem?_eq_none (by rw[List.length_range];lia)] at h
    cases h
theorem it_rng {lo:Int} {n:Nat} {P:List Pe}:ItOk C (Itr lo n) (rngD lo n) P where
  go:=fun {i _ _ _ _} _ _ hi=>by
    have:(rngD lo n).length=n:=by unfold rngD;rw[List.length_map,List.length_range]
    show i < n
    lia
  yld:=fun {i ρ σ P' H H' x d} _ R hi y=>by
    obtain⟨e1,e2⟩:=y
    subst e1 e2
    obtain⟨_,e3⟩:=rngD_get hi
    subst e3
    obtain⟨col,r⟩:=R
    exact⟨col,r.push (.int _)⟩
  stop:=fun _ _=>by
    have:(rngD lo n).length=n:=by unfold rngD;rw[List.length_map,List.length_range]
    show n≤(rngD lo n).length
    lia
def dRng1 (u:DF)  (ρ:List Sl) (Q:List PyData→List Sl→Prop):Prop:=u ρ fun ds ρ'=>match ds with
  | [.int j]=>(-(2 ^ 62)≤j∧j < 2 ^ 62)∧Q (rngD 0 j.toNat) ρ'
  | _=>False
theorem di_rng1 (h:PI X tg e (iRng1 (vOf C u))):PI X tg e (iOf C (dRng1 u)):=PI.wk h fun _ _ _ zz7=>el3 zz7 fun ρ P _ R ht k=>⟨ρ,P,_,R,ht,fun vs ds ρ' P' H' zz8 s p q=>zz8.elim fun col r=>by
  split at q
  · have t:=p.th r
    obtain⟨v,rfl,t1⟩:=ths1 t
    cases t1
    exact⟨_,rfl,q.1.1,q.1.2,k _ _ P' _ _ ⟨col,r⟩ s it_rng q.2⟩
  · exact q.elim⟩
def dRng2 (u:DF)  (ρ:List Sl) (Q:List PyData→List Sl→Prop):Prop:=u ρ fun ds ρ'=>match ds with
  | [.int i,.int j]=>(-(2 ^ 62)≤i∧i < 2 ^ 62∧-(2 ^ 62)≤j∧j < 2 ^ 62)∧Q (rngD i (j - i).toNat) ρ'
  | _=>False
def enumD (xs:List PyData):List PyData:=xs.zipIdx.map fun p=>.tuple [.int (p.2:Nat),p.1]
theorem enumD_get {xs:List PyData} {i:Nat} {d:PyData} (h:(enumD xs)[i]?=some d):∃x,xs[i]?=some x∧d=.tuple [.int (i:Nat),x]:=by
  unfold enumD at h
  rw[List.getElem?_map,List.getElem?_zipIdx] at h
  cases q:xs[i]? with
  | none=>rw[q] at h;cases h
  | some x=>rw[q] at h;cases h;exact⟨x,rfl,by rw[Nat.zero_add]⟩
theorem it_enum {K:PySem.W.Frag} {a:Addr} {vs:List V} {xs:List PyData} {P:List Pe}:ItOk C (Ite K a) (enumD xs) (.n a (.lst vs)::.s vs xs::P) where
  go:=fun {i ρ σ P' H} s R hi=>by
    obtain⟨col,r⟩:=R
    have h1:=r.pd _ (s _ List.mem_cons_self)
    have h2:ThVs (Z col) H vs xs:=r.pd _ (s _ (List.mem_cons_of_mem _ List.mem_cons_self))
    have hl:=h2.len
    have hi':i < xs.length:=by unfold enumD at hi;rw[List.length_map,List.length_zipIdx] at hi;exact hi
    exact⟨vs,vs[i],SqL.of h1.2.2,List.getElem?_eq_getElem (by lia)⟩
  yld:=fun {i ρ σ P' H H' x d} s R hi y=>by
    obtain⟨p,v,rfl,hp,rfl,y⟩:=y
    obtain⟨col,r⟩:=R
    have h1:=r.pd _ (s _ List.mem_cons_self)
    have h2:ThVs (Z col) H vs xs:=r.pd _ (s _ (List.mem_cons_of_mem _ List.mem_cons_self))
    have hx:=y vs (SqL.of h1.2.2)
    obtain⟨x,e1,rfl⟩:=enumD_get hi
    obtain⟨d',e2,t⟩:=h2.get hx
    rw[e1] at e2
    cases e2
    exact⟨col,r.tup (.cons (.int _) (.cons t .nil)) hp⟩
  stop:=fun {ρ σ P' H} s R=>by
    obtain⟨col,r⟩:=R
    have h1:=r.pd _ (s _ List.mem_cons_self)
    have h2:ThVs (Z col) H vs xs:=r.pd _ (s _ (List.mem_cons_of_mem _ List.mem_cons_self))
    have hl:=h2.len
    exact⟨vs,SqL.of h1.2.2,by unfold enumD;rw[List.length_map,List.length_zipIdx];lia⟩
def dEnum (t:DE)  (ρ:List Sl) (Q:List PyData→List Sl→Prop):Prop:=t ρ fun d ρ'=>bnd (listD d) fun xs=>Q (enumD xs) ρ'
theorem di_enum {K:PySem.W.Frag} (h:PI X tg e (iEnum K (tCons (eOf C t) tNil))):PI X tg e (iOf C (dEnum t)):=PI.wk h fun _ _ _ zz11=>el3 zz11 fun ρ P _ R ht k=>⟨ρ,P,_,R,ht,fun v d ρ' H' zz12 q=>zz12.elim fun col r=>by
  obtain⟨xs,hx,q⟩:=bnd_of q
  have:=listD_eq hx
  subst this
  obtain⟨a,vs,rfl,za,e1,t1⟩:=th_lst (show ThV (Z col) H' v (.list xs) from r.pd _ List.mem_cons_self)
  refine⟨a,rfl,⟨vs,SqL.of e1⟩,k _ ρ' (.n a (.lst vs)::.s vs xs::P) H' _ ⟨col,?_⟩ (fun _ h=>List.mem_cons_of_mem _ (List.mem_cons_of_mem _ h)) it_enum q⟩
  exact ((r.sub fun _ h=>List.mem_cons_of_mem _ h).add (x:=.s vs xs) t1).add (x:=.n a (.lst vs)) ⟨by rw[show col a=0 from za];decide,r.notH (by rw[show col a=0 from za];decide),e1⟩⟩
end
def dCompL (tt:DT) (te:DE) (ρ:List Sl) (Q:List PyData→Prop):List PyData→List PyData→Prop
  | [],acc=>Q acc
  | x::r,acc=>tt (ρ++[.sh x]) fun b ρ'=>ρ'=ρ++[.sh x]∧if b=true then te (ρ++[.sh x]) fun d ρ''=>ρ''=ρ++[.sh x]∧dCompL tt te ρ Q r (acc++[d]) else dCompL tt te ρ Q r acc
def dComp (j:Nat) (it:DF) (tt:DT) (te:DE)  (ρ:List Sl) (Q:List PyData→List Sl→Prop):Prop:=it ρ fun xs ρ1=>(ρ1.length=j∧xs.length≤1000)∧dCompL tt te ρ1 (fun ds=>Q ds ρ1) xs []
def dTrue  (ρ:List Sl) (Q:Bool→List Sl→Prop):Prop:=Q true ρ
section
variable {X:Cx} {C:DC}
theorem PTs.wk {es:List Expr} {t t':TT} (h:PTs X es t) (f:∀σ H Q,t' σ H Q→t σ H Q):PTs X es t':=fun pins s σ H Q I q=>h pins s σ H Q I (f σ H Q q)
theorem dts_nil:PTs X [] (cOf C dTrue):=PTs.wk pts_nil fun _ _ _ zz13=>el3 zz13 fun _ _ _ R ht k=>k _ _ _ R ht
theorem Rel.ext {ρ:List Sl} {σ:St} {P:List Pe} {H:Hp} {x:V} {d:PyData} (R:Rel C ρ σ (.v x d::P) H):Rel C (ρ++[.sh d]) (σ++[some x]) P H:=by
  obtain⟨col,r⟩:=R
  have t:ThV (Z col) H x d:=r.pd _ List.mem_cons_self
  have r:=r.sub fun _ h=>List.mem_cons_of_mem _ h
  refine⟨col,{ r with sl:=fun i s e=>?_,len:=by rw[List.length_append,List.length_append,r.len];rfl }⟩
  by_cases hi:i < ρ.length
  · rw[List.getElem?_append_left hi] at e
    rw[List.getElem?_append_left (by rw[←r.len];exact hi)]
    exact r.sl i s e
  · rw[List.getElem?_append_right (by lia)] at e
    rw[List.getElem?_append_right (by rw[←r.len];lia),←r.len]
    match q:i - ρ.length with
    | 0=>
      rw[q] at e
      cases e
      exact⟨x,rfl,t⟩
    | n + 1=>rw[q] at e;simp at e
theorem RelC.unext {col:Addr→Nat} {ρ ρ':List Sl} {σ σ':St} {P:List Pe} {H:Hp} (r:RelC C col (ρ++ρ') (σ++σ') P H) (hl:ρ.length=σ.length):RelC C col ρ σ P H:=by
  refine { r with sl:=fun i s e=>?_,len:=hl }
  have hi:=(List.getElem?_eq_some_iff.mp e).1
  have:=r.sl i s (by rw[List.getElem?_append_left hi];exact e)
  rw[List.getElem?_append_left (by lia)] at this
  exact this
theorem ThVs.snoc {F:Addr→Prop} {H:Hp} {vs:List V} {ds:List PyData} {v:V} {d:PyData} (t:ThVs F H vs ds) (x:ThV F H v d):ThVs F H (vs++[v]) (ds++[d]):=t.append (.cons x .nil)
theorem pad_eq {σ:St} {n j:Nat} {x:V} (h1:n=σ.length + 1) (h2:j=σ.length):(padS n j σ).set j (some x)=σ++[some x]:=by
  subst h1 h2
  unfold padS
  rw[List.take_of_length_le (by simp),List.set_append_right _ _ (Nat.le_refl _),List.set_append_right _ _ (Nat.le_refl _)]
  simp
theorem comp_rd {it:DF} {tt:DT} {te:DE} {n j:Nat} (hn:n=j + 1) {σ:St} {H:Hp} {Q:VK} (h:fOf C (dComp j it tt te) σ H Q):tComp (iOf C it) n j (fun _=>cOf C tt) (fun _=>eOf C te) σ H Q:=by
  obtain⟨ρ,P,Qd,R,ht,k⟩:=h
  refine⟨ρ,P,_,R,ht,fun xs ρ1 P1 H1 J R1 s1 io q=>?_⟩
  obtain⟨⟨hj,hx⟩,q⟩:=q
  have lz:∀m,m≤1000→m≤sizeLine:=fun m hm=>Nat.le_of_lt (small1000 hm)
  refine⟨fun i m ys H'=>m=xs.length - i∧i≤xs.length∧ys.length≤i∧∃acc,Rel C ρ1 σ (.s ys acc::P1) H'∧dCompL tt te ρ1 (fun ds=>Qd ds ρ1) (xs.drop i) acc,⟨xs.length,by simp,Nat.zero_le _,Nat.le_refl _,[],?_,q⟩,?_⟩
  · obtain⟨col,r⟩:=R1
    exact⟨col,r.add (x:=.s [] []) .nil⟩
  rintro i m ys H2 ⟨rfl,hi,hy,acc,R2,q2⟩
  refine⟨lz _ (by lia),?_⟩
  have sub2:∀p∈P1,p∈Pe.s ys acc::P1:=fun _ h=>List.mem_cons_of_mem _ h
  have hlen:ρ1.length=σ.length:=by obtain⟨col,r⟩:=R2;exact r.len
  by_cases hlt:i < xs.length
  · rw[List.drop_eq_getElem_cons hlt] at q2
    refine .inr ⟨io.go sub2 R2 hlt,fun ys' H'=>ys'.length≤i + 1∧∃acc,Rel C ρ1 σ (.s ys' acc::P1) H'∧dCompL tt te ρ1 (fun ds=>Qd ds ρ1) (xs.drop (i + 1)) acc,fun ys' H' zz14=>zz14.elim fun h1 h2=>⟨xs.length - (i + 1),by lia,rfl,hlt,h1,h2⟩,fun x H3 y a=>?_⟩
    have R3:=(io.yld sub2 R2 (List.getElem?_eq_getElem hlt) y).ext
    rw[pad_eq (by rw[hn,←hlen,hj]) (by rw[←hlen,hj])]
    refine⟨_,_,_,R3,q2,fun b ρ' H4 R4 q4=>?_⟩
    obtain⟨rfl,q4⟩:=q4
    cases b with
    | true=>
      refine iteT ⟨_,_,_,R4,by simpa using q4,fun v d ρ'' H5 R5 q5=>?_⟩
      obtain⟨rfl,q5⟩:=q5
      refine⟨by rw[List.length_append];simp;lia,acc++[d],?_,q5⟩
      obtain⟨col,r⟩:=R5
      have t1:ThV (Z col) H5 v d:=r.pd _ List.mem_cons_self
      have t2:ThVs (Z col) H5 ys acc:=r.pd _ (List.mem_cons_of_mem _ List.mem_cons_self)
      exact⟨col,((r.unext hlen).sub fun _ h=>List.mem_cons_of_mem _ (List.mem_cons_of_mem _ h)).add (x:=.s (ys++[v]) (acc++[d])) (t2.snoc t1)⟩
    | false=>
      refine iteF ⟨by lia,acc,?_,by simpa using q4⟩
      obtain⟨col,r⟩:=R4
      exact⟨col,r.unext hlen⟩
  · have e:i=xs.length:=by lia
    subst e
    rw[List.drop_length] at q2
    refine .inl ⟨io.stop sub2 R2,fun p hp=>k _ _ _ _ _ ?_ hp q2⟩
    obtain⟨col,r⟩:=R2
    exact⟨col,r.sub fun p hp=>List.mem_cons_of_mem _ (s1 p hp),r.pd _ List.mem_cons_self⟩
end
structure DEnds where
  nx:List Sl→Prop
  rt:PyData→Prop
  bk:List Sl→Prop:=fun _=>False
  ct:List Sl→Prop:=fun _=>False
  ro:Sl→Prop:=fun _=>False
abbrev DS:=DEnds→List Sl→Prop
def NewV (C:DC) (col:Addr→Nat) (H:Hp) (v:V):Sl→Prop
  | .ow ds=>∃a vs,v=.ref a∧C.H0 a=none∧col a≠0∧H a=some (.lst vs)∧ThVs (Z col) H vs ds
  | .o2 dss=>∃a as,v=.ref a∧(C.H0 a=none∧col a≠0)∧H a=some (.lst (as.map V.ref))∧(a::as).Nodup∧Rws (fun b=>C.H0 b=none∧col b≠0) (Z col) H as dss
  | .di false ks=>∃a,v=.ref a∧C.H0 a=none∧H a=some (.dT (dEn ks))
  | _=>False
structure EndsR (C:DC) (P:List Pe) (Dd:DEnds) (D:Ends):Prop where
  nx:∀ρ σ H,Rel C ρ σ P H→Dd.nx ρ→D.nx σ H
  rt:∀v d ρ σ H,Rel C ρ σ (.v v d::P) H→Dd.rt d→D.rt v H
  bk:∀ρ σ H,Rel C ρ σ P H→Dd.bk ρ→D.bk σ H
  ct:∀ρ σ H,Rel C ρ σ P H→Dd.ct ρ→D.ct σ H
  ro:∀(v:V) (s:Sl) (ρ:List Sl) σ H col,RelC C col ρ σ P H→NewV C col H v s→Dd.ro s→D.rt v H
def sOf (C:DC) (t:DS):TS:=fun D σ H=>∃ρ P Dd,Rel C ρ σ P H∧t Dd ρ∧EndsR C P Dd D
section
variable {X:Cx} {C:DC} {st:Stmt} {sts:List Stmt} {e:Expr} {t u:DS} {te:DE} {tf:DF} {c:DT} {pos:Pos}
theorem PS.wk {t t':TS} (h:PS X st t) (f:∀D σ H,t' D σ H→t D σ H):PS X st t':=fun pins s σ H D I q=>h pins s σ H D I (f D σ H q)
theorem PSs.wk {t t':TS} (h:PSs X sts t) (f:∀D σ H,t' D σ H→t D σ H):PSs X sts t':=fun pins s σ H D I q=>h pins s σ H D I (f D σ H q)
def dSeq (t u:DS)  (D:DEnds) (ρ:List Sl):Prop:=t { D with nx:=u D } ρ
def dNext  (D:DEnds) (ρ:List Sl):Prop:=D.nx ρ
theorem dss_nil:PSs X [] (sOf C dNext):=PSs.wk pss_nil fun _ _ _ zz15=>el3 zz15 fun _ _ _ R ht E=>E.nx _ _ _ R ht
theorem dss_one (h:PS X st (sOf C t)):PSs X [st] (sOf C t):=pss_one h
theorem dss_cons (h1:PS X st (sOf C t)) (h2:PSs X sts (sOf C u)):PSs X (st::sts) (sOf C (dSeq t u)):=PSs.wk (pss_cons h1 h2) fun _ _ _ zz16=>el3 zz16 fun ρ P Dd R ht E=>⟨ρ,P,{ Dd with nx:=u Dd },R,ht,⟨fun ρ' _ _ R' h=>⟨ρ',P,Dd,R',h,E⟩,E.rt,E.bk,E.ct,E.ro⟩⟩
def Go (f:List Sl→Prop) (ρ:List Sl):Prop:=f ρ
theorem go {f:List Sl→Prop} {ρ:List Sl} (h:f ρ):Go f ρ:=h
def dSeqG (t u:DS) (D:DEnds) (ρ:List Sl):Prop:=t { D with nx:=Go (u D) } ρ
theorem dss_consG (h1:PS X st (sOf C t)) (h2:PSs X sts (sOf C u)):PSs X (st::sts) (sOf C (dSeqG t u)):=PSs.wk (pss_cons h1 h2) fun _ _ _ zz17=>el3 zz17 fun ρ P Dd R ht E=>⟨ρ,P,{ Dd with nx:=Go (u Dd) },R,ht,⟨fun ρ' _ _ R' h=>⟨ρ',P,Dd,R',h,E⟩,E.rt,E.bk,E.ct,E.ro⟩⟩
def dMid (t:DS)  (D:DEnds) (ρ:List Sl):Prop:=∃M:List Sl→Prop,t { D with nx:=M } ρ∧∀ρ',M ρ'→D.nx ρ'
theorem ds_mid (h:PS X st (sOf C t)):PS X st (sOf C (dMid t)):=PS.wk h fun _ _ _ ⟨ρ,P,Dd,R,⟨M,h1,h2⟩,E⟩=>⟨ρ,P,{ Dd with nx:=M },R,h1,⟨fun ρ' σ' H' R' h=>E.nx ρ' σ' H' R' (h2 ρ' h),E.rt,E.bk,E.ct,E.ro⟩⟩
theorem ds_no:PS X st (sOf C fun _ _=>False):=PS.wk ps_no fun _ _ _ zz22=>el3 zz22 fun _ _ _ _ h _=>h
def dRet (te:DE)  (D:DEnds) (ρ:List Sl):Prop:=te ρ fun d _=>D.rt d
theorem ds_ret (h:PE X e (eOf C te)):PS X (.Return (some e) pos) (sOf C (dRet te)):=PS.wk (ps_ret h) fun _ _ _ zz23=>el3 zz23 fun ρ P _ R ht E=>⟨ρ,P,_,R,ht,fun v d _ _ R' q=>E.rt v d _ _ _ R' q⟩
def dIfS (c:DT) (t u:DS)  (D:DEnds) (ρ:List Sl):Prop:=c ρ fun b ρ'=>if b=true then t D ρ' else u D ρ'
theorem ds_if {ce:Expr} {a b:List Stmt} (hc:PT X ce (cOf C c)) (ha:PSs X a (sOf C t)) (hb:PSs X b (sOf C u)):PS X (.If ce a b pos) (sOf C (dIfS c t u)):=PS.wk (ps_if hc ha hb) fun _ _ _ zz26=>el3 zz26 fun ρ P Dd R ht E=>⟨ρ,P,_,R,ht,fun b ρ' _ R' q=>by
  cases b with
  | true=>exact iteT ⟨ρ',P,Dd,R',by simpa using q,E⟩
  | false=>exact iteF ⟨ρ',P,Dd,R',by simpa using q,E⟩⟩
def dDrop (te:DE)  (D:DEnds) (ρ:List Sl):Prop:=te ρ fun _ ρ'=>D.nx ρ'
def dSet (i:Nat) (te:DE)  (D:DEnds) (ρ:List Sl):Prop:=te ρ fun d ρ'=>D.nx (ρ'.set i (.sh d))
theorem ds_set {i:Nat} (hp:PS X st (tAsg (eOf C te) (gName i))):PS X st (sOf C (dSet i te)):=PS.wk hp fun _ _ _ zz28=>el3 zz28 fun ρ P _ R ht E=>⟨ρ,P,_,R,ht,fun v d ρ' H' zz29 q=>zz29.elim fun col r=>E.nx _ _ _ ⟨col,((r.store (i:=i) (r.pd _ List.mem_cons_self)).sub fun _ h=>List.mem_cons_of_mem _ h)⟩ q⟩
def dOwn (i:Nat) (tf:DF)  (D:DEnds) (ρ:List Sl):Prop:=tf ρ fun ds ρ'=>D.nx (ρ'.set i (.ow ds))
theorem ds_own {i:Nat} (hp:PS X st (tAsg (fOf C tf) (gName i))):PS X st (sOf C (dOwn i tf)):=PS.wk hp fun _ _ _ zz30=>el3 zz30 fun ρ P _ R ht E=>⟨ρ,P,_,R,ht,fun p vs ds ρ' H1 zz31 hp q=>el2 zz31 fun col r t=>E.nx _ _ _ (r.own t hp) q⟩
theorem ds_ownC {i n j:Nat} {it:DF} {tt:DT} (hn:n=j + 1) (hp:PS X st (fun D σ H=>tComp (iOf C it) n j (fun _=>cOf C tt) (fun _=>eOf C te) σ H fun v H1=>D.nx (σ.set i (some v)) H1)):PS X st (sOf C (dOwn i (dComp j it tt te))):=
  PS.wk hp fun _ _ _ zz32=>el3 zz32 fun ρ P _ R ht E=>comp_rd hn ⟨ρ,P,_,R,ht,fun p vs ds ρ' H1 zz33 hp q=>el2 zz33 fun col r t=>E.nx _ _ _ (r.own t hp) q⟩
theorem ds_setC {i n j:Nat} {it:DF} {tt:DT} (hn:n=j + 1) (hp:PS X st (fun D σ H=>tComp (iOf C it) n j (fun _=>cOf C tt) (fun _=>eOf C te) σ H fun v H1=>D.nx (σ.set i (some v)) H1)):PS X st (sOf C (dSet i (dF (dComp j it tt te)))):=
  PS.wk hp fun _ _ _ zz34=>el3 zz34 fun ρ P _ R ht E=>comp_rd hn ⟨ρ,P,_,R,ht,fun p vs ds ρ' H1 zz35 hp q=>el2 zz35 fun col r t=>E.nx _ _ _ ⟨col,(((r.lst t hp).store (i:=i) ((r.lst t hp).pd _ List.mem_cons_self)).sub fun _ h=>List.mem_cons_of_mem _ h)⟩ q⟩
def dApp (i:Nat) (te:DE)  (D:DEnds) (ρ:List Sl):Prop:=match ρ[i]? with
  | some (.ow _)=>te ρ fun d ρ'=>match ρ'[i]? with
    | some (.ow ds)=>ds.length≤1000∧D.nx (ρ'.set i (.ow (ds++[d])))
    | _=>False
  | _=>False
theorem ds_app {i:Nat} {K:PySem.W.Frag} (hp:PS X st (tDrop (tBM K "list" rAppend (tVar i) (tCons (eOf C te) tNil)))):PS X st (sOf C (dApp i te)):=PS.wk hp fun D σ H zz36=>el3 zz36 fun ρ P Dd zz37 ht E=>zz37.elim fun col r=>by
  unfold dApp at ht
  split at ht
  · rename_i ds0 e0
    obtain⟨a,vs,e1,c,n,e2,t⟩:=r.sl i _ e0
    refine⟨.ref a,join_some e1,.inl ⟨rfl,vs,SqL.of e2⟩,ρ,P,_,⟨col,r⟩,ht,fun v d ρ' H' zz38 q=>zz38.elim fun col' r'=>?_⟩
    split at q
    · rename_i ds e0'
      obtain⟨a',vs',e1',c',n',e2',t'⟩:=r'.sl i _ e0'
      rw[e1] at e1'
      cases e1'
      exact⟨a,vs',v,rfl,rfl,e2',by rw[t'.len];exact small1000 q.1,E.nx _ _ _ ⟨col',((r'.write e0' e1 (t'.snoc (r'.pd _ List.mem_cons_self)))).sub fun _ h=>List.mem_cons_of_mem _ h⟩ q.2⟩
    · exact q.elim
  · exact ht.elim
def dSetI (i:Nat) (te tk:DE)  (D:DEnds) (ρ:List Sl):Prop:=te ρ fun d ρ1=>match ρ1[i]? with
  | some (.ow _)=>tk ρ1 fun k ρ2=>match ρ2[i]? with
    | some (.ow ds)=>match k with
      | .int k=>bnd (ixN ds.length k) fun j=>D.nx (ρ2.set i (.ow (ds.set j d)))
      | _=>False
    | _=>False
  | _=>False
theorem ThVs.set {F:Addr→Prop} {H:Hp} {v:V} {d:PyData} (x:ThV F H v d):∀{vs:List V} {ds:List PyData} (j:Nat),ThVs F H vs ds→ThVs F H (vs.set j v) (ds.set j d)
  | _,_,_,.nil=>.nil
  | _,_,0,.cons _ t=>.cons x t
  | _,_,j + 1,.cons y t=>.cons y (ThVs.set x j t)
theorem ds_setI {i:Nat} {tk:DE} (hp:PS X st (tAsg (eOf C te) (gSub (tVar i) (eOf C tk) rSetL))):PS X st (sOf C (dSetI i te tk)):=PS.wk hp fun D σ H zz39=>el3 zz39 fun ρ P Dd R ht E=>⟨ρ,P,_,R,ht,fun v d ρ1 H1 zz40 q1=>zz40.elim fun col1 r1=>by
  split at q1
  · rename_i ds0 e0
    obtain⟨a,vs,e1,c,n,e2,t⟩:=r1.sl i _ e0
    refine⟨.ref a,join_some e1,ρ1,_,_,⟨col1,r1⟩,q1,fun w k ρ2 H2 zz41 q2=>zz41.elim fun col2 r2=>?_⟩
    split at q2
    · rename_i ds e0'
      cases k with
      | int k'=>
        obtain⟨j,hj,q⟩:=bnd_of q2
        obtain⟨a',vs',e1',c',n',e2',t'⟩:=r2.sl i _ e0'
        rw[e1] at e1'
        cases e1'
        have tw:ThV (Z col2) H2 w (.int k'):=r2.pd _ List.mem_cons_self
        cases tw
        refine⟨a,vs',k',j,rfl,rfl,e2',by rw[t'.len];exact hj,E.nx _ _ _ ⟨col2,((r2.write e0' e1 (ThVs.set (r2.pd (.v v d) (List.mem_cons_of_mem _ List.mem_cons_self)) j t'))).sub fun _ h=>List.mem_cons_of_mem _ (List.mem_cons_of_mem _ h)⟩ q⟩
      | _=>exact q2.elim
    · exact q2.elim
  · exact q1.elim⟩
abbrev DG:=PyData→List Sl→(List Sl→Prop)→Prop
def gOf (C:DC) (g:DG):TG:=fun v σ H Q=>∃ρ P d Qd,Rel C ρ σ (.v v d::P) H∧g d ρ Qd∧∀ρ' σ',Rel C ρ' σ' P H→Qd ρ'→Q σ' H
theorem PG.wk {tg:Expr} {g g':TG} (h:PG X tg g) (f:∀v σ H Q,g' v σ H Q→g v σ H Q):PG X tg g':=fun pins s σ H v u Q I r q=>h pins s σ H v u Q I r (f v σ H Q q)
def gN (i:Nat)  (d:PyData) (ρ:List Sl) (Q:List Sl→Prop):Prop:=Q (ρ.set i (.sh d))
theorem dg_name {tg:Expr} {i:Nat} (h:PG X tg (gName i)):PG X tg (gOf C (gN i)):=PG.wk h fun _ _ _ _ ⟨_,_,_,_,⟨col,r⟩,ht,k⟩=>k _ _ ⟨col,((r.store (i:=i) (r.pd _ List.mem_cons_self)).sub fun _ h=>List.mem_cons_of_mem _ h)⟩ ht
def gT2 (i j:Nat)  (d:PyData) (ρ:List Sl) (Q:List Sl→Prop):Prop:=match d with
  | .tuple [a,b]=>Q ((ρ.set i (.sh a)).set j (.sh b))
  | _=>False
def gT3 (i j k:Nat)  (d:PyData) (ρ:List Sl) (Q:List Sl→Prop):Prop:=match d with
  | .tuple [a,b,c]=>Q (((ρ.set i (.sh a)).set j (.sh b)).set k (.sh c))
  | _=>False
theorem dg_t2 {tg:Expr} {i j:Nat} {K:PySem.W.Frag} (h:PG X tg (gTup K 2 (gCons (gName i) (gCons (gName j) gNil)))):PG X tg (gOf C (gT2 i j)):=PG.wk h fun v σ H Q ⟨ρ,P,d,Qd,⟨col,r⟩,ht,k⟩=>by
  unfold gT2 at ht
  split at ht
  · rename_i a b
    have z:ThV (Z col) H v (.tuple [a,b]):=r.pd _ List.mem_cons_self
    cases z with
    | tup za e t=>
      obtain⟨x,y,rfl,t1,t2⟩:=ths2 t
      exact⟨_,_,rfl,SqT.of e,rfl,x,[y],rfl,y,[],rfl,rfl,k _ _ ⟨col,(((r.store (i:=i) t1).store (i:=j) t2).sub fun _ h=>List.mem_cons_of_mem _ h)⟩ ht⟩
  · exact ht.elim
theorem dg_t3 {tg:Expr} {i j l:Nat} {K:PySem.W.Frag} (h:PG X tg (gTup K 3 (gCons (gName i) (gCons (gName j) (gCons (gName l) gNil))))):PG X tg (gOf C (gT3 i j l)):=PG.wk h fun v σ H Q ⟨ρ,P,d,Qd,⟨col,r⟩,ht,k⟩=>by
  unfold gT3 at ht
  split at ht
  · rename_i a b c
    have z:ThV (Z col) H v (.tuple [a,b,c]):=r.pd _ List.mem_cons_self
    cases z with
    | tup za e t=>
      cases t with
      | cons t1 t=>
        obtain⟨y,z,rfl,t2,t3⟩:=ths2 t
        exact⟨_,_,rfl,SqT.of e,rfl,_,[y,z],rfl,y,[z],rfl,z,[],rfl,rfl,k _ _ ⟨col,((((r.store (i:=i) t1).store (i:=j) t2).store (i:=l) t3).sub fun _ h=>List.mem_cons_of_mem _ h)⟩ ht⟩
  · exact ht.elim
def dAsg (te:DE) (g:DG)  (D:DEnds) (ρ:List Sl):Prop:=te ρ fun d ρ'=>g d ρ' D.nx
theorem ds_asg {g:DG} (hp:PS X st (tAsg (eOf C te) (gOf C g))):PS X st (sOf C (dAsg te g)):=PS.wk hp fun _ _ _ zz45=>el3 zz45 fun ρ P _ R ht E=>⟨ρ,P,_,R,ht,fun v d ρ' H' R' q=>⟨ρ',P,d,_,R',q,fun ρ2 σ2 R2 q2=>E.nx _ _ _ R2 q2⟩⟩
def Blk (t:DS) (D:DEnds) (ρ:List Sl):Prop:=t D ρ
def dFor (it:DF) (g:DG) (tb:DS) (D:DEnds) (ρ:List Sl):Prop:=it ρ fun xs ρ1=>∃I:List PyData→List Sl→Prop,I xs ρ1∧(∀x r ρ,I (x::r) ρ→g x ρ (Blk tb { nx:=I r,ct:=I r,bk:=D.nx,rt:=D.rt }))∧∀ρ,I [] ρ→D.nx ρ
theorem ds_for {it:DF} {g:DG} {tb:DS} (hp:PS X st (tFor (iOf C it) (gOf C g) (sOf C tb))):PS X st (sOf C (dFor it g tb)):=PS.wk hp fun D σ H zz46=>el3 zz46 fun ρ P Dd R ht E=>⟨ρ,P,_,R,ht,fun xs ρ1 P1 H1 J R1 s1 io q=>by
  obtain⟨I,q0,qs,qd⟩:=q
  refine⟨fun i m σ' H'=>m=xs.length - i∧i≤xs.length∧∃ρ',Rel C ρ' σ' P1 H'∧I (xs.drop i) ρ',⟨xs.length,by simp,Nat.zero_le _,ρ1,R1,q0⟩,?_⟩
  rintro i m σ2 H2 ⟨rfl,hi,ρ2,R2,q2⟩
  by_cases hlt:i < xs.length
  · rw[List.drop_eq_getElem_cons hlt] at q2
    refine .inr ⟨io.go (fun _ h=>h) R2 hlt,fun σ' H'=>∃ρ',Rel C ρ' σ' P1 H'∧I (xs.drop (i + 1)) ρ',fun σ' H' h=>⟨xs.length - (i + 1),by lia,rfl,hlt,h⟩,fun x H3 y=>?_⟩
    refine⟨ρ2,P1,_,_,io.yld (fun _ h=>h) R2 (List.getElem?_eq_getElem hlt) y,qs _ _ _ q2,fun ρ3 σ3 R3 q3=>?_⟩
    refine⟨ρ3,P1,⟨I (xs.drop (i + 1)),Dd.rt,Dd.nx,I (xs.drop (i + 1)),fun _=>False⟩,R3,q3,⟨fun ρ4 σ4 H4 R4 q4=>⟨ρ4,R4,q4⟩,fun v d ρ4 σ4 H4 R4 q4=>E.rt v d ρ4 σ4 H4 (R4.sub (sub_cons s1)) q4,fun ρ4 σ4 H4 R4 q4=>E.nx ρ4 σ4 H4 (R4.sub s1) q4,fun ρ4 σ4 H4 R4 q4=>⟨ρ4,R4,q4⟩,fun _ _ _ _ _ _ _ _ h=>h.elim⟩⟩
  · have e:i=xs.length:=by lia
    subst e
    rw[List.drop_length] at q2
    exact .inl ⟨io.stop (fun _ h=>h) R2,E.nx _ _ _ (R2.sub s1) (qd _ q2)⟩⟩
def dWhile (c:DT) (tb:DS)  (D:DEnds) (ρ:List Sl):Prop:=∃W:Nat→List Sl→Prop,(∃m,W m ρ)∧∀m ρ,W m ρ→c ρ fun b ρ1=>if b=true then Blk tb { nx:=fun ρ'=>∃m',m' < m∧W m' ρ',ct:=fun ρ'=>∃m',m' < m∧W m' ρ',bk:=D.nx,rt:=D.rt } ρ1 else D.nx ρ1
theorem ds_while {tb:DS} (hp:PS X st (tWhile (cOf C c) (sOf C tb))):PS X st (sOf C (dWhile c tb)):=PS.wk hp fun D σ H ⟨ρ,P,Dd,R,⟨W,⟨m0,w0⟩,turn⟩,E⟩=>by
  refine⟨fun m σ' H'=>∃ρ',Rel C ρ' σ' P H'∧W m ρ',⟨m0,ρ,R,w0⟩,?_⟩
  rintro m σ1 H1 ⟨ρ1,R1,w1⟩
  refine⟨ρ1,P,_,R1,turn m ρ1 w1,fun b ρ2 H2 R2 q2=>?_⟩
  cases b with
  | true=>
    refine iteT ⟨fun σ' H'=>∃ρ',Rel C ρ' σ' P H'∧∃m',m' < m∧W m' ρ',fun σ' H' zz48=>zz48.elim fun ρ' zz49=>zz49.elim fun R' zz50=>zz50.elim fun m' zz51=>zz51.elim fun hm w=>⟨m',hm,ρ',R',w⟩,ρ2,P,⟨fun ρ'=>∃m',m' < m∧W m' ρ',Dd.rt,Dd.nx,fun ρ'=>∃m',m' < m∧W m' ρ',fun _=>False⟩,R2,by simpa [Blk] using q2,⟨fun ρ4 σ4 H4 R4 q4=>⟨ρ4,R4,q4⟩,E.rt,fun ρ4 σ4 H4 R4 q4=>E.nx ρ4 σ4 H4 R4 q4,fun ρ4 σ4 H4 R4 q4=>⟨ρ4,R4,q4⟩,fun _ _ _ _ _ _ _ _ h=>h.elim⟩⟩
  | false=>exact iteF (E.nx _ _ _ R2 (by simpa using q2))
end
open PySem.Spec PyProof.Rows
def slOf:Md→PyData→Sl
  | .sh,d=>.sh d
  | .bo,.list ds=>.bo ds
  | .bo,_=>.no
  | .hd,_=>.hd
  | .b2,d=>match rowsD d with
    | some dss=>.b2 dss
    | none=>.no
  | .bd,d=>.bd d
theorem rowsL_lls:∀dss:List (List PyData),rowsL (lls dss)=some dss
  | []=>rfl
  | ds::dss=>by
    show (rowsL (lls dss)).map (ds::·)=some (ds::dss)
    rw[rowsL_lls dss];rfl
theorem slOf_b2 (dss:List (List PyData)):slOf .b2 (.list (lls dss))=.b2 dss:=by
  show (match rowsL (lls dss) with
    | some dss=>Sl.b2 dss
    | none=>.no)=_
  rw[rowsL_lls]
def startD (n:Nat):List Md→List PyData→List Sl
  | m::ms,d::ds=>slOf m d::startD (n - 1) ms ds
  | _,_=>List.replicate n .no
def startN:List Str→List Md→List PyData→List Sl
  | [],_,_=>[]
  | _::N,ms,ds=>(match ms,ds with
    | m::_,d::_=>slOf m d
    | _,_=>.no)::startN N ms.tail ds.tail
theorem startN_nil:∀N:List Str,startN N [] []=List.replicate N.length .no
  | []=>rfl
  | _::N=>by
    show Sl.no::startN N [] []=_
    rw[startN_nil N];rfl
theorem startN_eq:∀{N:List Str} {ms:List Md} {ds:List PyData},ms.length≤N.length→ds.length=ms.length→startN N ms ds=startD N.length ms ds
  | N,[],[],_,_=>startN_nil N
  | _::N,m::ms,d::ds,h1,h2=>by
    show slOf m d::startN N ms ds=slOf m d::startD (N.length + 1 - 1) ms ds
    rw[startN_eq (by simpa using h1) (by simpa using h2)];rfl
  | [],_::_,_,h,_=>by simp at h
  | _,[],_::_,_,h=>by simp at h
  | _,_::_,[],_,h=>by simp at h
section
variable {P:Program} {w:World} {K:PySem.W.Frag} {mg:Str→Option Value} {base:Heap}
theorem start_sl {C:DC} {col:Addr→Nat} {H:Hp} {F:Addr→Prop} {hand:Option (Addr×Addr)} (hC:C.hand=hand) (hH:C.H0=H) (f:∀b,F b→col b=0) (lo:∀b,col b≤1) {ms:List Md} {vs:List V} {ds:List PyData} {n:Nat} (ar:ArgsR F hand H ms vs ds) :
    ∀(i:Nat) (s:Sl),(startD n ms ds)[i]?=some s→∀j:Nat,SlR C col H j ((vs.map some++List.replicate (n - vs.length) none)[i]?).join s:=by
  induction ar generalizing n with
  | nil=>
    intro i s e j
    have e':(List.replicate n Sl.no)[i]?=some s:=e
    rw[List.getElem?_replicate] at e'
    split at e'
    · cases e';trivial
    · cases e'
  | @cons m v d ms vs ds a t ih=>
    intro i s e j
    have e':(slOf m d::startD (n - 1) ms ds)[i]?=some s:=e
    cases i with
    | zero=>
      cases e'
      show SlR C col H j (some v) (slOf m d)
      have mv0:∀b o,F b→H b=some o→Z col b∧H b=some o:=fun b o z e=>⟨f b z,e⟩
      cases m with
      | sh=>exact⟨v,rfl,ThV.mv mv0 a⟩
      | bo=>
        obtain⟨ad,us,es,rfl,rfl,nh,e2,t2⟩:=a
        exact⟨ad,us,rfl,lo ad,by rw[hC];exact nh,e2,ThVs.mv mv0 t2⟩
      | hd=>
        obtain⟨q,hq,rfl⟩:=a
        exact⟨q,hC.trans hq,rfl⟩
      | b2=>
        obtain⟨ad,as,dss,rfl,rfl,nh,e2,t2⟩:=a
        rw[slOf_b2]
        exact⟨ad,as,rfl,⟨lo ad,by rw[hC];exact nh⟩,e2,t2.mv mv0 fun b o g e=>⟨⟨lo b,by rw[hC];exact g⟩,e⟩⟩
      | bd=>exact⟨v,rfl,ThV.mv (fun b o g e=>⟨⟨(by rw[hH,e];exact fun q=>nomatch q),by rw[hC];exact g⟩,by rw[hH];exact e⟩) a⟩
    | succ i=>
      have:=ih (n:=n - 1) i s e' j
      rw[List.map_cons,List.cons_append,List.getElem?_cons_succ,List.length_cons,show n - (vs.length + 1)=n - 1 - vs.length by lia]
      exact this
theorem start_len {F:Addr→Prop} {hand:Option (Addr×Addr)} {H:Hp} {ms:List Md} {vs:List V} {ds:List PyData} {n:Nat} (a:ArgsR F hand H ms vs ds) (h:ms.length≤n):(startD n ms ds).length=n:=by
  induction a generalizing n with
  | nil=>show (List.replicate n Sl.no).length=n;rw[List.length_replicate]
  | @cons m v d ms vs ds a t ih=>
    show (slOf m d::startD (n - 1) ms ds).length=n
    rw[List.length_cons] at h
    rw[List.length_cons,ih (by lia)]
    lia
open Classical in
theorem fn_d {x qual:Str} {st:Stmt} {f:Addr} {fd:FuncData} {N ps:List Str} {k:Nat} {sp:DSp} {ms:List Md} (F:Fun K x qual st f fd) (S:FnScope N ps (defScope st)) (hm:ms.length=ps.length)
    (hb:∀(C:DC) (cdv:Value) (A:Around) (outer:List Env) (s:Shared) (H:Hp) (E:XK),Room k (A.deeper (envOfC qual (defScope st) s.heap.objs.size f cdv))→
      ∃t,PSs (cxOf CX0 P w K mg base N qual (defScope st) f cdv A outer s H E).nox (defBody st) (sOf C t)∧∀ds Q,ds.length=ms.length→sp ds Q→t { nx:=fun _=>Q .none,rt:=Q } (startN N ms ds)) :
    FnOk P w K mg base CX0 (k + 1) f fd ps (spD ms sp):=by
  refine F.ok S (fun vs H Q E h=>?_) (fun cdv A outer s H vs Q E hr h=>?_)
  · obtain⟨_,_,_,_,_,_,_,a,_⟩:=h
    rw[a.len.1,hm]
  · obtain⟨G,hand,ds,Qd,h1,h2,h3,a,h4,h5⟩:=h
    obtain⟨t,ht,q⟩:=hb ⟨G,hand,H⟩ cdv A outer s H E hr
    have hN:ps.length≤N.length:=by have:=congrArg List.length S.pre;rw[List.length_take] at this;lia
    let col:Addr→Nat:=fun b=>if G b then 0 else 1
    have c0:∀b,G b→col b=0:=fun b hb=>if_pos hb
    have c1:∀b,¬ G b→col b=1:=fun b hb=>if_neg hb
    have lo:∀b,col b≤1:=fun b=>by
      by_cases z:G b
      · rw[c0 b z];lia
      · rw[c1 b z];lia
    refine⟨_,ht,startD N.length ms ds,[],⟨fun _=>Qd .none,Qd,fun _=>False,fun _=>False,fun _=>False⟩,⟨col,fun b hb=>c0 b (h1.1 b hb),fun b hb=>?_,fun q hq=>c1 _ (h2 q hq),fun i s e=>start_sl (C:=⟨G,hand,H⟩) rfl rfl c0 lo a i s e i,fun p hp=>(nomatch hp),Kq.refl,h3,h3,h1,?_⟩,by rw[←startN_eq (by lia) a.len.2];exact q ds Qd a.len.2 h4,⟨fun ρ σ H' R h=>?_,fun v d ρ σ H' R h=>?_,fun _ _ _ _ h=>h.elim,fun _ _ _ _ h=>h.elim,fun _ _ _ _ _ _ _ _ h=>h.elim⟩⟩
    · by_cases z:G b
      · exact z
      · rw[c1 b z] at hb;cases hb
    · rw[start_len a (by lia)]
      unfold L2.start
      rw[List.length_append,List.length_map,List.length_replicate,a.len.1]
      lia
    · obtain⟨col',r⟩:=R
      exact h5 _ _ _ h .non r.kq r.hq
    · obtain⟨col',r⟩:=R
      exact h5 _ _ _ h (ThV.mv (fun b o z e=>⟨r.inF b z,e⟩) (r.pd _ List.mem_cons_self)) r.kq r.hq
open Classical in
end
end My
namespace My
open PySem L2
section
variable {X:Cx} {C:DC} {tg e a b:Expr} {t ta tb:DE} {u:DF} {pos:Pos}
def intsD:List PyData→Option (List Int)
  | []=>some []
  | .int b::r=>(intsD r).map (b::·)
  | _::_=>none
theorem ints_of {F:Addr→Prop} {H:Hp} {ds:List PyData} {vs:List V} {bs:List Int} (t:ThVs F H vs ds) (h:intsD ds=some bs):vs=bs.map V.int:=by
  induction ds generalizing vs bs with
  | nil=>cases t;cases h;rfl
  | cons d r ih=>
    cases t with
    | cons x y=>
      cases x with
      | int b=>
        have h':(intsD r).map (b::·)=some bs:=h
        cases q:intsD r with
        | none=>rw[q] at h';cases h'
        | some cs=>
          rw[q] at h'
          cases h'
          rw[ih y q];rfl
      | _=>cases h
theorem intsD_map:∀ns:List Int,intsD (ns.map PyData.int)=some ns
  | []=>rfl
  | n::ns=>by
    show (intsD (ns.map PyData.int)).map (n::·)=some (n::ns)
    rw[intsD_map ns];rfl
def gIn (neg:Bool)  (a b:PyData) (Q:PyData→Prop):Prop:=match a,b with
  | .int i,.list xs=>bnd (intsD xs) fun ns=>Q (.bool (if neg then !(ns.contains i) else ns.contains i))
  | _,_=>False
theorem inV_ints (i:Int):∀ns:List Int,inV (V.int i) (ns.map V.int)=ns.contains i
  | []=>rfl
  | n::ns=>by
    have:=inV_ints i ns
    unfold inV at this ⊢
    rw[List.map_cons,List.any_cons,this,List.contains_cons]
    congr 1
    show (n == i)=(i == n)
    exact Bool.beq_comm
theorem flat_ints:∀ns:List Int,(ns.map V.int).all flatV=true
  | []=>rfl
  | n::ns=>by rw[List.map_cons,List.all_cons,flat_ints ns];rfl
theorem ok_in {K:PySem.W.Frag} {neg:Bool}:OpOk C (rIn K neg) (gIn neg):=by
  intro ρ σ P H v w a b Qd Q R hg k
  unfold gIn at hg
  split at hg
  · obtain⟨ns,hn,q⟩:=bnd_of hg
    obtain⟨col,r,t1,t2⟩:=th2 R
    cases t1
    cases t2 with
    | lst za e t=>
      have z:=ints_of t hn
      subst z
      refine⟨_,_,rfl,.inl (SqL.of e),rfl,flat_ints ns,k _ _ _ ⟨col,r.push ?_⟩ q⟩
      rw[inV_ints]
      exact .bl _
  · exact hg.elim
def dIndexV (i:Nat) (tk:DE)  (ρ:List Sl) (Q:PyData→List Sl→Prop):Prop:=bnd (slotD ρ i) fun a0=>bnd (listD a0) fun _=>tk ρ fun k ρ2=>match k with
  | .int k=>bnd (slotD ρ2 i) fun a=>bnd (listD a) fun xs=>bnd (intsD xs) fun ns=>(k∈ns∧ns.length≤100000)∧Q (.int (ns.idxOf k:Nat)) ρ2
  | _=>False
theorem pd_indexv {i:Nat} {K:PySem.W.Frag} (h:PE X e (tBM K "list" (rIndex K) (tVar i) (tCons (eOf C t) tNil))):PE X e (eOf C (dIndexV i t)):=PE.wk h fun σ H Q zz1=>el3 zz1 fun ρ P Qd zz2 ht k=>zz2.elim fun col0 r0=>by
  obtain⟨a0,h0,ht⟩:=bnd_of ht
  obtain⟨xs0,hx0,ht⟩:=bnd_of ht
  have:=listD_eq hx0
  subst this
  obtain⟨v,ev,t0⟩:=r0.slot h0
  obtain⟨a,vs,rfl,e0,_⟩:=t0.lst
  refine⟨_,ev,.inl ⟨rfl,vs,SqL.of e0⟩,ρ,P,_,⟨col0,r0⟩,ht,fun w d ρ2 H2 R2 h2=>?_⟩
  split at h2
  · rename_i kk
    obtain⟨a1,h1,h2⟩:=bnd_of h2
    obtain⟨xs,hx,h2⟩:=bnd_of h2
    obtain⟨ns,hn,⟨hk,hz⟩,q⟩:=bnd_of h2
    have:=listD_eq hx
    subst this
    obtain⟨col,r⟩:=R2
    obtain⟨v',ev',t1⟩:=r.slot h1
    rw[ev] at ev'
    cases ev'
    obtain⟨a',vs',e',e1,t1⟩:=t1.lst
    cases e'
    have z:=ints_of t1 hn
    subst z
    have tw:ThV (Z col) H2 w (.int kk):=r.pd _ List.mem_cons_self
    cases tw
    exact⟨a,ns,kk,rfl,rfl,SqL.of e1,hk,hz,k _ _ _ _ ⟨col,(r.sub fun _ h=>List.mem_cons_of_mem _ h).push (.int _)⟩ q⟩
  · exact h2.elim
def dLrev (t:DE)  (ρ:List Sl) (Q:List PyData→List Sl→Prop):Prop:=t ρ fun d ρ'=>bnd (listD d) fun xs=>Q xs.reverse ρ'
theorem ThVs.rev {F:Addr→Prop} {H:Hp} {vs:List V} {ds:List PyData} (t:ThVs F H vs ds):ThVs F H vs.reverse ds.reverse:=by
  induction vs generalizing ds with
  | nil=>cases t;exact .nil
  | cons v vs ih=>
    cases t with
    | cons x t=>
      rw[List.reverse_cons,List.reverse_cons]
      exact (ih t).append (.cons x .nil)
theorem pf_lrev {K:PySem.W.Frag} (h:PE X e (fun σ H Q=>tCons (eOf C t) tNil σ H fun vs H1=>∃a xs,vs=[.ref a]∧SqL K H1 a xs∧∀p,H1 p=none→Q (.ref p) (upd H1 p (.lst xs.reverse)))):PE X e (fOf C (dLrev t)):=PE.wk h fun _ _ _ zz3=>el3 zz3 fun ρ P _ R ht k=>⟨ρ,P,_,R,ht,fun v d ρ' H' zz4 q=>zz4.elim fun col r=>by
  obtain⟨xs,hx,q⟩:=bnd_of q
  have:=listD_eq hx
  subst this
  obtain⟨a,vs,rfl,e,t⟩:=Red.lst (.th (r.pd _ List.mem_cons_self))
  exact⟨a,vs,rfl,SqL.of e,fun p hp=>k _ _ _ _ _ ⟨col,r.sub fun _ h=>List.mem_cons_of_mem _ h,t.rev⟩ hp q⟩⟩
theorem it_rev {K:PySem.W.Frag} {a:Addr} {vs:List V} {xs:List PyData} {P:List Pe}:ItOk C (Itv K a vs.length) xs.reverse (.n a (.lst vs)::.s vs xs::P) where
  go:=fun {i ρ σ P' H} s R hi=>by
    obtain⟨col,r⟩:=R
    have h1:=r.pd _ (s _ List.mem_cons_self)
    have h2:ThVs (Z col) H vs xs:=r.pd _ (s _ (List.mem_cons_of_mem _ List.mem_cons_self))
    have hl:=h2.len
    rw[List.length_reverse] at hi
    exact⟨vs,vs.reverse[i]'(by rw[List.length_reverse];lia),SqL.of h1.2.2,rfl,List.getElem?_eq_getElem _⟩
  yld:=fun {i ρ σ P' H H' x d} s R hi y=>by
    obtain⟨e,y⟩:=y
    subst e
    obtain⟨col,r⟩:=R
    have h1:=r.pd _ (s _ List.mem_cons_self)
    have h2:ThVs (Z col) H' vs xs:=r.pd _ (s _ (List.mem_cons_of_mem _ List.mem_cons_self))
    have hx:=y vs (SqL.of h1.2.2)
    obtain⟨d',e1,t⟩:=h2.rev.get hx
    rw[hi] at e1
    cases e1
    exact⟨col,r.push t⟩
  stop:=fun {ρ σ P' H} s R=>by
    obtain⟨col,r⟩:=R
    have h2:ThVs (Z col) H vs xs:=r.pd _ (s _ (List.mem_cons_of_mem _ List.mem_cons_self))
    have hl:=h2.len
    show vs.length≤xs.reverse.length
    rw[List.length_reverse];lia
def dIrev (t:DE)  (ρ:List Sl) (Q:List PyData→List Sl→Prop):Prop:=t ρ fun d ρ'=>bnd (listD d) fun xs=>Q xs.reverse ρ'
theorem di_rev {K:PySem.W.Frag} (h:PI X tg e (iRev K (tCons (eOf C t) tNil))):PI X tg e (iOf C (dIrev t)):=PI.wk h fun _ _ _ zz5=>el3 zz5 fun ρ P _ R ht k=>⟨ρ,P,_,R,ht,fun v d ρ' H' zz6 q=>zz6.elim fun col r=>by
  obtain⟨xs,hx,q⟩:=bnd_of q
  have:=listD_eq hx
  subst this
  obtain⟨a,vs,rfl,za,e1,t1⟩:=th_lst (show ThV (Z col) H' v (.list xs) from r.pd _ List.mem_cons_self)
  refine⟨a,vs,rfl,SqL.of e1,k _ ρ' (.n a (.lst vs)::.s vs xs::P) H' _ ⟨col,?_⟩ (fun _ h=>List.mem_cons_of_mem _ (List.mem_cons_of_mem _ h)) it_rev q⟩
  exact ((r.sub fun _ h=>List.mem_cons_of_mem _ h).add (x:=.s vs xs) t1).add (x:=.n a (.lst vs)) ⟨by rw[show col a=0 from za];decide,r.notH (by rw[show col a=0 from za];decide),e1⟩⟩
theorem pf_comp {n j:Nat} {it:DF} {tt:DT} {te:DE} (hn:n=j + 1) (h:PE X e (tComp (iOf C it) n j (fun _=>cOf C tt) (fun _=>eOf C te))):PE X e (fOf C (dComp j it tt te)):=PE.wk h fun _ _ _ h=>comp_rd hn h
def gB2 (f:Bool→Bool→Bool)  (a b:PyData) (Q:PyData→Prop):Prop:=match a,b with
  | .bool i,.bool j=>Q (.bool (f i j))
  | _,_=>False
end
theorem atI_0 {α:Type} {x:α} {xs:List α}:atI (x::xs) 0=some x:=atI_nat (j:=0) rfl
theorem a1_0 {α:Type} {x:α}:atI [x] 0=some x:=rfl
theorem a2_0 {α:Type} {x y:α}:atI [x,y] 0=some x:=rfl
theorem a2_1 {α:Type} {x y:α}:atI [x,y] 1=some y:=rfl
theorem a3_0 {α:Type} {x y z:α}:atI [x,y,z] 0=some x:=rfl
theorem a3_1 {α:Type} {x y z:α}:atI [x,y,z] 1=some y:=rfl
theorem a3_2 {α:Type} {x y z:α}:atI [x,y,z] 2=some z:=rfl
theorem iteTT {a b:Prop}:(if true=true then a else b)=a:=rfl
theorem iteFF {a b:Prop}:(if false=true then a else b)=b:=rfl
theorem iteTB {a b:Bool}:(if true=true then a else b)=a:=rfl
theorem iteFB {a b:Bool}:(if false=true then a else b)=b:=rfl
theorem iteTI {a b:Int}:(if true=true then a else b)=a:=rfl
theorem iteFI {a b:Int}:(if false=true then a else b)=b:=rfl
theorem bnd_some {α:Type} {a:α} {Q:α→Prop}:bnd (some a) Q=Q a:=rfl
theorem compM {α:Type} {te:DE} {ρ:List Sl} {Q:List PyData→Prop} {g f:α→PyData}:∀{xs:List α} {acc:List PyData},(∀x∈xs,∀Q':PyData→List Sl→Prop,Q' (f x) (ρ++[.sh (g x)])→te (ρ++[.sh (g x)]) Q')→Q (acc++xs.map f)→dCompL dTrue te ρ Q (xs.map g) acc
  | [],acc,_,q=>by
    have q':Q (acc++[]):=q
    rw[List.append_nil] at q'
    exact q'
  | x::r,acc,h,q=>by
    refine⟨rfl,?_⟩
    rw[if_pos rfl]
    refine h x List.mem_cons_self _ ⟨rfl,compM (fun y hy=>h y (List.mem_cons_of_mem _ hy)) ?_⟩
    rw[List.append_assoc]
    exact q
theorem compF {α:Type} {tt:DT} {te:DE} {ρ:List Sl} {Q:List PyData→Prop} {g f:α→PyData} {p:α→Bool}:∀{xs:List α} {acc:List PyData},(∀x∈xs,∀Q':Bool→List Sl→Prop,Q' (p x) (ρ++[.sh (g x)])→tt (ρ++[.sh (g x)]) Q')→(∀x∈xs,p x=true→∀Q':PyData→List Sl→Prop,Q' (f x) (ρ++[.sh (g x)])→te (ρ++[.sh (g x)]) Q')→
    Q (acc++(xs.filter p).map f)→dCompL tt te ρ Q (xs.map g) acc
  | [],acc,_,_,q=>by
    have q':Q (acc++[]):=q
    rw[List.append_nil] at q'
    exact q'
  | x::r,acc,h1,h2,q=>by
    refine h1 x List.mem_cons_self _ ⟨rfl,?_⟩
    cases e:p x with
    | true=>
      rw[if_pos rfl]
      refine h2 x List.mem_cons_self e _ ⟨rfl,compF (fun y hy=>h1 y (List.mem_cons_of_mem _ hy)) (fun y hy=>h2 y (List.mem_cons_of_mem _ hy)) ?_⟩
      rw[List.filter_cons_of_pos e] at q
      rw[List.append_assoc]
      exact q
    | false=>
      rw[if_neg Bool.false_ne_true]
      refine compF (fun y hy=>h1 y (List.mem_cons_of_mem _ hy)) (fun y hy=>h2 y (List.mem_cons_of_mem _ hy)) ?_
      rw[List.filter_cons_of_neg (by rw[e];exact Bool.false_ne_true)] at q
      exact q
theorem cut_to {xs:List PyData} {k:Nat}:cutD xs none (some ((k:Nat):Int))=xs.take k:=by
  unfold cutD
  rw[HT.sIx_none,HT.sIx_nat,List.drop_zero,Nat.sub_zero]
  by_cases h:k≤xs.length
  · rw[Nat.min_eq_left h]
  · rw[Nat.min_eq_right (by lia),List.take_of_length_le (Nat.le_refl _),List.take_of_length_le (by lia)]
theorem cut_fromto {xs:List PyData} {i j:Nat} (h1:i≤xs.length) (h2:j≤xs.length):cutD xs (some ((i:Nat):Int)) (some ((j:Nat):Int))=(xs.drop i).take (j - i):=by
  unfold cutD
  rw[HT.sIx_nat,HT.sIx_nat,Nat.min_eq_left h1,Nat.min_eq_left h2]
def dCompL3 (tt:DT) (te:DE) (ρ:List Sl) (Q:List PyData→Prop):List PyData→List PyData→Prop
  | [],acc=>Q acc
  | .tuple [x,y,z]::r,acc=>tt (ρ++[.sh x,.sh y,.sh z]) fun b ρ'=>ρ'=ρ++[.sh x,.sh y,.sh z]∧if b=true then te (ρ++[.sh x,.sh y,.sh z]) fun d ρ''=>ρ''=ρ++[.sh x,.sh y,.sh z]∧dCompL3 tt te ρ Q r (acc++[d]) else dCompL3 tt te ρ Q r acc
  | _::_,_=>False
def dCompT3 (it:DF) (tt:DT) (te:DE) (ρ:List Sl) (Q:List PyData→List Sl→Prop):Prop:=it ρ fun xs ρ1=>xs.length≤1000∧dCompL3 tt te ρ1 (fun ds=>Q ds ρ1) xs []
section
variable {X:Cx} {C:DC}
theorem pss_exC {sts:List Stmt} {t:DS} (h:∀C,PSs X sts (sOf C t)):PSs X sts (fun D σ H=>∃C,sOf C t D σ H):=fun pins s σ H D I zz2=>zz2.elim fun C q=>h C pins s σ H D I q
open Classical in
theorem law_start {H:Hp} {hd hl:Addr} {v0:V} {k:Nat} {t:DS} {D:Ends} (d:Hd H hd hl) (hD:∀H',D.rt (.bl true) H') (ht:t { nx:=fun _=>False,rt:=fun d=>d=.bool true } (.no::.hd::List.replicate k .no)) :
    ∃C,sOf C t D (some v0::some (.ref hd)::List.replicate k none) H:=by
  refine⟨⟨fun b=>b≠hd,some (hd,hl),H⟩,_,[],⟨fun _=>False,fun d=>d=.bool true,fun _=>False,fun _=>False,fun _=>False⟩,⟨fun b=>if b=hd then 1 else 0,fun b hb=>?_,fun b hb=>?_,fun q hq=>?_,fun i s e=>?_,fun p hp=>(nomatch hp),Kq.refl,fun q hq=>?_,fun q hq=>?_,⟨fun b hb=>?_,fun b xs hb=>?_⟩,?_⟩,ht,⟨fun _ _ _ _ h=>h.elim,fun v d ρ σ H' R h=>?_,fun _ _ _ _ h=>h.elim,fun _ _ _ _ h=>h.elim,fun _ _ _ _ _ _ _ _ h=>h.elim⟩⟩
  · obtain⟨o,e⟩:=d.at1
    exact if_neg fun z=>by rw[z,e] at hb;cases hb
  · intro z
    have hb':(if b=hd then 1 else 0)=0:=hb
    rw[if_pos z] at hb'
    cases hb'
  · cases hq
    exact if_pos rfl
  · match i with
    | 0=>cases e;trivial
    | 1=>cases e;exact⟨(hd,hl),rfl,rfl⟩
    | i + 2=>
      have e':(List.replicate k Sl.no)[i]?=some s:=e
      rw[List.getElem?_replicate] at e'
      split at e'
      · cases e';trivial
      · cases e'
  · cases hq;exact d
  · cases hq;exact d
  · intro z
    obtain⟨o,e⟩:=d.at1
    rw[z] at hb
    have hb':H hd=none:=hb
    rw[e] at hb';cases hb'
  · intro z
    obtain⟨_,_,_,_,_,_,_,_,e⟩:=id d
    rw[z] at hb
    have hb':H hd=some (.tup xs):=hb
    rw[e] at hb';cases hb'
  · simp
  · obtain⟨col,r⟩:=R
    have t:=r.pd _ List.mem_cons_self
    subst h
    cases (show ThV (Z col) H' v (.bool true) from t)
    exact hD H'
def gT5 (i j k l n:Nat)  (d:PyData) (ρ:List Sl) (Q:List Sl→Prop):Prop:=match d with
  | .tuple [a,b,c,e,f]=>Q (((((ρ.set i (.sh a)).set j (.sh b)).set k (.sh c)).set l (.sh e)).set n (.sh f))
  | _=>False
def strsD:List PyData→Option (List Str)
  | []=>some []
  | .str b::r=>(strsD r).map (b::·)
  | _::_=>none
def gInS (neg:Bool)  (a b:PyData) (Q:PyData→Prop):Prop:=match a,b with
  | .str i,.tuple xs=>bnd (strsD xs) fun ns=>Q (.bool (if neg then !(inV (.str i) (ns.map V.str)) else inV (.str i) (ns.map V.str)))
  | _,_=>False
def gMaxP  (ds:List PyData) (Q:PyData→Prop):Prop:=match ds with
  | [.list xs]=>xs≠[]∧(∀x∈xs,∃i j:Int,x=.tuple [.int i,.int j])∧∀x∈xs,Q x
  | _=>False
end
def spotD (b:Nat×Int):PyData:=.tuple [.int (b.1:Nat),.int b.2]
section
variable {X:Cx} {C:DC} {e:Expr} {u:DF}
def dPopI (i:Nat) (tk:DE)  (ρ:List Sl) (Q:PyData→List Sl→Prop):Prop:=match ρ[i]? with
  | some (.ow _)=>tk ρ fun k ρ'=>match ρ'[i]? with
    | some (.ow ds)=>match k with
      | .int k=>bnd (ixN ds.length k) fun j=>bnd (ds[j]?) fun d=>ds.length≤1000∧Q d (ρ'.set i (.ow (ds.eraseIdx j)))
      | _=>False
    | _=>False
  | _=>False
def dLrng (t:DE)  (ρ:List Sl) (Q:List PyData→List Sl→Prop):Prop:=t ρ fun d ρ'=>match d with
  | .int n=>(0≤n∧n≤1000)∧Q (rngD 0 n.toNat) ρ'
  | _=>False
end
def zipD (xs ys:List PyData):List PyData:=(xs.zip ys).map fun p=>.tuple [p.1,p.2]
section
variable {X:Cx} {C:DC} {tg e:Expr} {t u:DE}
def dZip (t u:DE)  (ρ:List Sl) (Q:List PyData→List Sl→Prop):Prop:=t ρ fun d ρ1=>u ρ1 fun d2 ρ2=>bnd (listD d) fun xs=>bnd (listD d2) fun ys=>Q (zipD xs ys) ρ2
end
def dCompL2 (tt:DT) (te:DE) (ρ:List Sl) (Q:List PyData→Prop):List PyData→List PyData→Prop
  | [],acc=>Q acc
  | .tuple [x,y]::r,acc=>tt (ρ++[.sh x,.sh y]) fun b ρ'=>ρ'=ρ++[.sh x,.sh y]∧if b=true then te (ρ++[.sh x,.sh y]) fun d ρ''=>ρ''=ρ++[.sh x,.sh y]∧dCompL2 tt te ρ Q r (acc++[d]) else dCompL2 tt te ρ Q r acc
  | _::_,_=>False
def dCompT2 (it:DF) (tt:DT) (te:DE) (ρ:List Sl) (Q:List PyData→List Sl→Prop):Prop:=it ρ fun xs ρ1=>xs.length≤1000∧dCompL2 tt te ρ1 (fun ds=>Q ds ρ1) xs []
section
variable {X:Cx} {C:DC}
end
section
variable {X:Cx} {C:DC} {st:Stmt} {te:DE}
end
section
variable {X:Cx} {C:DC} {st:Stmt}
def dIns (i:Nat) (tk te:DE)  (D:DEnds) (ρ:List Sl):Prop:=match ρ[i]? with
  | some (.ow _)=>tk ρ fun k ρ1=>te ρ1 fun d ρ2=>match ρ2[i]? with
    | some (.ow ds)=>∃n:Nat,k=.int ((n:Nat):Int)∧n≤ds.length∧ds.length≤1000∧D.nx (ρ2.set i (.ow (ds.take n++[d]++ds.drop n)))
    | _=>False
  | _=>False
end
theorem Rws.mvm {G F G' F':Addr→Prop} {H H':Hp} {as:List Addr} {dss:List (List PyData)} (t:Rws G F H as dss) (f:∀b o,F b→H b=some o→F' b∧H' b=some o) (g:∀b o,b∈as→G b→H b=some o→G' b∧H' b=some o):Rws G' F' H' as dss:=by
  induction t with
  | nil=>exact .nil
  | cons x e y _ ih=>
    have:=g _ _ List.mem_cons_self x e
    exact .cons this.1 this.2 (y.mv f) (ih fun b o hb=>g b o (List.mem_cons_of_mem _ hb))
section
variable {C:DC} {col col':Addr→Nat} {ρ:List Sl} {σ σ':St} {P:List Pe} {H H':Hp} {p:Addr}
theorem RelC.chg (r:RelC C col ρ σ P H) (i:Nat) (s:Sl) (hl:ρ.length=σ'.length) (fr:∀b,H' b=none→col' b=0) (inF:∀b,col' b=0→C.F b) (hnd:∀q,C.hand=some q→col' q.1=1)
    (z:∀b o,col b=0→H b=some o→col' b=0∧H' b=some o)
    (lo:∀b o,col b≤1→(∀q,C.hand=some q→b≠q.1)→H b=some o→col' b≤1∧H' b=some o)
    (c2:∀c as dss,Pe.o c as dss∈P→∀b o,col b=2 * c + 2→H b=some o→col' b=2 * c + 2∧H' b=some o)
    (ow:∀b o j,j≠i→col b=2 * j + 3→H b=some o→col' b=2 * j + 3∧H' b=some o)
    (kq:Kq C.hand C.H0 H') (hq:Hq C.hand H') (same:∀j,j≠i→σ'[j]?=σ[j]?)
    (new:i < ρ.length→SlR C col' H' i (σ'[i]?).join s):RelC C col' (ρ.set i s) σ' P H':=by
  have mv0:∀b o,Z col b→H b=some o→Z col' b∧H' b=some o:=z
  refine⟨fr,inF,hnd,fun j s' es=>?_,fun x hx=>?_,kq,hq,r.hq0,r.nf,by rw[List.length_set];exact hl⟩
  · by_cases hj:j=i
    · subst hj
      rw[List.getElem?_set] at es
      simp only[if_true] at es
      split at es
      · rename_i hl'
        cases es
        exact new hl'
      · cases es
    · rw[List.getElem?_set_ne (Ne.symm hj)] at es
      rw[same j hj]
      have h:=r.sl j s' es
      cases s' with
      | no=>trivial
      | sh d=>obtain⟨v,e1,t⟩:=h;exact⟨v,e1,t.mv mv0⟩
      | ow ds=>obtain⟨a,vs,e1,c,n,e2,t⟩:=h;exact⟨a,vs,e1,(ow a _ j hj c e2).1,n,(ow a _ j hj c e2).2,t.mv mv0⟩
      | bo ds=>obtain⟨a,vs,e1,c,n,e2,t⟩:=h;exact⟨a,vs,e1,(lo a _ c n e2).1,n,(lo a _ c n e2).2,t.mv mv0⟩
      | hd=>exact h
      | o2 dss=>obtain⟨a,as,e1,c,e2,nd,t⟩:=h;exact⟨a,as,e1,⟨(ow a _ j hj c.1 e2).1,c.2⟩,(ow a _ j hj c.1 e2).2,nd,t.mv mv0 fun b o g e=>⟨⟨(ow b o j hj g.1 e).1,g.2⟩,(ow b o j hj g.1 e).2⟩⟩
      | b2 dss=>obtain⟨a,as,e1,c,e2,t⟩:=h;exact⟨a,as,e1,⟨(lo a _ c.1 c.2 e2).1,c.2⟩,(lo a _ c.1 c.2 e2).2,t.mv mv0 fun b o g e=>⟨⟨(lo b o g.1 g.2 e).1,g.2⟩,(lo b o g.1 g.2 e).2⟩⟩
      | di f ks=>
        obtain⟨a,e1,c,n,e2⟩:=h
        obtain⟨o,ho⟩:=Option.ne_none_iff_exists'.mp e2.ne
        exact⟨a,e1,(ow a o j hj c ho).1,n,e2.mv fun o e=>(ow a o j hj c e).2⟩
      | dm f ks=>
        obtain⟨a,e1,c,n,e2⟩:=h
        obtain⟨o,ho⟩:=Option.ne_none_iff_exists'.mp e2.ne
        exact⟨a,e1,(ow a o j hj c ho).1,n,e2.mv fun o e=>(ow a o j hj c e).2⟩
      | bd d=>exact h
      | ot d=>
        obtain⟨v,e1,t⟩:=h
        refine⟨v,e1,t.mv fun b o g e=>?_⟩
        rcases g with g | ⟨g,xs,gt⟩
        · exact⟨.inl ⟨(ow b o j hj g.1 e).1,g.2⟩,(ow b o j hj g.1 e).2⟩
        · have:=z b o g e
          exact⟨.inr ⟨this.1,xs,by rw[e] at gt;rw[this.2];exact gt⟩,this.2⟩
      | ob R=>
        obtain⟨v,e1,t⟩:=h
        refine⟨v,e1,R.mv (fun b o g e=>?_) t⟩
        rcases g with g | ⟨g,xs,gt⟩
        · exact⟨.inl ⟨(ow b o j hj g.1 e).1,g.2⟩,(ow b o j hj g.1 e).2⟩
        · have:=z b o g e
          exact⟨.inr ⟨this.1,xs,by rw[e] at gt;rw[this.2];exact gt⟩,this.2⟩
  · have h:=r.pd x hx
    cases x with
    | v v d=>exact ThV.mv mv0 h
    | n a o=>exact⟨(lo a o h.1 h.2.1 h.2.2).1,h.2.1,(lo a o h.1 h.2.1 h.2.2).2⟩
    | s vs ds=>exact ThVs.mv mv0 h
    | o c as dss=>exact⟨h.1,h.2.mv mv0 fun b o g e=>⟨⟨(c2 c as dss hx b o g.1 e).1,g.2⟩,(c2 c as dss hx b o g.1 e).2⟩⟩
    | w v d=>exact h
end
section
variable {X:Cx} {C:DC} {a b e:Expr} {pos:Pos}
end
section
variable {X:Cx} {C:DC} {e:Expr}
end
section
variable {X:Cx} {C:DC} {st:Stmt} {e:Expr} {te:DE} {pos:Pos} {u:DA}
def dRet2 (i:Nat)  (D:DEnds) (ρ:List Sl):Prop:=match ρ[i]? with
  | some (.o2 dss)=>D.ro (.o2 dss)
  | some (.ow ds)=>D.ro (.ow ds)
  | some (.di false ks)=>D.ro (.di false ks)
  | _=>False
theorem ds_ret2 {i:Nat} (h:PE X e (tVar i)):PS X (.Return (some e) pos) (sOf C (dRet2 i)):=PS.wk (ps_ret h) fun D σ H z=>el3 z fun ρ P Dd R ht E=>R.elim fun col r=>by
  unfold dRet2 at ht
  split at ht
  · rename_i dss e0
    obtain⟨a,as,e1,c,e2,nd,t⟩:=r.sl i _ e0
    exact⟨_,join_some e1,E.ro _ (.o2 dss) ρ σ H col r ⟨a,as,rfl,⟨c.2,by lia⟩,e2,nd,t.mv (fun _ _ z e=>⟨z,e⟩) fun b o g e=>⟨⟨g.2,by have:=g.1;lia⟩,e⟩⟩ ht⟩
  · rename_i ds e0
    obtain⟨a,vs,e1,c,n,e2,t⟩:=r.sl i _ e0
    exact⟨_,join_some e1,E.ro _ (.ow ds) ρ σ H col r ⟨a,vs,rfl,n,by lia,e2,t⟩ ht⟩
  · rename_i ks e0
    obtain⟨a,e1,c,n,e2⟩:=r.sl i _ e0
    exact⟨_,join_some e1,E.ro _ (.di false ks) ρ σ H col r ⟨a,rfl,n,e2⟩ ht⟩
  · exact ht.elim
end
section
variable {X:Cx} {C:DC} {e:Expr} {ta:DE}
def dSort (ta:DE)  (ρ:List Sl) (Q:List PyData→List Sl→Prop):Prop:=ta ρ fun a ρ'=>∃ns:List Int,a=.list (ns.map PyData.int)∧ns.length < 64∧∀ms:List Int,ms.Perm ns→ms.Pairwise (·≤·)→Q (ms.map PyData.int) ρ'
theorem ints_of_th {F:Addr→Prop} {H:Hp}:∀{ns:List Int} {vs:List V},ThVs F H vs (ns.map PyData.int)→vs=ns.map V.int
  | [],_,.nil=>rfl
  | _::_,_,.cons (.int _) t=>by rw[ints_of_th t];rfl
theorem th_ints {F:Addr→Prop} {H:Hp}:∀ns:List Int,ThVs F H (ns.map V.int) (ns.map PyData.int)
  | []=>.nil
  | i::ns=>.cons (.int i) (th_ints ns)
end
end My
namespace My
abbrev Tb:=List (Option Int)
abbrev Rn:=List (Option Nat)
abbrev Wy:=Nat×Nat×Int
def stepF (st lv c:Int):Option Int:=if lv + c < 0 then none else some (if st < lv + c then st else lv + c)
def gt {α:Type} (t:List (Option α)) (p:Nat):Option α:=(t[p]?).join
def behF (st:Int) (t:Tb) (w:Wy):Option Int:=match gt t w.1 with
  | none=>none
  | some l=>stepF st l w.2.2
def moreF:Option Int→Option Int→Bool
  | none,_=>false
  | some _,none=>true
  | some a,some b=>decide (b < a)
def leO (a b:Option Int):Prop:=moreF a b=false
theorem leO_some {a b:Int}:leO (some a) (some b)↔a≤b:=by unfold leO moreF;simp
theorem leO_none {b:Option Int}:leO none b:=rfl
theorem leO_sn {a:Int}:¬ leO (some a) none:=by unfold leO moreF;simp
theorem leO_refl (a:Option Int):leO a a:=by
  cases a with
  | none=>rfl
  | some x=>exact leO_some.mpr (Int.le_refl x)
theorem leO_trans {a b c:Option Int} (h1:leO a b) (h2:leO b c):leO a c:=by
  cases a with
  | none=>rfl
  | some x=>
    cases b with
    | none=>exact absurd h1 leO_sn
    | some y=>
      cases c with
      | none=>exact absurd h2 leO_sn
      | some z=>exact leO_some.mpr (Int.le_trans (leO_some.mp h1) (leO_some.mp h2))
theorem leO_anti {a b:Option Int} (h1:leO a b) (h2:leO b a):a=b:=by
  cases a with
  | none=>cases b with
    | none=>rfl
    | some y=>exact absurd h2 leO_sn
  | some x=>cases b with
    | none=>exact absurd h1 leO_sn
    | some y=>rw[Int.le_antisymm (leO_some.mp h1) (leO_some.mp h2)]
theorem more_le {a b:Option Int} (h:moreF a b=true):leO b a:=by
  cases a with
  | none=>cases h
  | some x=>cases b with
    | none=>rfl
    | some y=>unfold moreF at h;exact leO_some.mpr (by have:=of_decide_eq_true h;lia)
theorem not_le {a b:Option Int} (h:moreF a b=true):¬ leO a b:=fun z=>by unfold leO at z;rw[z] at h;cases h
theorem le_or {a b:Option Int}:moreF a b=true∨leO a b:=by
  cases e:moreF a b with
  | true=>exact .inl rfl
  | false=>exact .inr e
theorem step_mono {st a b c:Int} (h:a≤b):leO (stepF st a c) (stepF st b c):=by
  unfold stepF
  by_cases h1:a + c < 0
  · rw[if_pos h1];rfl
  · have h2:¬ b + c < 0:=by lia
    rw[if_neg h1,if_neg h2]
    apply leO_some.mpr
    split <;> split <;> lia
theorem step_bd {st l c x:Int} (h0:0≤st) (h:stepF st l c=some x):0≤x∧x≤st:=by
  unfold stepF at h
  split at h
  · cases h
  · have:=Option.some.inj h
    subst this
    split <;> lia
def leT (t u:Tb):Prop:=∀p,leO (gt t p) (gt u p)
theorem leT_refl (t:Tb):leT t t:=fun _=>leO_refl _
theorem leT_trans {t u v:Tb} (a:leT t u) (b:leT u v):leT t v:=fun p=>leO_trans (a p) (b p)
theorem beh_mono {st:Int} {t u:Tb} {w:Wy} (h:leT t u):leO (behF st t w) (behF st u w):=by
  have:=h w.1
  unfold behF
  cases e:gt t w.1 with
  | none=>rfl
  | some a=>
    rw[e] at this
    cases e2:gt u w.1 with
    | none=>rw[e2] at this;exact absurd this leO_sn
    | some b=>rw[e2] at this;exact step_mono (leO_some.mp this)
theorem beh_bd {st:Int} {t:Tb} {w:Wy} {x:Int} (h0:0≤st) (h:behF st t w=some x):0≤x∧x≤st:=by
  unfold behF at h
  split at h
  · cases h
  · exact step_bd h0 h
structure TabOk (m:Nat) (st:Int) (t:Tb):Prop where
  len:t.length=m
  bd:∀p x,gt t p=some x→0≤x∧x≤st
structure LandOk (m:Nat) (ws:List Wy):Prop where
  m1:1≤m
  m2:m≤12
  few:ws.length≤40
  st:∀w∈ws,w.1 < m
  en:∀w∈ws,w.2.1 < m
  lo:∀w∈ws,-1000000000000000000≤w.2.2
  hi:∀w∈ws,w.2.2≤1000000000000000000
theorem gt_out {α:Type} {t:List (Option α)} {p:Nat} (h:t.length≤p):gt t p=none:=by unfold gt;rw[List.getElem?_eq_none h];rfl
theorem gt_at {α:Type} {t:List (Option α)} {p:Nat} (h:p < t.length):t[p]?=some (gt t p):=by unfold gt;rw[List.getElem?_eq_getElem h];rfl
theorem gt_set {α:Type} {t:List (Option α)} {i j:Nat} {x:Option α} (h:i < t.length):gt (t.set i x) j=if i=j then x else gt t j:=by
  unfold gt
  rw[List.getElem?_set]
  by_cases e:i=j
  · rw[if_pos e,if_pos h,if_pos e];rfl
  · rw[if_neg e,if_neg e]
theorem gt_rep {α:Type} {m p:Nat}:gt (List.replicate m (none:Option α)) p=none:=by
  unfold gt
  rw[List.getElem?_replicate]
  split <;> rfl
theorem tab_ext {t u:Tb} (hl:t.length=u.length) (h:∀p,gt t p=gt u p):t=u:=by
  apply List.ext_getElem?
  intro i
  by_cases hi:i < t.length
  · rw[gt_at hi,gt_at (by lia),h i]
  · rw[List.getElem?_eq_none (by lia),List.getElem?_eq_none (by lia)]
theorem tab_anti {t u:Tb} (hl:t.length=u.length) (h1:leT t u) (h2:leT u t):t=u:=tab_ext hl fun p=>leO_anti (h1 p) (h2 p)
def rstep (st:Int) (t:Tb) (acc:Tb×Rn) (p:Wy×Nat):Tb×Rn:=
  if moreF (behF st t p.1) (gt acc.1 p.1.2.1)=true then (acc.1.set p.1.2.1 (behF st t p.1),acc.2.set p.1.2.1 (some p.2)) else acc
def rowF (m:Nat) (ws:List Wy) (st:Int) (t s:Tb):Tb×Rn:=ws.zipIdx.foldl (rstep st t) (s,List.replicate m none)
structure RowI (m:Nat) (ws:List Wy) (st:Int) (t s:Tb) (L:List (Wy×Nat)) (acc:Tb×Rn):Prop where
  l1:acc.1.length=m
  l2:acc.2.length=m
  up:leT s acc.1
  no:∀p,gt acc.2 p=none→gt acc.1 p=gt s p
  yes:∀p n,gt acc.2 p=some n→∃w,ws[n]?=some w∧w.2.1=p∧gt acc.1 p=behF st t w∧moreF (behF st t w) (gt s p)=true
  top:∀q∈L,leO (behF st t q.1) (gt acc.1 q.1.2.1)
theorem row_step {m:Nat} {ws:List Wy} {st:Int} {t s:Tb} {L:List (Wy×Nat)} {acc:Tb×Rn} (ok:LandOk m ws) (I:RowI m ws st t s L acc) {q:Wy×Nat} (hq:ws[q.2]?=some q.1):RowI m ws st t s (L++[q]) (rstep st t acc q):=by
  have hw:q.1∈ws:=List.mem_of_getElem? hq
  have he:q.1.2.1 < m:=ok.en _ hw
  unfold rstep
  by_cases c:moreF (behF st t q.1) (gt acc.1 q.1.2.1)=true
  · rw[if_pos c]
    have g1:∀j,gt (acc.1.set q.1.2.1 (behF st t q.1)) j=if q.1.2.1=j then behF st t q.1 else gt acc.1 j:=fun j=>gt_set (by rw[I.l1];exact he)
    have g2:∀j,gt (acc.2.set q.1.2.1 (some q.2)) j=if q.1.2.1=j then some q.2 else gt acc.2 j:=fun j=>gt_set (by rw[I.l2];exact he)
    have hup:∀j,leO (gt acc.1 j) (gt (acc.1.set q.1.2.1 (behF st t q.1)) j):=fun j=>by
      rw[g1]
      by_cases e:q.1.2.1=j
      · rw[if_pos e,←e];exact more_le c
      · rw[if_neg e];exact leO_refl _
    refine⟨by rw[List.length_set];exact I.l1,by rw[List.length_set];exact I.l2,fun p=>leO_trans (I.up p) (hup p),fun p hp=>?_,fun p n hp=>?_,fun r hr=>?_⟩
    · rw[g2] at hp
      by_cases e:q.1.2.1=p
      · rw[if_pos e] at hp;cases hp
      · rw[if_neg e] at hp;rw[g1,if_neg e];exact I.no p hp
    · rw[g2] at hp
      by_cases e:q.1.2.1=p
      · rw[if_pos e] at hp
        cases hp
        refine⟨q.1,hq,e,by rw[g1,if_pos e],?_⟩
        rcases le_or (a:=behF st t q.1) (b:=gt s p) with z | z
        · exact z
        · exact absurd (leO_trans z (I.up p)) (not_le (e▸c))
      · rw[if_neg e] at hp;rw[g1,if_neg e];exact I.yes p n hp
    · rcases List.mem_append.mp hr with hr | hr
      · exact leO_trans (I.top r hr) (hup _)
      · have:r=q:=by simpa using hr
        subst this
        rw[g1,if_pos rfl];exact leO_refl _
  · rw[if_neg c]
    refine⟨I.l1,I.l2,I.up,I.no,I.yes,fun r hr=>?_⟩
    rcases List.mem_append.mp hr with hr | hr
    · exact I.top r hr
    · have:r=q:=by simpa using hr
      subst this
      rcases le_or (a:=behF st t r.1) (b:=gt acc.1 r.1.2.1) with z | z
      · exact absurd z c
      · exact z
theorem row_fold {m:Nat} {ws:List Wy} {st:Int} {t s:Tb} (ok:LandOk m ws):∀(R L:List (Wy×Nat)) (acc:Tb×Rn),RowI m ws st t s L acc→(∀q∈R,ws[q.2]?=some q.1)→RowI m ws st t s (L++R) (R.foldl (rstep st t) acc)
  | [],L,acc,I,_=>by rw[List.append_nil];exact I
  | q::R,L,acc,I,h=>by
    have:=row_fold ok R (L++[q]) _ (row_step ok I (h q List.mem_cons_self)) fun r hr=>h r (List.mem_cons_of_mem _ hr)
    rw[List.append_assoc] at this
    exact this
theorem row_ok {m:Nat} {ws:List Wy} {st:Int} {t s:Tb} (ok:LandOk m ws) (hs:s.length=m):RowI m ws st t s ws.zipIdx (rowF m ws st t s):=by
  have h0:RowI m ws st t s [] (s,List.replicate m none):=⟨hs,by rw[List.length_replicate],leT_refl s,fun _ _=>rfl,fun p n h=>(by rw[gt_rep] at h;cases h),fun q hq=>(nomatch hq)⟩
  have:=row_fold ok ws.zipIdx [] _ h0 fun q hq=>by
    obtain⟨w,n⟩:=q
    rw[List.mem_zipIdx_iff_getElem?] at hq
    exact hq
  rw[List.nil_append] at this
  exact this
theorem row_top {m:Nat} {ws:List Wy} {st:Int} {t s:Tb} (ok:LandOk m ws) (hs:s.length=m) {w:Wy} (hw:w∈ws):leO (behF st t w) (gt (rowF m ws st t s).1 w.2.1):=by
  obtain⟨n,hn,e⟩:=List.mem_iff_getElem.mp hw
  exact (row_ok ok hs).top (w,n) (by rw[List.mem_zipIdx_iff_getElem?];show ws[n]?=some w;rw[List.getElem?_eq_getElem hn,e])
theorem row_tab {m:Nat} {ws:List Wy} {st:Int} {t s:Tb} (ok:LandOk m ws) (h0:0≤st) (hs:TabOk m st s):TabOk m st (rowF m ws st t s).1:=by
  have I:=row_ok (st:=st) (t:=t) ok hs.len
  refine⟨I.l1,fun p x h=>?_⟩
  cases e:gt (rowF m ws st t s).2 p with
  | none=>rw[I.no p e] at h;exact hs.bd p x h
  | some n=>
    obtain⟨w,_,_,e2,_⟩:=I.yes p n e
    rw[e2] at h
    exact beh_bd h0 h
def Closed (ws:List Wy) (st:Int) (t:Tb):Prop:=∀w∈ws,leO (behF st t w) (gt t w.2.1)
theorem row_below {m:Nat} {ws:List Wy} {st:Int} {t s L:Tb} (ok:LandOk m ws) (hs:s.length=m) (h1:leT t L) (h2:leT s L) (c:Closed ws st L):leT (rowF m ws st t s).1 L:=fun p=>by
  have I:=row_ok (st:=st) (t:=t) ok hs
  cases e:gt (rowF m ws st t s).2 p with
  | none=>rw[I.no p e];exact h2 p
  | some n=>
    obtain⟨w,hw,e1,e2,_⟩:=I.yes p n e
    rw[e2,←e1]
    exact leO_trans (beh_mono h1) (c w (List.mem_of_getElem? hw))
structure Least (m:Nat) (ws:List Wy) (st:Int) (b t:Tb):Prop where
  tab:TabOk m st t
  up:leT b t
  cl:Closed ws st t
  le:∀L,TabOk m st L→leT b L→Closed ws st L→leT t L
theorem Least.uniq {m:Nat} {ws:List Wy} {st:Int} {b t u:Tb} (h:Least m ws st b t) (h':Least m ws st b u):t=u:=tab_anti (h.tab.len.trans h'.tab.len.symm) (h.le u h'.tab h'.up h'.cl) (h'.le t h.tab h.up h.cl)
abbrev Rw:=Tb×Rn
def rowsF (m:Nat) (ws:List Wy) (st:Int):Nat→Rw→List Rw
  | 0,r=>[r]
  | k + 1,r=>if (rowF m ws st r.1 r.1).1=r.1 then [r] else r::rowsF m ws st k (rowF m ws st r.1 r.1)
inductive Rows (m:Nat) (ws:List Wy) (st:Int) (b:Tb):List Rw→Prop
  | one:Rows m ws st b [(b,List.replicate m none)]
  | more {r rs}:Rows m ws st b (r::rs)→(rowF m ws st r.1 r.1).1≠r.1→Rows m ws st b (rowF m ws st r.1 r.1::r::rs)
theorem rowsF_ok {m:Nat} {ws:List Wy} {st:Int} {b:Tb}:∀(k:Nat) (r:Rw) (rs:List Rw),Rows m ws st b (r::rs)→∃r' rs',(rs.reverse++rowsF m ws st k r).reverse=r'::rs'∧Rows m ws st b (r'::rs')∧((rowF m ws st r'.1 r'.1).1=r'.1∨(r'::rs').length=rs.length + k + 1)
  | 0,r,rs,h=>⟨r,rs,by simp [rowsF],h,.inr (by simp)⟩
  | k + 1,r,rs,h=>by
    unfold rowsF
    by_cases c:(rowF m ws st r.1 r.1).1=r.1
    · rw[if_pos c]
      exact⟨r,rs,by simp,h,.inl c⟩
    · rw[if_neg c]
      obtain⟨r',rs',e,h',z⟩:=rowsF_ok k _ (r::rs) (.more h c)
      refine⟨r',rs',?_,h',?_⟩
      · rw[←e];simp
      · rcases z with z | z
        · exact .inl z
        · refine .inr ?_
          rw[z,List.length_cons];lia
section
variable {m:Nat} {ws:List Wy} {st:Int} {b:Tb}
theorem Rows.ok (ok:LandOk m ws) (h0:0≤st) (hb:TabOk m st b):∀{r:Rw} {rs:List Rw},Rows m ws st b (r::rs)→TabOk m st r.1∧r.2.length=m∧leT b r.1
  | _,_,.one=>⟨hb,by simp,leT_refl b⟩
  | _,_,.more (r:=r) h c=>by
    obtain⟨a1,_,a3⟩:=Rows.ok ok h0 hb h
    have I:=row_ok (st:=st) (t:=r.1) ok a1.len
    exact⟨row_tab ok h0 a1,I.l2,leT_trans a3 I.up⟩
theorem Rows.under (ok:LandOk m ws) (hb:b.length=m) {L:Tb} (h1:leT b L) (c:Closed ws st L):∀{r:Rw} {rs:List Rw},Rows m ws st b (r::rs)→r.1.length=m∧leT r.1 L
  | _,_,.one=>⟨hb,h1⟩
  | _,_,.more (r:=r) h _=>by
    obtain⟨a1,a2⟩:=Rows.under ok hb h1 c h
    exact⟨(row_ok (st:=st) (t:=r.1) ok a1).l1,row_below ok a1 a2 a2 c⟩
theorem Rows.least (ok:LandOk m ws) (h0:0≤st) (hb:TabOk m st b) {r:Rw} {rs:List Rw} (h:Rows m ws st b (r::rs)) (c:(rowF m ws st r.1 r.1).1=r.1):Least m ws st b r.1:=by
  obtain⟨a1,_,a3⟩:=h.ok ok h0 hb
  refine⟨a1,a3,fun w hw=>?_,fun L _ h1 cl=>(h.under ok hb.len h1 cl).2⟩
  have:=row_top (st:=st) (t:=r.1) (s:=r.1) ok a1.len hw
  rw[c] at this
  exact this
end
abbrev Ef:=Option (Int×Int×Int)
def EOk (st:Int) (e:Int×Int×Int):Prop:=0≤e.1∧e.1≤st∧0≤e.2.2∧e.2.2≤st∧0≤e.1 + e.2.1∧e.2.2≤st + e.2.1
def passF (e:Ef) (x:Int):Option Int:=match e with
  | none=>none
  | some (l,g,t)=>if x < l then none else some (if t < x + g then t else x + g)
def joinF (a b:Ef):Ef:=match a,b with
  | some (l1,g1,t1),some (l2,g2,t2)=>if t1 < l2 then none else some (if l2 - g1 > l1 then l2 - g1 else l1,g1 + g2,if t2 < t1 + g2 then t2 else t1 + g2)
  | _,_=>none
theorem join_eq {a b:Int×Int×Int} (h:¬ a.2.2 < b.1):joinF (some a) (some b)=some (if b.1 - a.2.1 > a.1 then b.1 - a.2.1 else a.1,a.2.1 + b.2.1,if b.2.2 < a.2.2 + b.2.1 then b.2.2 else a.2.2 + b.2.1):=by
  obtain⟨l1,g1,t1⟩:=a
  obtain⟨l2,g2,t2⟩:=b
  unfold joinF
  simp only at h
  simp only[if_neg h]
theorem join_none {a b:Int×Int×Int} (h:a.2.2 < b.1):joinF (some a) (some b)=none:=by
  obtain⟨l1,g1,t1⟩:=a
  obtain⟨l2,g2,t2⟩:=b
  unfold joinF
  simp only at h
  simp only[if_pos h]
theorem join_ok {st:Int} {a b r:Int×Int×Int} (ha:EOk st a) (hb:EOk st b) (h:joinF (some a) (some b)=some r):EOk st r:=by
  by_cases c:a.2.2 < b.1
  · rw[join_none c] at h;cases h
  · rw[join_eq c] at h
    cases h
    obtain⟨l1,g1,t1⟩:=a
    obtain⟨l2,g2,t2⟩:=b
    obtain⟨h1,h2,h3,h4,h5,h6⟩:=ha
    obtain⟨i1,i2,i3,i4,i5,i6⟩:=hb
    simp only at h1 h2 h3 h4 h5 h6 i1 i2 i3 i4 i5 i6 c
    refine⟨?_,?_,?_,?_,?_,?_⟩ <;> dsimp only <;> (repeat' split) <;> lia
theorem join_pass {a b r:Int×Int×Int} (h:joinF (some a) (some b)=some r) (x:Int):passF (some r) x=(passF (some a) x).bind (passF (some b)):=by
  by_cases c:a.2.2 < b.1
  · rw[join_none c] at h;cases h
  · rw[join_eq c] at h
    cases h
    obtain⟨l1,g1,t1⟩:=a
    obtain⟨l2,g2,t2⟩:=b
    simp only at c
    unfold passF
    dsimp only
    by_cases c1:x < l1
    · rw[if_pos c1,if_pos (by split <;> lia)]
      rfl
    · rw[if_neg c1]
      show _=(if (if t1 < x + g1 then t1 else x + g1) < l2 then none else some (if t2 < (if t1 < x + g1 then t1 else x + g1) + g2 then t2 else (if t1 < x + g1 then t1 else x + g1) + g2))
      obtain⟨y,ey,y1,y2,y3⟩:∃y,(if t1 < x + g1 then t1 else x + g1)=y∧y≤t1∧y≤x + g1∧(y=t1∨y=x + g1):=⟨_,rfl,by split <;> lia,by split <;> lia,by split <;> lia⟩
      obtain⟨m,em,m1,m2,m3⟩:∃m,(if l2 - g1 > l1 then l2 - g1 else l1)=m∧l1≤m∧l2 - g1≤m∧(m=l1∨m=l2 - g1):=⟨_,rfl,by split <;> lia,by split <;> lia,by split <;> lia⟩
      obtain⟨n,en,n1,n2,n3⟩:∃n,(if t2 < t1 + g2 then t2 else t1 + g2)=n∧n≤t2∧n≤t1 + g2∧(n=t2∨n=t1 + g2):=⟨_,rfl,by split <;> lia,by split <;> lia,by split <;> lia⟩
      rw[ey,em,en]
      by_cases c2:x < m
      · rw[if_pos c2,if_pos (show y < l2 by lia)]
      · rw[if_neg c2,if_neg (show ¬ y < l2 by lia)]
        congr 1
        split <;> split <;> lia
def OkE (st:Int):Ef→Prop
  | none=>True
  | some e=>EOk st e
theorem OkE.join {st:Int} {a b:Ef} (ha:OkE st a) (hb:OkE st b):OkE st (joinF a b):=by
  rcases a with _ | a
  · exact trivial
  · rcases b with _ | b
    · exact trivial
    · cases q:joinF (some a) (some b) with
      | none=>exact trivial
      | some r=>exact join_ok ha hb q
theorem unit_ok {st:Int} (h:0≤st):EOk st (0,0,st):=⟨Int.le_refl _,h,h,Int.le_refl _,by simp,by simp⟩
def oneF (st c:Int):Ef:=if st + c < 0 then none else some (if -c > 0 then -c else 0,c,if st + c < st then st + c else st)
def foF (st:Int) (w:Ef) (cs:List Int):Ef:=cs.foldl (fun w c=>joinF w (oneF st c)) w
def fxF (st:Int) (cs:List Int):Ef:=foF st (some (0,0,st)) cs
theorem oneF_ok {st:Int} (h:0≤st) (c:Int):OkE st (oneF st c):=by
  unfold oneF
  split
  · exact trivial
  · refine⟨?_,?_,?_,?_,?_,?_⟩ <;> dsimp only <;> (repeat' split) <;> lia
theorem foF_ok {st:Int} (h:0≤st):∀(cs:List Int) {w:Ef},OkE st w→OkE st (foF st w cs)
  | [],_,hw=>hw
  | c::cs,w,hw=>foF_ok h cs (hw.join (oneF_ok h c))
theorem fxF_ok {st:Int} (h:0≤st) (cs:List Int):OkE st (fxF st cs):=foF_ok h cs (unit_ok h)
theorem pass_joinE (a b:Ef) (x:Int):passF (joinF a b) x=(passF a x).bind (passF b):=by
  rcases a with _ | a
  · rfl
  · rcases b with _ | b
    · show none=(passF (some a) x).bind (passF none)
      cases passF (some a) x <;> rfl
    · by_cases c:a.2.2 < b.1
      · rw[join_none c]
        obtain⟨l1,g1,t1⟩:=a
        obtain⟨l2,g2,t2⟩:=b
        simp only at c
        show none=_
        unfold passF
        dsimp only
        by_cases c1:x < l1
        · rw[if_pos c1];rfl
        · rw[if_neg c1]
          show none=if (if t1 < x + g1 then t1 else x + g1) < l2 then none else _
          rw[if_pos (by split <;> lia)]
      · exact join_pass (join_eq c) x |>.symm▸(by rw[join_eq c])
def wkF (st:Int) (o:Option Int) (cs:List Int):Option Int:=cs.foldl (fun o c=>o.bind (fun x=>stepF st x c)) o
theorem wk_none (st:Int):∀cs:List Int,wkF st none cs=none
  | []=>rfl
  | _::cs=>wk_none st cs
theorem one_step {st x c:Int} (h0:0≤x) (h1:x≤st):passF (oneF st c) x=stepF st x c:=by
  unfold oneF stepF
  by_cases d:st + c < 0
  · rw[if_pos d,if_pos (by lia)]
    rfl
  · rw[if_neg d]
    unfold passF
    dsimp only
    by_cases e:x + c < 0
    · rw[if_pos e,if_pos (by split <;> lia)]
    · rw[if_neg e,if_neg (by split <;> lia)]
      congr 1
      split <;> split <;> (try split) <;> lia
theorem fo_walk {st:Int} (h:0≤st) (x:Int):∀(cs:List Int) (w:Ef),(∀y,passF w x=some y→0≤y∧y≤st)→passF (foF st w cs) x=wkF st (passF w x) cs
  | [],_,_=>rfl
  | c::cs,w,hw=>by
    have e:passF (joinF w (oneF st c)) x=(passF w x).bind (fun y=>stepF st y c):=by
      rw[pass_joinE]
      cases q:passF w x with
      | none=>rfl
      | some y=>exact one_step (hw y q).1 (hw y q).2
    show passF (foF st (joinF w (oneF st c)) cs) x=wkF st ((passF w x).bind (fun y=>stepF st y c)) cs
    rw[fo_walk h x cs _ ?_,e]
    intro y q
    rw[e] at q
    cases q2:passF w x with
    | none=>rw[q2] at q;cases q
    | some z=>rw[q2] at q;exact step_bd h q
theorem pass_unit {st x:Int} (h0:0≤x) (h1:x≤st):passF (some (0,0,st)) x=some x:=by
  unfold passF
  dsimp only
  rw[if_neg (by lia)]
  congr 1
  split <;> lia
theorem fx_walk {st x:Int} (h0:0≤x) (h1:x≤st) (cs:List Int):passF (fxF st cs) x=wkF st (some x) cs:=by
  unfold fxF
  rw[fo_walk (by lia) x cs _ ?_,pass_unit h0 h1]
  intro y q
  rw[pass_unit h0 h1] at q
  cases q
  exact⟨h0,h1⟩
theorem fo_gain {st:Int}:∀(cs:List Int) {w:Int×Int×Int} {r:Int×Int×Int},foF st (some w) cs=some r→r.2.1=w.2.1 + cs.sum
  | [],w,r,q=>by
    have q':some w=some r:=q
    cases q'
    simp
  | c::cs,w,r,q=>by
    have q':foF st (joinF (some w) (oneF st c)) cs=some r:=q
    cases q2:joinF (some w) (oneF st c) with
    | none=>
      rw[q2] at q'
      have:∀cs:List Int,foF st none cs=none:=by
        intro cs
        induction cs with
        | nil=>rfl
        | cons c cs ih=>exact ih
      rw[this] at q'
      cases q'
    | some a=>
      rw[q2] at q'
      rw[fo_gain cs q']
      have ga:a.2.1=w.2.1 + c:=by
        unfold oneF at q2
        split at q2
        · cases q2
        · by_cases d:w.2.2 < (if -c > 0 then -c else 0)
          · rw[join_none (by exact d)] at q2;cases q2
          · rw[join_eq (by exact d)] at q2;cases q2;rfl
      rw[ga,List.sum_cons]
      lia
theorem fx_gain {st:Int} {cs:List Int} {r:Int×Int×Int} (q:fxF st cs=some r):r.2.1=cs.sum:=by
  rw[fo_gain cs q]
  show 0 + cs.sum=cs.sum
  lia
def wstN (ws:List Wy) (n:Nat):Nat:=match ws[n]? with
  | some w=>w.1
  | none=>0
def wenN (ws:List Wy) (n:Nat):Nat:=match ws[n]? with
  | some w=>w.2.1
  | none=>0
def wchN (ws:List Wy) (n:Nat):Int:=match ws[n]? with
  | some w=>w.2.2
  | none=>0
def wlk (ws:List Wy):List Rw→Nat→Nat×List Nat
  | [],p=>(p,[])
  | r::rs,p=>match gt r.2 p with
    | none=>wlk ws rs p
    | some n=>((wlk ws rs (wstN ws n)).1,(wlk ws rs (wstN ws n)).2++[n])
structure Wk (ws:List Wy) (st:Int) (b:Tb) (N:List Nat) (P:Nat→Nat) (L:Nat→Int):Prop where
  way:∀k n,N[k]?=some n→∃w,ws[n]?=some w∧w.1=P k∧w.2.1=P (k + 1)∧stepF st (L k) w.2.2=some (L (k + 1))
  beg:gt b (P 0)=some (L 0)
  rise:∀k,1≤k→k≤N.length→moreF (some (L k)) (gt b (P k))=true
  strict:∀i j,i < j→j≤N.length→P i=P j→L i < L j
theorem more_of {a b c:Option Int} (h:moreF a c=true) (z:leO b c):moreF a b=true:=by
  rcases le_or (a:=a) (b:=b) with q | q
  · exact q
  · exact absurd (leO_trans q z) (not_le h)
section
variable {m:Nat} {ws:List Wy} {st:Int} {b:Tb}
theorem wlk_ok (ok:LandOk m ws) (h0:0≤st) (hb:TabOk m st b):∀{r:Rw} {rs:List Rw},Rows m ws st b (r::rs)→∀p,((rs=[]∧∃l,gt b p=some l)∨(∃n,gt r.2 p=some n))→
    ∃N P L,wlk ws (r::rs) p=(P 0,N)∧N.length=rs.length∧P N.length=p∧gt r.1 p=some (L N.length)∧Wk ws st b N P L∧∀k,k≤N.length→leO (some (L k)) (gt r.1 (P k))
  | _,_,.one,p,h=>by
    rcases h with ⟨_,l,hl⟩ | ⟨n,hn⟩
    · refine⟨[],fun _=>p,fun _=>l,?_,rfl,rfl,hl,⟨fun k n e=>by simp at e,hl,fun k h1 h2=>?_,fun i j h1 h2=>?_⟩,fun k _=>by show leO (some l) (gt b p);rw[hl];exact leO_refl _⟩
      · unfold wlk
        rw[gt_rep]
        rfl
      · simp at h2;lia
      · simp at h2;lia
    · rw[gt_rep] at hn;cases hn
  | _,_,.more (r:=r) (rs:=rs) h c,p,hp=>by
    obtain⟨a1,_,a3⟩:=h.ok ok h0 hb
    have I:=row_ok (st:=st) (t:=r.1) ok a1.len
    have hp':∃n,gt (rowF m ws st r.1 r.1).2 p=some n:=by
      rcases hp with ⟨z,_⟩ | z
      · cases z
      · exact z
    obtain⟨n,hn⟩:=hp'
    obtain⟨w,hw,e1,e2,e3⟩:=I.yes p n hn
    obtain⟨l,hl⟩:∃l,behF st r.1 w=some l:=by
      cases q:behF st r.1 w with
      | none=>rw[q] at e3;cases e3
      | some l=>exact⟨l,rfl⟩
    obtain⟨l',hl',hs⟩:∃l',gt r.1 w.1=some l'∧stepF st l' w.2.2=some l:=by
      have hl2:=hl
      unfold behF at hl2
      split at hl2
      · cases hl2
      · rename_i l' e;exact⟨l',e,hl2⟩
    rw[hl] at e2 e3
    have hq:(rs=[]∧∃l,gt b w.1=some l)∨(∃n,gt r.2 w.1=some n):=by
      cases h with
      | one=>exact .inl ⟨rfl,l',hl'⟩
      | @more r0 rs0 h' c'=>
        obtain⟨b1,_,_⟩:=h'.ok ok h0 hb
        have I0:=row_ok (st:=st) (t:=r0.1) ok b1.len
        cases e:gt (rowF m ws st r0.1 r0.1).2 w.1 with
        | some n'=>exact .inr ⟨n',rfl⟩
        | none=>
          have e4:=I0.no w.1 e
          have e5:behF st r0.1 w=some l:=by
            unfold behF
            rw[←e4,hl']
            exact hs
          have:=row_top (st:=st) (t:=r0.1) (s:=r0.1) ok b1.len (List.mem_of_getElem? hw)
          rw[e5,e1] at this
          exact absurd this (not_le e3)
    obtain⟨N,P,L,f1,f2,f3,f4,W,f6⟩:=wlk_ok ok h0 hb h w.1 hq
    have eL:L N.length=l':=by rw[hl'] at f4;exact (Option.some.inj f4).symm
    let P':Nat→Nat:=fun k=>if k≤N.length then P k else p
    let L':Nat→Int:=fun k=>if k≤N.length then L k else l
    have p1:∀k,k≤N.length→P' k=P k:=fun k hk=>if_pos hk
    have p2:∀k,¬ k≤N.length→P' k=p:=fun k hk=>if_neg hk
    have l1:∀k,k≤N.length→L' k=L k:=fun k hk=>if_pos hk
    have l2:∀k,¬ k≤N.length→L' k=l:=fun k hk=>if_neg hk
    have hlen:(N++[n]).length=N.length + 1:=by simp
    refine⟨N++[n],P',L',?_,by rw[hlen,f2];rfl,by rw[hlen];exact p2 _ (by lia),by rw[hlen,l2 _ (by lia)];exact e2,⟨fun k n' e=>?_,by rw[p1 0 (Nat.zero_le _),l1 0 (Nat.zero_le _)];exact W.beg,fun k k1 k2=>?_,fun i j hij hj hp=>?_⟩,fun k hk=>?_⟩
    · show (match gt (rowF m ws st r.1 r.1).2 p with
        | none=>wlk ws (r::rs) p
        | some n=>((wlk ws (r::rs) (wstN ws n)).1,(wlk ws (r::rs) (wstN ws n)).2++[n]))=_
      rw[hn]
      have:wstN ws n=w.1:=by unfold wstN;rw[hw]
      show ((wlk ws (r::rs) (wstN ws n)).1,(wlk ws (r::rs) (wstN ws n)).2++[n])=_
      rw[this,f1,p1 0 (Nat.zero_le _)]
    · by_cases hk:k < N.length
      · rw[List.getElem?_append_left hk] at e
        rw[p1 k (by lia),p1 (k + 1) (by lia),l1 k (by lia),l1 (k + 1) (by lia)]
        exact W.way k n' e
      · rw[List.getElem?_append_right (by lia)] at e
        have hk':k=N.length:=by
          match q:k - N.length with
          | 0=>lia
          | z + 1=>rw[q] at e;simp at e
        subst hk'
        rw[Nat.sub_self] at e
        cases e
        refine⟨w,hw,?_,?_,?_⟩
        · rw[p1 _ (Nat.le_refl _),f3]
        · rw[p2 _ (by lia),e1]
        · rw[l1 _ (Nat.le_refl _),l2 _ (by lia),eL];exact hs
    · by_cases hk:k≤N.length
      · rw[p1 k hk,l1 k hk];exact W.rise k k1 hk
      · rw[p2 k hk,l2 k hk];exact more_of e3 (a3 p)
    · by_cases hk:j≤N.length
      · rw[l1 i (by lia),l1 j hk]
        rw[p1 i (by lia),p1 j hk] at hp
        exact W.strict i j hij hk hp
      · rw[hlen] at hj
        rw[p1 i (by lia),p2 j hk] at hp
        rw[l1 i (by lia),l2 j hk]
        have z:=f6 i (by lia)
        rw[hp] at z
        cases q:gt r.1 p with
        | none=>rw[q] at z;exact absurd z leO_sn
        | some y=>
          rw[q] at z e3
          have z1:=leO_some.mp z
          have z2:y < l:=of_decide_eq_true e3
          lia
    · by_cases hk':k≤N.length
      · rw[p1 k hk',l1 k hk'];exact leO_trans (f6 k hk') (I.up _)
      · rw[p2 k hk',l2 k hk',e2];exact leO_refl _
end
def seg (N:List Nat) (i j:Nat):List Nat:=(N.drop i).take (j - i)
def chs (ws:List Wy) (ns:List Nat):List Int:=ns.map (wchN ws)
theorem seg_nil (N:List Nat) (i:Nat):seg N i i=[]:=by unfold seg;rw[Nat.sub_self];rfl
theorem seg_succ {N:List Nat} {i j:Nat} (h:i≤j) (h2:j < N.length):seg N i (j + 1)=seg N i j++[N[j]]:=by
  unfold seg
  have e:j + 1 - i=j - i + 1:=by lia
  rw[e,List.take_add_one,List.getElem?_drop,show i + (j - i)=j by lia,List.getElem?_eq_getElem h2]
  rfl
theorem seg_len {N:List Nat} {i j:Nat} (h:j≤N.length):(seg N i j).length=j - i:=by
  unfold seg
  rw[List.length_take,List.length_drop]
  lia
theorem wk_append (st:Int) (o:Option Int) (xs ys:List Int):wkF st o (xs++ys)=wkF st (wkF st o xs) ys:=by unfold wkF;rw[List.foldl_append]
section
variable {ws:List Wy} {st:Int} {b:Tb} {N:List Nat} {P:Nat→Nat} {L:Nat→Int}
theorem Wk.ch (W:Wk ws st b N P L) {k:Nat} (h:k < N.length):stepF st (L k) (wchN ws N[k])=some (L (k + 1)):=by
  obtain⟨w,hw,_,_,e⟩:=W.way k N[k] (List.getElem?_eq_getElem h)
  unfold wchN
  rw[hw]
  exact e
theorem Wk.seg (W:Wk ws st b N P L) {i:Nat}:∀{j:Nat},i≤j→j≤N.length→wkF st (some (L i)) (chs ws (My.seg N i j))=some (L j)
  | 0,h1,_=>by
    have:i=0:=by lia
    subst this
    rw[seg_nil];rfl
  | j + 1,h1,h2=>by
    by_cases e:i=j + 1
    · subst e
      rw[seg_nil];rfl
    · rw[seg_succ (by lia) (by lia)]
      unfold chs
      rw[List.map_append,wk_append]
      have:=W.seg (i:=i) (j:=j) (by lia) (by lia)
      unfold chs at this
      rw[this]
      exact W.ch (by lia)
theorem Wk.bd (W:Wk ws st b N P L) (h0:0≤st) {m:Nat} (hb:TabOk m st b):∀k,k≤N.length→0≤L k∧L k≤st
  | 0,_=>hb.bd _ _ W.beg
  | k + 1,h=>step_bd h0 (W.ch (k:=k) (by lia))
theorem Wk.pl (W:Wk ws st b N P L) {m:Nat} (ok:LandOk m ws) (hb:TabOk m st b):∀k,k≤N.length→P k < m
  | 0,_=>by
    by_cases h:P 0 < m
    · exact h
    · have:=W.beg
      rw[gt_out (by rw[hb.len];lia)] at this
      cases this
  | k + 1,h=>by
    obtain⟨w,hw,_,e,_⟩:=W.way k N[k] (List.getElem?_eq_getElem (by lia))
    rw[←e]
    exact ok.en w (List.mem_of_getElem? hw)
theorem Wk.lid (W:Wk ws st b N P L) {T:Tb} (c:Closed ws st T) {i:Nat} {x:Int} (hx:leO (some x) (gt T (P i))):∀{j:Nat} {y:Int},i≤j→j≤N.length→wkF st (some x) (chs ws (My.seg N i j))=some y→leO (some y) (gt T (P j))
  | 0,y,h1,_,e=>by
    have:i=0:=by lia
    subst this
    rw[seg_nil] at e
    cases e
    exact hx
  | j + 1,y,h1,h2,e=>by
    by_cases q:i=j + 1
    · subst q
      rw[seg_nil] at e
      cases e
      exact hx
    · rw[seg_succ (by lia) (by lia)] at e
      unfold chs at e
      rw[List.map_append,wk_append] at e
      obtain⟨w,hw,e1,e2,_⟩:=W.way j N[j] (List.getElem?_eq_getElem (by lia))
      cases z:wkF st (some x) ((My.seg N i j).map (wchN ws)) with
      | none=>rw[z] at e;cases e
      | some v=>
        rw[z] at e
        have e':stepF st v (wchN ws N[j])=some y:=e
        have ih:=W.lid c hx (j:=j) (y:=v) (by lia) (by lia) z
        have hc:wchN ws N[j]=w.2.2:=by unfold wchN;rw[hw]
        cases g:gt T (P j) with
        | none=>rw[g] at ih;exact absurd ih leO_sn
        | some u=>
          rw[g] at ih
          have s1:=step_mono (st:=st) (c:=w.2.2) (leO_some.mp ih)
          rw[←hc,e',hc] at s1
          have s2:=c w (List.mem_of_getElem? hw)
          unfold behF at s2
          rw[e1,g,e2] at s2
          exact leO_trans s1 s2
end
def levF (st lv:Int):List Int→List Int
  | []=>[lv]
  | c::cs=>match stepF st lv c with
    | none=>[lv]
    | some x=>lv::levF st x cs
theorem levF_none {st lv c:Int} {cs:List Int} (h:stepF st lv c=none):levF st lv (c::cs)=[lv]:=by rw[levF,h]
theorem levF_some {st lv c x:Int} {cs:List Int} (h:stepF st lv c=some x):levF st lv (c::cs)=lv::levF st x cs:=by rw[levF,h]
theorem levF_get {st:Int}:∀{cs:List Int} {x y:Int},wkF st (some x) cs=some y→∀k,k≤cs.length→∃z,(levF st x cs)[k]?=some z∧wkF st (some x) (cs.take k)=some z
  | [],x,y,_,k,hk=>by
    have:k=0:=by simpa using hk
    subst this
    exact⟨x,rfl,rfl⟩
  | c::cs,x,y,h,k,hk=>by
    cases e:stepF st x c with
    | none=>
      have h':wkF st (stepF st x c) cs=some y:=h
      rw[e,wk_none] at h'
      cases h'
    | some x1=>
      have h':wkF st (stepF st x c) cs=some y:=h
      rw[e] at h'
      unfold levF
      rw[e]
      cases k with
      | zero=>exact⟨x,rfl,rfl⟩
      | succ k=>
        obtain⟨z,z1,z2⟩:=levF_get h' k (by simpa using hk)
        refine⟨z,z1,?_⟩
        show wkF st (stepF st x c) (cs.take k)=some z
        rw[e];exact z2
theorem levF_len {st:Int}:∀{cs:List Int} {x y:Int},wkF st (some x) cs=some y→(levF st x cs).length=cs.length + 1
  | [],_,_,_=>rfl
  | c::cs,x,y,h=>by
    have h':wkF st (stepF st x c) cs=some y:=h
    cases e:stepF st x c with
    | none=>rw[e,wk_none] at h';cases h'
    | some x1=>
      rw[e] at h'
      unfold levF
      rw[e,List.length_cons,List.length_cons,levF_len h']
theorem levF_full {st:Int}:∀{cs:List Int} {x y:Int},wkF st (some x) cs=some y→y=x + cs.sum∨st∈levF st x cs
  | [],x,y,h=>by
    cases h
    exact .inl (by simp)
  | c::cs,x,y,h=>by
    have h':wkF st (stepF st x c) cs=some y:=h
    cases e:stepF st x c with
    | none=>rw[e,wk_none] at h';cases h'
    | some x1=>
      rw[e] at h'
      have hd:(levF st x1 cs).head?=some x1:=by
        cases cs with
        | nil=>rfl
        | cons d ds=>
          unfold levF
          cases stepF st x1 d <;> rfl
      by_cases q:x1=st
      · refine .inr ?_
        unfold levF
        rw[e]
        refine List.mem_cons_of_mem _ ?_
        have hm:=List.mem_of_head? hd
        have e3:(st∈levF st x1 cs)=(x1∈levF st x1 cs):=congrArg (·∈levF st x1 cs) q.symm
        rw[e3]
        exact hm
      · have e1:x1=x + c:=by
          unfold stepF at e
          split at e
          · cases e
          · have e2:=Option.some.inj e
            split at e2
            · exact absurd e2.symm q
            · exact e2.symm
        rcases levF_full h' with z | z
        · refine .inl ?_
          rw[z,e1,List.sum_cons];lia
        · refine .inr ?_
          unfold levF
          rw[e]
          exact List.mem_cons_of_mem _ z
structure Rnd (st:Int) (cs:List Int) (x:Int) (le g tp:Int) (k:Nat):Prop where
  fx:fxF st cs=some (le,g,tp)
  g0:0 < g
  gs:g=cs.sum
  xt:x < tp
  tst:tp≤st
  kl:k≤cs.length
  ki:(levF st tp cs).idxOf st=k
  km:st∈levF st tp cs
  kw:wkF st (some tp) (cs.take k)=some st
  ll:(levF st tp cs).length=cs.length + 1
theorem rnd_ok {st:Int} {cs:List Int} {x y:Int} (h0:0≤x) (h1:x≤st) (w:wkF st (some x) cs=some y) (hy:x < y):∃le g tp k,Rnd st cs x le g tp k∧le≤x:=by
  have hp:=fx_walk h0 h1 cs
  rw[w] at hp
  have hok:=fxF_ok (by lia) cs (st:=st)
  cases e:fxF st cs with
  | none=>rw[e] at hp;cases hp
  | some r=>
    obtain⟨le,g,tp⟩:=r
    rw[e] at hp hok
    have gs:=fx_gain e
    obtain⟨o1,o2,o3,o4,o5,o6⟩:=hok
    simp only at o1 o2 o3 o4 o5 o6 gs
    unfold passF at hp
    dsimp only at hp
    split at hp
    · cases hp
    · rename_i hle
      have hy2:=Option.some.inj hp
      have g0:0 < g:=by split at hy2 <;> lia
      have xt:x < tp:=by split at hy2 <;> lia
      have wt:=fx_walk (st:=st) (x:=tp) o3 o4 cs
      rw[e] at wt
      unfold passF at wt
      dsimp only at wt
      rw[if_neg (by lia),if_pos (by lia)] at wt
      have km:st∈levF st tp cs:=by
        rcases levF_full wt.symm with z | z
        · lia
        · exact z
      have hlt:=List.idxOf_lt_length_iff.mpr km
      have ll:=levF_len wt.symm
      rw[ll] at hlt
      obtain⟨z,z1,z2⟩:=levF_get wt.symm ((levF st tp cs).idxOf st) (by lia)
      have ez:z=st:=by
        have hl2:=List.idxOf_lt_length_iff.mpr km
        rw[List.getElem?_eq_getElem hl2,List.getElem_idxOf hl2] at z1
        exact (Option.some.inj z1).symm
      subst ez
      exact⟨le,g,tp,_,⟨e,g0,gs,xt,o4,by lia,rfl,km,z2,ll⟩,by lia⟩
section
variable {m:Nat} {ws:List Wy} {st:Int} {b:Tb} {N:List Nat} {P:Nat→Nat} {L:Nat→Int}
theorem seg_take {N:List Nat} {i j k:Nat} (h:k≤j - i):(seg N i j).take k=seg N i (i + k):=by
  unfold seg
  rw[List.take_take,show min k (j - i)=k by lia,show i + k - i=k by lia]
theorem fill_lid (W:Wk ws st b N P L) {i j:Nat} (hij:i < j) (hj:j≤N.length) (hp:P i=P j) {le g tp:Int} {k:Nat} (hle:le≤L i) (R:Rnd st (chs ws (seg N i j)) (L i) le g tp k) {T:Tb} (hT:TabOk m st T) (hb:leT b T) (c:Closed ws st T) :
    leO (some st) (gt T (P (i + k))):=by
  have kl:k≤j - i:=by
    have:=R.kl
    unfold chs at this
    rw[List.length_map,seg_len hj] at this
    exact this
  have h0:leO (some (L 0)) (gt T (P 0)):=by rw[←W.beg];exact hb _
  have hi:=W.lid c h0 (j:=i) (Nat.zero_le _) (by lia) (W.seg (Nat.zero_le _) (by lia))
  cases q:gt T (P i) with
  | none=>rw[q] at hi;exact absurd hi leO_sn
  | some z=>
    rw[q] at hi
    have hz:=leO_some.mp hi
    obtain⟨z0,z1⟩:=hT.bd _ _ q
    have wz:=fx_walk z0 z1 (chs ws (seg N i j))
    rw[R.fx] at wz
    unfold passF at wz
    dsimp only at wz
    rw[if_neg (by lia)] at wz
    have hr:=W.lid c (x:=z) (by rw[q];exact leO_refl _) (j:=j) (by lia) hj wz.symm
    rw[←hp,q] at hr
    have hr':=leO_some.mp hr
    have:=R.g0
    have htz:tp≤z:=by split at hr' <;> lia
    have ht:leO (some tp) (gt T (P i)):=by rw[q];exact leO_some.mpr htz
    refine W.lid c ht (j:=i + k) (by lia) (by lia) ?_
    have kw:=R.kw
    unfold chs at kw ⊢
    rw[←List.map_take,seg_take kl] at kw
    exact kw
theorem fill_new (W:Wk ws st b N P L) (h0:0≤st) (hb:TabOk m st b) {i j k:Nat} (hij:i < j) (hj:j≤N.length) (hp:P i=P j) (hk:i + k≤j):gt b (P (i + k))≠some st:=fun e=>by
  have key:∀q,1≤q→q≤N.length→gt b (P q)≠some st:=fun q h1 h2 e=>by
    have r:=W.rise q h1 h2
    rw[e] at r
    have:=of_decide_eq_true r
    have:=(W.bd h0 hb q h2).2
    lia
  by_cases hk0:i + k=0
  · rw[hk0] at e
    have:i=0:=by lia
    rw[this] at hp
    rw[hp] at e
    exact key j (by lia) hj e
  · exact key (i + k) (by lia) (by lia) e
theorem Least.fill (hb:TabOk m st b) {p:Nat} (hp:p < m) {t:Tb} (h:Least m ws st (b.set p (some st)) t) (hl:∀T,TabOk m st T→leT b T→Closed ws st T→leO (some st) (gt T p)):Least m ws st b t:=by
  have g:∀j,gt (b.set p (some st)) j=if p=j then some st else gt b j:=fun j=>gt_set (by rw[hb.len];exact hp)
  refine⟨h.tab,fun q=>leO_trans ?_ (h.up q),h.cl,fun T hT h1 h2=>h.le T hT (fun q=>?_) h2⟩
  · rw[g]
    by_cases e:p=q
    · rw[if_pos e]
      cases z:gt b q with
      | none=>rfl
      | some x=>exact leO_some.mpr (hb.bd _ _ z).2
    · rw[if_neg e];exact leO_refl _
  · rw[g]
    by_cases e:p=q
    · rw[if_pos e,←e];exact hl T hT h1 h2
    · rw[if_neg e];exact h1 q
theorem fill_tab (h0:0≤st) (hb:TabOk m st b) {p:Nat} (hp:p < m):TabOk m st (b.set p (some st)):=by
  refine⟨by rw[List.length_set];exact hb.len,fun q x h=>?_⟩
  rw[gt_set (by rw[hb.len];exact hp)] at h
  by_cases e:p=q
  · rw[if_pos e] at h;cases h;exact⟨h0,Int.le_refl _⟩
  · rw[if_neg e] at h;exact hb.bd q x h
end
def lack (st:Int) (b:Tb):Nat:=b.countP fun x=>!(x == some st)
theorem lack_set (st:Int):∀(b:Tb) (p:Nat),p < b.length→gt b p≠some st→lack st (b.set p (some st)) < lack st b
  | [],_,h,_=>by simp at h
  | x::b,0,_,h=>by
    have hx:x≠some st:=h
    show List.countP _ (some st::b) < List.countP _ (x::b)
    rw[List.countP_cons_of_neg (by simp),List.countP_cons_of_pos (by simp [hx])]
    lia
  | x::b,p + 1,h1,h2=>by
    have ih:=lack_set st b p (by simpa using h1) h2
    show List.countP _ (x::b.set p (some st)) < List.countP _ (x::b)
    unfold lack at ih
    rw[List.countP_cons,List.countP_cons]
    lia
theorem nodup_few:∀(m:Nat) (l:List Nat),l.Nodup→(∀x∈l,x < m)→l.length≤m
  | 0,l,_,h=>by
    cases l with
    | nil=>exact Nat.le_refl _
    | cons x r=>exact absurd (h x List.mem_cons_self) (by lia)
  | m + 1,l,nd,h=>by
    by_cases c:m∈l
    · have h1:=nodup_few m (l.erase m) (nd.erase m) fun x hx=>by
        have h2:=h x (List.mem_of_mem_erase hx)
        have h3:x≠m:=fun e=>by
          subst e
          exact absurd hx (nd.not_mem_erase)
        lia
      rw[List.length_erase_of_mem c] at h1
      lia
    · have:=nodup_few m l nd fun x hx=>by
        have h2:=h x hx
        have h3:x≠m:=fun e=>c (e▸hx)
        lia
      lia
abbrev Sp2:=Nat×Int
def baseF (m:Nat) (b:Sp2):Tb:=(List.replicate m none).set b.1 (some b.2)
def enF (t:Tb) (g:Sp2):Bool:=match gt t g.1 with
  | none=>false
  | some l=>decide (g.2≤l)
section
variable {m:Nat} {ws:List Wy} {st:Int} {b g:Sp2}
theorem base_len:(baseF m b).length=m:=by unfold baseF;rw[List.length_set,List.length_replicate]
end
section
variable {ws:List Wy} {row:List Nat} {cs:List Int} {st sc gv x y:Int} {p0:Nat}
end
section
variable {m:Nat} {row:List Nat} {cs:List Int} {sc gv:Int} {B S ws:List Wy}
end
section
variable {m:Nat} {ws:List Wy} {row:List Nat} {cs:List Int} {sc gv st x y:Int} {p0 pl:Nat}
end
section
variable {m:Nat} {ws:List Wy} {st:Int}
end
section
variable {m:Nat} {st:Int}
end
end My
namespace L2
open PySem PySem.Spec PyProof.Rows
def compOkS (N:List Str) (osc scope:Scope) (x:Str) (j:Nat):Bool:=
  decide N.Nodup&&decide (N[j]?=some x)&&decide (scope.kind=.function)&&decide (osc.kind=.function)&&(scope.names.lookup x == some .local)&&
    scope.names.all fun y=>match y.2 with
      | .cell=>false
      | .local=>scope.names.lookup y.1 == some .local&&(y.1 == x||!(N.contains y.1))
      | .free=>osc.names.lookup y.1 == some .cell
      | _=>true
theorem CompSc.old {N:List Str} {osc scope:Scope} {x:Str} {j:Nat} (h:compOkS N osc scope x j=true):CompSc N N osc scope j x:=by
  unfold compOkS at h
  simp only[Bool.and_eq_true,decide_eq_true_eq,List.all_eq_true,beq_iff_eq] at h
  obtain⟨⟨⟨⟨⟨h1,h0⟩,h2⟩,h3⟩,h4⟩,h5⟩:=h
  refine⟨h1,h0,fun i y _ e=>e,Nat.le_succ _,h2,fun y hy e=>?_,fun y hy e=>?_,fun y hy e=>?_,h4,h3,fun y hy e=>?_⟩
  · have:=h5 y hy;rw[e] at this;cases this
  · have:=h5 y hy
    rw[e] at this
    simp only[Bool.and_eq_true,beq_iff_eq] at this
    exact this.1
  · have:=h5 y hy
    rw[e] at this
    simp only[Bool.and_eq_true,Bool.or_eq_true,beq_iff_eq,Bool.not_eq_true',List.contains_eq_mem,decide_eq_false_iff_not] at this
    exact this.2
  · have:=h5 y hy
    rw[e] at this
    simp only[beq_iff_eq] at this
    exact this
end L2
namespace My
open PySem L2
def dCompLS (j:Nat) (tt:DT) (te:DE) (ρ:List Sl) (Q:List PyData→Prop):List PyData→List PyData→Prop
  | [],acc=>Q acc
  | x::r,acc=>tt (ρ.set j (.sh x)) fun b ρ'=>ρ'=ρ.set j (.sh x)∧if b=true then te (ρ.set j (.sh x)) fun d ρ''=>ρ''=ρ.set j (.sh x)∧dCompLS j tt te ρ Q r (acc++[d]) else dCompLS j tt te ρ Q r acc
def dCompS (n j:Nat) (it:DF) (tt:DT) (te:DE)  (ρ:List Sl) (Q:List PyData→List Sl→Prop):Prop:=it ρ fun xs ρ1=>(ρ1.length=n∧ρ1[j]?=some .no∧xs.length≤1000)∧dCompLS j tt te ρ1 (fun ds=>Q ds ρ1) xs []
section
variable {X:Cx} {C:DC}
theorem RelC.unset {col:Addr→Nat} {ρ:List Sl} {σ:St} {P:List Pe} {H:Hp} {j:Nat} {s:Sl} {v:Option V} (r:RelC C col (ρ.set j s) (σ.set j v) P H) (hj:ρ[j]?=some .no) (hl:ρ.length=σ.length):RelC C col ρ σ P H:=by
  refine { r with sl:=fun i s' e=>?_,len:=hl }
  by_cases c:j=i
  · subst c
    rw[hj] at e
    cases e
    trivial
  · have:=r.sl i s' (by rw[List.getElem?_set_ne c];exact e)
    rw[List.getElem?_set_ne c] at this
    exact this
theorem pad_eqS {σ:St} {n j:Nat} {x:V} (h1:n=σ.length):(padS n j σ).set j (some x)=σ.set j (some x):=by
  subst h1
  unfold padS
  rw[List.take_append_of_le_length (Nat.le_refl _),List.take_length,List.set_set]
theorem comp_rdS {it:DF} {tt:DT} {te:DE} {n j:Nat} {σ:St} {H:Hp} {Q:VK} (h:fOf C (dCompS n j it tt te) σ H Q):tComp (iOf C it) n j (fun _=>cOf C tt) (fun _=>eOf C te) σ H Q:=by
  obtain⟨ρ,P,Qd,R,ht,k⟩:=h
  refine⟨ρ,P,_,R,ht,fun xs ρ1 P1 H1 J R1 s1 io q=>?_⟩
  obtain⟨⟨hn,hj,hx⟩,q⟩:=q
  have lz:∀m,m≤1000→m≤sizeLine:=fun m hm=>Nat.le_of_lt (small1000 hm)
  refine⟨fun i m ys H'=>m=xs.length - i∧i≤xs.length∧ys.length≤i∧∃acc,Rel C ρ1 σ (.s ys acc::P1) H'∧dCompLS j tt te ρ1 (fun ds=>Qd ds ρ1) (xs.drop i) acc,⟨xs.length,by simp,Nat.zero_le _,Nat.le_refl _,[],?_,q⟩,?_⟩
  · obtain⟨col,r⟩:=R1
    exact⟨col,r.add (x:=.s [] []) .nil⟩
  rintro i m ys H2 ⟨rfl,hi,hy,acc,R2,q2⟩
  refine⟨lz _ (by lia),?_⟩
  have sub2:∀p∈P1,p∈Pe.s ys acc::P1:=fun _ h=>List.mem_cons_of_mem _ h
  have hlen:ρ1.length=σ.length:=by obtain⟨col,r⟩:=R2;exact r.len
  by_cases hlt:i < xs.length
  · rw[List.drop_eq_getElem_cons hlt] at q2
    refine .inr ⟨io.go sub2 R2 hlt,fun ys' H'=>ys'.length≤i + 1∧∃acc,Rel C ρ1 σ (.s ys' acc::P1) H'∧dCompLS j tt te ρ1 (fun ds=>Qd ds ρ1) (xs.drop (i + 1)) acc,fun ys' H' hh=>⟨xs.length - (i + 1),by lia,rfl,hlt,hh.1,hh.2⟩,fun x H3 y a=>?_⟩
    have R3:Rel C (ρ1.set j (.sh xs[i])) (σ.set j (some x)) (.s ys acc::P1) H3:=by
      obtain⟨col,r⟩:=io.yld sub2 R2 (List.getElem?_eq_getElem hlt) y
      exact⟨col,(r.store (i:=j) (r.pd _ List.mem_cons_self)).sub fun _ h=>List.mem_cons_of_mem _ h⟩
    rw[pad_eqS (by rw[←hlen,hn])]
    refine⟨_,_,_,R3,q2,fun b ρ' H4 R4 q4=>?_⟩
    obtain⟨rfl,q4⟩:=q4
    cases b with
    | true=>
      refine iteT ⟨_,_,_,R4,by simpa using q4,fun v d ρ'' H5 R5 q5=>?_⟩
      obtain⟨rfl,q5⟩:=q5
      refine⟨by rw[List.length_append];simp;lia,acc++[d],?_,q5⟩
      obtain⟨col,r⟩:=R5
      have t1:ThV (Z col) H5 v d:=r.pd _ List.mem_cons_self
      have t2:ThVs (Z col) H5 ys acc:=r.pd _ (List.mem_cons_of_mem _ List.mem_cons_self)
      exact⟨col,((r.unset hj hlen).sub fun _ h=>List.mem_cons_of_mem _ (List.mem_cons_of_mem _ h)).add (x:=.s (ys++[v]) (acc++[d])) (t2.snoc t1)⟩
    | false=>
      refine iteF ⟨by lia,acc,?_,by simpa using q4⟩
      obtain⟨col,r⟩:=R4
      exact⟨col,r.unset hj hlen⟩
  · have e:i=xs.length:=by lia
    subst e
    rw[List.drop_length] at q2
    refine .inl ⟨io.stop sub2 R2,fun p hp=>k _ _ _ _ _ ?_ hp q2⟩
    obtain⟨col,r⟩:=R2
    exact⟨col,r.sub fun p hp=>List.mem_cons_of_mem _ (s1 p hp),r.pd _ List.mem_cons_self⟩
variable {st:Stmt} {te:DE}
end
section
variable {X:Cx} {C:DC} {st:Stmt} {te:DE} {tg e:Expr} {u:DF}
end
section
variable {C:DC}
section
variable {X:Cx} {st:Stmt} {ta:DF}
def dCompF (n j:Nat) (it:DF) (tt:DT) (te:DE) (ρ:List Sl) (Q:List PyData→List Sl→Prop):Prop:=dCompS n j it tt te (ρ.set j .no) Q
theorem Rel.forget {ρ:List Sl} {σ:St} {P:List Pe} {H:Hp} {j:Nat} (r:Rel C ρ σ P H):Rel C (ρ.set j .no) σ P H:=by
  obtain⟨col,r⟩:=r
  refine⟨col,{ r with sl:=fun i s e=>?_,len:=by rw[List.length_set];exact r.len }⟩
  by_cases c:j=i
  · subst c
    rw[List.getElem?_set] at e
    simp only[if_true] at e
    split at e
    · cases e;trivial
    · cases e
  · rw[List.getElem?_set_ne c] at e
    exact r.sl i s e
variable {a b:Expr} {te:DE} {pos:Pos}
end
end
section
variable {X:Cx} {C:DC} {st:Stmt} {te:DE}
end
section
variable {C:DC}
def gShl:G2:=gI CPow fun i j=>.int (i * 2 ^ j.toNat)
def gAnd:G2:=gI0 fun i j=>.int (Builtin.bitAnd i j)
theorem ok_shl:OpOk C (rI CPow (fun i j=>.int (i * 2 ^ j.toNat))) gShl:=ok_I (f:=fun i j=>.int (i * 2 ^ j.toNat)) fun _ _ _ _=>.int _
theorem ok_and:OpOk C (rI0 (fun i j=>.int (Builtin.bitAnd i j))) gAnd:=ok_I0 (f:=fun i j=>.int (Builtin.bitAnd i j)) fun _ _ _ _=>.int _
end
section
variable {X:Cx} {C:DC}
end
section
variable {C:DC}
end
section
variable {X:Cx} {C:DC} {st:Stmt} {te:DE}
end
section
variable {C:DC}
end
def noB2:List Sl→Bool
  | []=>true
  | .b2 _::_=>false
  | .no::r=>noB2 r
  | .sh _::r=>noB2 r
  | .ow _::r=>noB2 r
  | .bo _::r=>noB2 r
  | .hd::r=>noB2 r
  | .o2 _::r=>noB2 r
  | .di _ _::r=>noB2 r
  | .dm _ _::r=>noB2 r
  | .bd _::r=>noB2 r
  | .ot _::_=>false
  | .ob _::r=>noB2 r
theorem noB2_get:∀{ρ:List Sl} {j:Nat} {d:List (List PyData)},noB2 ρ=true→ρ[j]?=some (.b2 d)→False
  | [],_,_,_,e=>by cases e
  | s::r,0,d,h,e=>by cases e;cases h
  | s::r,j + 1,d,h,e=>by
    have e:r[j]?=some (.b2 d):=e
    cases s with
    | b2 _=>cases h
    | no=>exact noB2_get (show noB2 r=true from h) e
    | sh _=>exact noB2_get (show noB2 r=true from h) e
    | ow _=>exact noB2_get (show noB2 r=true from h) e
    | bo _=>exact noB2_get (show noB2 r=true from h) e
    | hd=>exact noB2_get (show noB2 r=true from h) e
    | o2 _=>exact noB2_get (show noB2 r=true from h) e
    | di _ _=>exact noB2_get (show noB2 r=true from h) e
    | dm _ _=>exact noB2_get (show noB2 r=true from h) e
    | bd _=>exact noB2_get (show noB2 r=true from h) e
    | ot _=>cases h
    | ob _=>exact noB2_get (show noB2 r=true from h) e
theorem noB2_ot:∀{ρ:List Sl} {j:Nat} {d:PyData},noB2 ρ=true→ρ[j]?=some (.ot d)→False
  | [],_,_,_,e=>by cases e
  | s::r,0,d,h,e=>by cases e;cases h
  | s::r,j + 1,d,h,e=>by
    have e:r[j]?=some (.ot d):=e
    cases s with
    | b2 _=>cases h
    | no=>exact noB2_ot (show noB2 r=true from h) e
    | sh _=>exact noB2_ot (show noB2 r=true from h) e
    | ow _=>exact noB2_ot (show noB2 r=true from h) e
    | bo _=>exact noB2_ot (show noB2 r=true from h) e
    | hd=>exact noB2_ot (show noB2 r=true from h) e
    | o2 _=>exact noB2_ot (show noB2 r=true from h) e
    | di _ _=>exact noB2_ot (show noB2 r=true from h) e
    | dm _ _=>exact noB2_ot (show noB2 r=true from h) e
    | bd _=>exact noB2_ot (show noB2 r=true from h) e
    | ot _=>cases h
    | ob _=>exact noB2_ot (show noB2 r=true from h) e
def lendC (C:DC) (a:Addr) (o:HO):DC:=⟨fun b=>C.F b∧b≠a,C.hand,fun b=>if b=a then some o else C.H0 b⟩
section
variable {C:DC} {col col2:Addr→Nat} {ρ:List Sl} {σ:St} {P:List Pe} {H H2:Hp} {i:Nat} {ds:List PyData} {a:Addr} {vs:List V}
theorem RelC.lend (r:RelC C col ρ σ P H) (hn:noB2 ρ=true) (e1:(σ[i]?).join=some (.ref a)) (ca:col a=2 * i + 3) (n:C.H0 a=none) (e2:H a=some (.lst vs)) (t:ThVs (Z col) H vs ds) :
    RelC (lendC C a (.lst vs)) (fun b=>if b=a then 1 else col b) (ρ.set i (.bo ds)) σ P H:=by
  have cn:∀b,b≠a→(if b=a then 1 else col b)=col b:=fun b hb=>if_neg hb
  have nz:∀b,col b≤1→b≠a:=fun b hb q=>by rw[q] at hb;omega
  have mv0:∀b o,Z col b→H b=some o→Z (fun b=>if b=a then 1 else col b) b∧H b=some o:=fun b o z e=>⟨by show (if b=a then 1 else col b)=0;rw[cn b (nz b (by rw[show col b=0 from z];omega))];exact z,e⟩
  have h0:∀b,b≠a→(lendC C a (.lst vs)).H0 b=C.H0 b:=fun b hb=>if_neg hb
  have nh:∀q,C.hand=some q→a≠q.1:=r.notH (by omega)
  refine⟨fun b hb=>?_,fun b hb=>?_,fun q hq=>?_,fun j s es=>?_,fun p hp=>?_,fun b o eb nb=>?_,r.hq,fun q hq=>?_,⟨fun b hb=>?_,fun b xs hb=>?_⟩,by rw[List.length_set];exact r.len⟩
  · have:b≠a:=fun q=>by rw[q,e2] at hb;cases hb
    show (if b=a then 1 else col b)=0
    rw[cn b this];exact r.fresh b hb
  · have hb:(if b=a then 1 else col b)=0:=hb
    have:b≠a:=fun q=>by rw[if_pos q] at hb;cases hb
    rw[cn b this] at hb
    exact⟨r.inF b hb,this⟩
  · show (if q.1=a then 1 else col q.1)=1
    rw[cn _ (fun z=>nh q hq z.symm)];exact r.hnd q hq
  · by_cases hj:j=i
    · subst hj
      rw[List.getElem?_set] at es
      simp only[if_true] at es
      split at es
      · cases es
        exact⟨a,vs,e1,by show (if a=a then 1 else col a)≤1;rw[if_pos rfl];exact Nat.le_refl _,nh,e2,t.mv mv0⟩
      · cases es
    · rw[List.getElem?_set_ne (Ne.symm hj)] at es
      have h:=r.sl j s es
      cases s with
      | no=>trivial
      | sh d=>obtain⟨v,g1,t⟩:=h;exact⟨v,g1,t.mv mv0⟩
      | ow ds=>obtain⟨b,us,g1,c,n',g2,t⟩:=h;have nb:b≠a:=(fun q=>by rw[q] at c;omega);exact⟨b,us,g1,by show (if b=a then 1 else col b)=_;rw[cn b nb];exact c,by rw[h0 b nb];exact n',g2,t.mv mv0⟩
      | bo ds=>obtain⟨b,us,g1,c,n',g2,t⟩:=h;have nb:=nz b c;exact⟨b,us,g1,by show (if b=a then 1 else col b)≤1;rw[cn b nb];exact c,n',g2,t.mv mv0⟩
      | hd=>exact h
      | o2 dss=>obtain⟨b,us,g1,c,g2,nd,t⟩:=h;have nb:b≠a:=(fun q=>by rw[q] at c;have:=c.1;omega);exact⟨b,us,g1,⟨by show (if b=a then 1 else col b)=_;rw[cn b nb];exact c.1,by rw[h0 b nb];exact c.2⟩,g2,nd,t.mv mv0 fun b' o g e=>⟨(by have nb':b'≠a:=(fun q=>by rw[q] at g;have:=g.1;omega);exact⟨by show (if b'=a then 1 else col b')=_;rw[cn b' nb'];exact g.1,by rw[h0 b' nb'];exact g.2⟩),e⟩⟩
      | b2 dss=>exact (noB2_get hn es).elim
      | bd d=>obtain⟨v,g1,t⟩:=h;exact⟨v,g1,t.mv fun b o g e=>(by have nb:b≠a:=(fun q=>g.1 (by rw[q];exact n));exact⟨⟨by rw[h0 b nb];exact g.1,g.2⟩,by rw[h0 b nb];exact e⟩)⟩
      | ot d=>exact (noB2_ot hn es).elim
      | ob R=>obtain⟨v,g1,t⟩:=h;exact⟨v,g1,R.mv (fun b o g e=>⟨g.imp (fun g=>(by have nb:b≠a:=(fun q=>by have:=g.1;rw[q] at this;omega);exact⟨by show (if b=a then 1 else col b)=_;rw[cn b nb];exact g.1,by rw[h0 b nb];exact g.2⟩)) fun g=>⟨(mv0 b o g.1 e).1,g.2⟩,e⟩) t⟩
      | di f ks=>obtain⟨b,g1,c,n',g2⟩:=h;have nb:b≠a:=(fun q=>by rw[q] at c;omega);exact⟨b,g1,by show (if b=a then 1 else col b)=_;rw[cn b nb];exact c,by rw[h0 b nb];exact n',g2⟩
      | dm f ks=>obtain⟨b,g1,c,n',g2⟩:=h;have nb:b≠a:=(fun q=>by rw[q] at c;omega);exact⟨b,g1,by show (if b=a then 1 else col b)=_;rw[cn b nb];exact c,by rw[h0 b nb];exact n',g2⟩
  · have h:=r.pd p hp
    cases p with
    | v v d=>exact ThV.mv mv0 h
    | n b o=>exact⟨by show (if b=a then 1 else col b)≤1;rw[cn b (nz b h.1)];exact h.1,h.2⟩
    | s vs ds=>exact ThVs.mv mv0 h
    | o c as dss=>exact⟨h.1,h.2.mv mv0 fun b' o g e=>⟨(by have nb':b'≠a:=(fun q=>by rw[q] at g;have:=g.1;omega);exact⟨by show (if b'=a then 1 else col b')=_;rw[cn b' nb'];exact g.1,by rw[h0 b' nb'];exact g.2⟩),e⟩⟩
    | w v d=>exact ThV.mv (fun b o g e=>(by have nb:b≠a:=(fun q=>g.1 (by rw[q];exact n));exact⟨⟨by rw[h0 b nb];exact g.1,g.2⟩,by rw[h0 b nb];exact e⟩)) h
  · by_cases q:b=a
    · subst q
      have eb:(if b=b then some (HO.lst vs) else C.H0 b)=some o:=eb
      rw[if_pos rfl] at eb
      rw[←eb];exact e2
    · rw[h0 b q] at eb
      exact r.kq b o eb nb
  · obtain⟨ns,p,b,c,u,v,hl,hp,ha⟩:=r.hq0 q hq
    exact⟨ns,p,b,c,u,v,by rw[h0 _ (fun z=>by rw[z,n] at hl;cases hl)];exact hl,hp,by rw[h0 _ (fun z=>by rw[z,n] at ha;cases ha)];exact ha⟩
  · have hb:(if b=a then some (HO.lst vs) else C.H0 b)=none:=hb
    have:b≠a:=fun q=>by rw[if_pos q] at hb;cases hb
    rw[if_neg this] at hb
    exact⟨r.nf.1 b hb,this⟩
  · have hb:(if b=a then some (HO.lst vs) else C.H0 b)=some (.tup xs):=hb
    have:b≠a:=fun q=>by rw[if_pos q] at hb;cases hb
    rw[if_neg this] at hb
    exact⟨r.nf.2 b xs hb,this⟩
theorem RelC.back (r:RelC C col ρ σ P H) (hn:noB2 ρ=true) (e:ρ[i]?=some (.ow ds)) (e1:(σ[i]?).join=some (.ref a)) (ca:col a=2 * i + 3) (n:C.H0 a=none) (r2:RelC (lendC C a (.lst vs)) col2 (ρ.set i (.bo ds)) σ P H2) :
    RelC C (fun b=>if b=a then 2 * i + 3 else col2 b) ρ σ P H2∧∀b,col2 b=0→(if b=a then 2 * i + 3 else col2 b)=0:=by
  have hi:i < ρ.length:=by
    rcases Nat.lt_or_ge i ρ.length with z | z
    · exact z
    · rw[List.getElem?_eq_none z] at e;cases e
  obtain⟨a',us,g1,c1,g2,g3,tl⟩:=r2.sl i (.bo ds) (by rw[List.getElem?_set_self hi])
  rw[e1] at g1
  cases g1
  have c2:col2 a=1:=by
    rcases Nat.eq_zero_or_pos (col2 a) with z | z
    · exact absurd rfl (r2.inF a z).2
    · omega
  have cn:∀b,b≠a→(if b=a then 2 * i + 3 else col2 b)=col2 b:=fun b hb=>if_neg hb
  have h0:∀b,b≠a→(lendC C a (.lst vs)).H0 b=C.H0 b:=fun b hb=>if_neg hb
  have z0:∀b,col2 b=0→(if b=a then 2 * i + 3 else col2 b)=0:=fun b hb=>by
    rw[cn b (fun q=>by rw[q,c2] at hb;cases hb)];exact hb
  have mv0:∀b o,Z col2 b→H2 b=some o→Z (fun b=>if b=a then 2 * i + 3 else col2 b) b∧H2 b=some o:=fun b o z e=>⟨z0 b z,e⟩
  have nh:∀q,C.hand=some q→a≠q.1:=r.notH (by omega)
  have ng:∀b c,(lendC C a (.lst vs)).H0 b=none→C.H0 b=none∨c:=fun b c hb=>by
    by_cases q:b=a
    · have hb:(if b=a then some (HO.lst vs) else C.H0 b)=none:=hb
      rw[if_pos q] at hb;cases hb
    · rw[h0 b q] at hb;exact .inl hb
  have hz:∀b,(lendC C a (.lst vs)).H0 b=none→C.H0 b=none:=fun b hb=>by
    rcases ng b False hb with z | z
    · exact z
    · exact z.elim
  refine⟨⟨fun b hb=>z0 b (r2.fresh b hb),fun b hb=>?_,fun q hq=>?_,fun j s es=>?_,fun p hp=>?_,fun b o eb nb=>?_,r2.hq,r.hq0,r.nf,r.len⟩,z0⟩
  · have hb:(if b=a then 2 * i + 3 else col2 b)=0:=hb
    have:b≠a:=fun q=>by rw[if_pos q] at hb;omega
    rw[cn b this] at hb
    exact (r2.inF b hb).1
  · show (if q.1=a then 2 * i + 3 else col2 q.1)=1
    rw[cn _ (fun z=>nh q hq z.symm)];exact r2.hnd q hq
  · by_cases hj:j=i
    · subst hj
      rw[e] at es
      cases es
      exact⟨a,us,e1,by show (if a=a then 2 * j + 3 else col2 a)=_;rw[if_pos rfl],n,g3,tl.mv mv0⟩
    · have es2:(ρ.set i (.bo ds))[j]?=some s:=by rw[List.getElem?_set_ne (Ne.symm hj)];exact es
      have h:=r2.sl j s es2
      have hr:=r.sl j s es
      cases s with
      | no=>trivial
      | sh d=>obtain⟨v,k1,t⟩:=h;exact⟨v,k1,t.mv mv0⟩
      | ow ds'=>obtain⟨b,us',k1,c,n',k2,t⟩:=h;have nb:b≠a:=(fun q=>by rw[q,c2] at c;omega);exact⟨b,us',k1,by show (if b=a then 2 * i + 3 else col2 b)=_;rw[cn b nb];exact c,hz b n',k2,t.mv mv0⟩
      | bo ds'=>
        obtain⟨b,us',k1,c,n',k2,t⟩:=h
        obtain⟨b',_,k1',c',_⟩:=hr
        rw[k1] at k1'
        cases k1'
        have nb:b≠a:=(fun q=>by rw[q,ca] at c';omega)
        exact⟨b,us',k1,by show (if b=a then 2 * i + 3 else col2 b)≤1;rw[cn b nb];exact c,n',k2,t.mv mv0⟩
      | hd=>exact h
      | o2 dss=>obtain⟨b,us',k1,c,k2,nd,t⟩:=h;have nb:b≠a:=(fun q=>by rw[q,c2] at c;have:=c.1;omega);exact⟨b,us',k1,⟨by show (if b=a then 2 * i + 3 else col2 b)=_;rw[cn b nb];exact c.1,hz b c.2⟩,k2,nd,t.mv mv0 fun b' o g e=>⟨(by have nb':b'≠a:=(fun q=>by rw[q,c2] at g;have:=g.1;omega);exact⟨by show (if b'=a then 2 * i + 3 else col2 b')=_;rw[cn b' nb'];exact g.1,hz b' g.2⟩),e⟩⟩
      | b2 dss=>exact (noB2_get hn es).elim
      | bd d=>exact hr
      | ot d=>exact (noB2_ot hn es).elim
      | ob R=>obtain⟨v,k1,t⟩:=h;exact⟨v,k1,R.mv (fun b o g e=>⟨g.imp (fun g=>(by have nb:b≠a:=(fun q=>by have:=g.1;rw[q,c2] at this;omega);exact⟨by show (if b=a then 2 * i + 3 else col2 b)=_;rw[cn b nb];exact g.1,hz b g.2⟩)) fun g=>⟨(mv0 b o g.1 e).1,g.2⟩,e⟩) t⟩
      | di f ks=>obtain⟨b,k1,c,n',k2⟩:=h;have nb:b≠a:=(fun q=>by rw[q,c2] at c;omega);exact⟨b,k1,by show (if b=a then 2 * i + 3 else col2 b)=_;rw[cn b nb];exact c,hz b n',k2⟩
      | dm f ks=>obtain⟨b,k1,c,n',k2⟩:=h;have nb:b≠a:=(fun q=>by rw[q,c2] at c;omega);exact⟨b,k1,by show (if b=a then 2 * i + 3 else col2 b)=_;rw[cn b nb];exact c,hz b n',k2⟩
  · have h:=r2.pd p hp
    have hr:=r.pd p hp
    cases p with
    | v v d=>exact ThV.mv mv0 h
    | n b o=>have nb:b≠a:=(fun q=>by have:=hr.1;rw[q,ca] at this;omega);exact⟨by show (if b=a then 2 * i + 3 else col2 b)≤1;rw[cn b nb];exact h.1,h.2⟩
    | s vs ds=>exact ThVs.mv mv0 h
    | o c as dss=>exact⟨h.1,h.2.mv mv0 fun b' o g e=>⟨(by have nb':b'≠a:=(fun q=>by rw[q,c2] at g;have:=g.1;omega);exact⟨by show (if b'=a then 2 * i + 3 else col2 b')=_;rw[cn b' nb'];exact g.1,hz b' g.2⟩),e⟩⟩
    | w v d=>exact hr
  · have nb':b≠a:=fun q=>by rw[q,n] at eb;cases eb
    exact r2.kq b o (by rw[h0 b nb'];exact eb) nb
variable {X:Cx} {e:Expr}
def dCompO (i j:Nat) (tt:DT) (te:DE)  (ρ:List Sl) (Q:List PyData→List Sl→Prop):Prop:=match ρ[i]? with
  | some (.ow ds)=>(noB2 ρ=true∧ρ.length=j∧ds.length≤1000)∧dCompL tt te (ρ.set i (.bo ds)) (fun out=>Q out ρ) ds []
  | _=>False
theorem pf_compO {i j:Nat} {tt:DT} {te:DE} (h:∀C,PE X e (fOf C (dComp j (dIv i) tt te))):PE X e (fOf C (dCompO i j tt te)):=fun pins s σ H Q I q=>by
  obtain⟨ρ,P,Qd,⟨col,r⟩,ht,k⟩:=q
  unfold dCompO at ht
  split at ht
  · rename_i ds es
    obtain⟨⟨hn,hl,h3⟩,ht⟩:=ht
    obtain⟨a,vs,e1,ca,n,e2,t⟩:=r.sl i _ es
    have hi:i < ρ.length:=by
      rcases Nat.lt_or_ge i ρ.length with z | z
      · exact z
      · rw[List.getElem?_eq_none z] at es;cases es
    refine h (lendC C a (.lst vs)) pins s σ H Q I ⟨ρ.set i (.bo ds),P,fun out ρ2=>ρ2=ρ.set i (.bo ds)∧Qd out ρ,⟨_,r.lend hn e1 ca n e2 t⟩,?_,?_⟩
    · unfold dComp dIv
      rw[List.getElem?_set_self hi]
      refine⟨⟨by rw[List.length_set];exact hl,h3⟩,?_⟩
      have eq:(fun out=>(ρ.set i (.bo ds)=ρ.set i (.bo ds)∧Qd out ρ))=fun out=>Qd out ρ:=funext fun out=>propext ⟨And.right,fun z=>⟨rfl,z⟩⟩
      show dCompL tt te (ρ.set i (.bo ds)) (fun out=>(ρ.set i (.bo ds)=ρ.set i (.bo ds)∧Qd out ρ)) ds []
      rw[eq]
      exact ht
    · rintro p us ds' ρ2 H1 ⟨col2,r2,t2⟩ hp ⟨rfl,z⟩
      obtain⟨r3,z0⟩:=r.back (vs:=vs) hn es e1 ca n r2
      exact k p us ds' ρ H1 ⟨_,r3,t2.mv fun b o zz eb=>⟨z0 b zz,eb⟩⟩ hp z
  · exact ht.elim
end
end My
namespace L2
open PySem PySem.Spec PyProof.Rows
section
variable {κ:Type} [DecidableEq κ]
def valV (kvs:List (κ×V)) (k:κ):Option V:=(kvs.find? fun kv=>decide (kv.1=k)).map (·.2)
def putK (kvs:List (κ×V)) (k:κ) (v:V):List (κ×V):=
  if (kvs.any fun kv=>decide (kv.1=k))=true then kvs.map (fun kv=>if kv.1=k then (kv.1,v) else kv) else kvs++[(k,v)]
theorem valV_pos {p:κ×V} {r:List (κ×V)} {k:κ} (e:p.1=k):valV (p::r) k=some p.2:=by simp [valV,List.find?_cons,e]
theorem valV_neg {p:κ×V} {r:List (κ×V)} {k:κ} (e:¬ p.1=k):valV (p::r) k=valV r k:=by simp [valV,List.find?_cons,e]
theorem valV_any (k:κ):∀kvs:List (κ×V),(kvs.any fun kv=>decide (kv.1=k))=(valV kvs k).isSome
  | []=>rfl
  | p::r=>by
    rw[List.any_cons]
    by_cases e:p.1=k
    · simp only[valV_pos e,decide_eq_true e,Bool.true_or,Option.isSome_some]
    · rw[valV_neg e,decide_eq_false e,Bool.false_or];exact valV_any k r
theorem length_putK (kvs:List (κ×V)) (k:κ) (v:V):(putK kvs k v).length≤kvs.length + 1:=by
  unfold putK
  split
  · rw[List.length_map];omega
  · rw[List.length_append,List.length_cons,List.length_nil];omega
theorem RelO.isSome_eq {o:Option V} {u:Option Value} (r:RelO o u):o.isSome=u.isSome:=by
  cases o with
  | none=>cases u with
    | none=>rfl
    | some _=>exact (show False from r).elim
  | some _=>cases u with
    | none=>exact (show False from r).elim
    | some _=>rfl
theorem KV.val {kvs:List (κ×V)} {vs:List (κ×Value)} (r:KV kvs vs) (k:κ):RelO (valV kvs k) (valueAt vs k):=by
  unfold KV at r
  induction r with
  | nil=>exact True.intro
  | @cons p q ps qs h t ih=>
    obtain⟨h1,h2⟩:=h
    by_cases e:p.1=k
    · have e':q.1=k:=h1.symm.trans e
      have b:valueAt (q::qs) k=some q.2:=by simp [valueAt,List.find?_cons,e']
      rw[valV_pos e,b];exact h2
    · have e':¬ q.1=k:=fun z=>e (h1.trans z)
      have b:valueAt (q::qs) k=valueAt qs k:=by simp [valueAt,List.find?_cons,e']
      rw[valV_neg e,b];exact ih
theorem KV.any {kvs:List (κ×V)} {vs:List (κ×Value)} (r:KV kvs vs) (k:κ):(kvs.any fun kv=>decide (kv.1=k))=vs.any fun kv=>decide (kv.1=k):=by
  unfold KV at r
  induction r with
  | nil=>rfl
  | cons h t ih=>rw[List.any_cons,List.any_cons,ih,h.1]
theorem KV.repl {kvs:List (κ×V)} {vs:List (κ×Value)} (r:KV kvs vs) (k:κ) {y:V} {u:Value} (ry:RelV y u) :
    KV (kvs.map fun kv=>if kv.1=k then (kv.1,y) else kv) (vs.map fun kv=>if kv.1=k then (kv.1,u) else kv):=by
  unfold KV at r ⊢
  induction r with
  | nil=>exact .nil
  | @cons p q ps qs h t ih=>
    rw[List.map_cons,List.map_cons]
    refine .cons ?_ ih
    obtain⟨h1,h2⟩:=h
    by_cases e:p.1=k
    · rw[if_pos e,if_pos (h1.symm.trans e)];exact⟨h1,ry⟩
    · rw[if_neg e,if_neg (fun z=>e (h1.trans z))];exact⟨h1,h2⟩
theorem KV.put {kvs:List (κ×V)} {vs:List (κ×Value)} (r:KV kvs vs) (k:κ) {y:V} {u:Value} (ry:RelV y u):KV (putK kvs k y) (stored vs k u):=by
  unfold putK stored
  rw[r.any k]
  by_cases e:(vs.any fun kv=>decide (kv.1=k))=true
  · rw[if_pos e,if_pos e];exact r.repl k ry
  · rw[if_neg e,if_neg e];exact Paired.snoc r ⟨rfl,ry⟩
theorem KV.length {kvs:List (κ×V)} {vs:List (κ×Value)} (r:KV kvs vs):kvs.length=vs.length:=Paired.length r
end
theorem kV_is {P:Program} {w:World} {k:Key} {u:Value} (r:RelV (kV k) u):(mixKind P w).is k u=true:=by
  cases k with
  | inl i=>obtain⟨t,e⟩:=(show ∃t,u=Value.int i t from r);subst e;exact mixKind_int P w i t
  | inr x=>obtain⟨t,e⟩:=(show ∃t,u=Value.str x t from r);subst e;exact mixKind_str P w x t
theorem items_are {P:Program} {w:World}:∀{ks:List Key} {us:List Value},Vals (ks.map kV) us→ItemsAre (mixKind P w) ks us
  | [],_,r=>by rw[List.map_nil] at r;cases r;exact .nil
  | k::ks,_,r=>by
    rw[List.map_cons] at r
    cases r with
    | cons h t=>exact .cons (kV_is h) (items_are t)
abbrev KT (H:Hp):List (List Key×V)→List (List Key×Addr×Value)→Prop:=Paired fun p q=>p.1=q.1∧H q.2.1=some (.tup (p.1.map kV))∧RelV p.2 q.2.2
theorem KT.val {H:Hp} {kvs:List (List Key×V)} {xs:List (List Key×Addr×Value)} (r:KT H kvs xs) (k:List Key):RelO (valV kvs k) ((atKey xs k).map (·.2)):=by
  induction r with
  | nil=>exact True.intro
  | @cons p q ps qs h t ih=>
    obtain⟨h1,_,h2⟩:=h
    by_cases e:p.1=k
    · have e':q.1=k:=h1.symm.trans e
      have b:atKey (q::qs) k=some q.2:=by simp [atKey,List.find?_cons,e']
      rw[valV_pos e,b];exact h2
    · have e':¬ q.1=k:=fun z=>e (h1.trans z)
      have b:atKey (q::qs) k=atKey qs k:=by simp [atKey,List.find?_cons,e']
      rw[valV_neg e,b];exact ih
theorem KT.repl {H:Hp} {kvs:List (List Key×V)} {xs:List (List Key×Addr×Value)} (r:KT H kvs xs) (k:List Key) {y:V} {u:Value} (ry:RelV y u) :
    KT H (kvs.map fun kv=>if kv.1=k then (kv.1,y) else kv) (xs.map (putAt k u)):=by
  induction r with
  | nil=>exact .nil
  | @cons p q ps qs h t ih=>
    rw[List.map_cons,List.map_cons]
    refine .cons ?_ ih
    obtain⟨h1,h2,h3⟩:=h
    unfold putAt
    by_cases e:p.1=k
    · rw[if_pos e,if_pos (h1.symm.trans e)];exact⟨h1,h2,ry⟩
    · rw[if_neg e,if_neg (fun z=>e (h1.trans z))];exact⟨h1,h2,h3⟩
theorem KT.put {H:Hp} {kvs:List (List Key×V)} {xs:List (List Key×Addr×Value)} (r:KT H kvs xs) (k:List Key) {b:Addr} {y:V} {u:Value} (hb:H b=some (.tup (k.map kV))) (ry:RelV y u) :
    KT H (putK kvs k y) (storedH xs k b u):=by
  have e:(kvs.any fun kv=>decide (kv.1=k))=(atKey xs k).isSome:=by
    rw[valV_any,(r.val k).isSome_eq,Option.isSome_map]
  unfold putK storedH
  rw[e]
  by_cases q:(atKey xs k).isSome=true
  · rw[if_pos q,if_pos q];exact r.repl k ry
  · rw[if_neg q,if_neg q];exact Paired.snoc r ⟨rfl,hb,ry⟩
theorem KT.keeps {H H':Hp} {kvs:List (List Key×V)} {xs:List (List Key×Addr×Value)} (r:KT H kvs xs) (ht:∀b ys,H b=some (.tup ys)→H' b=some (.tup ys)):KT H' kvs xs:=
  Paired.mapP r fun _ _ z=>⟨z.1,ht _ _ z.2.1,z.2.2⟩
section
variable {P:Program} {w:World} {H:Hp} {h:Heap} {a:Addr}
theorem rd_of {u:HO} (ok:HOk P w H h) (e:Rd H a u):ObjOk P w H h a u:=e.ok ok
theorem dk_rd {kvs:List (Key×V)} (ok:HOk P w H h) (e:Rd H a (.dK kvs)):kvs.length≤sizeLine∧(a == sysModules)=false∧∃vs,KV kvs vs∧h.DictOf (mixKind P w) a vs:=
  show ObjOk P w H h a (.dK kvs) from rd_of ok e
theorem dk_of {kvs:List (Key×V)} (ok:HOk P w H h) (e:H a=some (.dK kvs)):kvs.length≤sizeLine∧(a == sysModules)=false∧∃vs,KV kvs vs∧h.DictOf (mixKind P w) a vs:=dk_rd ok (.inl e)
theorem key_of {ks:List Key} (ok:HOk P w H h) (e:H a=some (.tup (ks.map kV))):(tupleKind (mixKind P w)).is h ks a:=by
  obtain⟨_,its,r,o,h1,h2,n,h3⟩:=(show ObjOk P w H h a (.tup (ks.map kV)) from ok a _ e)
  exact⟨o,its.toArray,n,h1,h2,h3,by simpa using items_are r⟩
theorem dt_rd {kvs:List (List Key×V)} (ok:HOk P w H h) (e:Rd H a (.dT kvs)):kvs.length≤sizeLine∧(a == sysModules)=false∧
    ∃xs,KT H kvs xs∧h.DictOfH (tupleKind (mixKind P w)) a xs:=by
  obtain⟨z,y,xs,r,o,es,ep,h1,h2,h3,h4,h5⟩:=(show ObjOk P w H h a (.dT kvs) from rd_of ok e)
  refine⟨z,y,xs,r,o,es,ep,h1,h2,h3,h4,fun x hx=>?_,h5⟩
  have all:∀{l:List (List Key×V)} {m:List (List Key×Addr×Value)},KT H l m→∀x∈m,(tupleKind (mixKind P w)).is h x.1 x.2.1:=by
    intro l m q
    induction q with
    | nil=>intro x hx;exact nomatch hx
    | @cons p q ps qs hq t ih=>
      intro x hx
      rcases List.mem_cons.mp hx with e | hx
      · subst e
        exact key_of ok (by rw[←hq.1];exact hq.2.1)
      · exact ih x hx
  exact all r x hx
theorem dt_of {kvs:List (List Key×V)} (ok:HOk P w H h) (e:H a=some (.dT kvs)):kvs.length≤sizeLine∧(a == sysModules)=false∧
    ∃xs,KT H kvs xs∧h.DictOfH (tupleKind (mixKind P w)) a xs:=dt_rd ok (.inl e)
end
def DGet (H:Hp) (a:Addr) (y:V) (r:Option V):Prop:=
  (∃kvs k,Rd H a (.dK kvs)∧y=kV k∧r=valV kvs k)∨∃kvs k b,Rd H a (.dT kvs)∧y=.ref b∧H b=some (.tup (k.map kV))∧r=valV kvs k
def DPut (H:Hp) (a:Addr) (y v:V) (H':Hp):Prop:=
  (∃kvs k,H a=some (.dK kvs)∧y=kV k∧kvs.length < sizeLine∧H'=upd H a (.dK (putK kvs k v)))∨
  ∃kvs k b,H a=some (.dT kvs)∧y=.ref b∧H b=some (.tup (k.map kV))∧kvs.length < sizeLine∧H'=upd H a (.dT (putK kvs k v))
theorem DGet.t {H:Hp} {a b:Addr} {kvs:List (List Key×V)} {k:List Key} (e:H a=some (.dT kvs)) (eb:H b=some (.tup (k.map kV))):DGet H a (.ref b) (valV kvs k):=.inr ⟨kvs,k,b,.inl e,rfl,eb,rfl⟩
theorem DPut.t {H:Hp} {a b:Addr} {kvs:List (List Key×V)} {k:List Key} {v:V} (e:H a=some (.dT kvs)) (eb:H b=some (.tup (k.map kV))) (hl:kvs.length < sizeLine) :
    DPut H a (.ref b) v (upd H a (.dT (putK kvs k v))):=.inr ⟨kvs,k,b,e,rfl,eb,hl,rfl⟩
section
variable {X:Cx} {pins:List (Addr×Obj)} {σ:St} {H:Hp} {s:Shared} {a:Addr} {y v:V} {u r:Value} {o:Option V} {A:Around} {E:Value→Shared→Prop}
theorem Inv.big (I:Inv X pins σ H s):sysModules < s.heap.objs.size:=by
  have h:mainGlobals < s.heap.objs.size:=(I.mod.glob.keeps I.bk).lt
  exact Nat.lt_trans (by decide) h
theorem d_notIn {Q:Value→Shared→Prop} (hu:A.units + 1 < cLine) (I:Inv X pins σ H s) (g:DGet H a y o) (ry:RelV y u) (h:∀s',Inv X pins σ H s'→Q (.bool (!o.isSome)) s') :
    wpAny (model X.prog X.w) A (compareOp .NotIn u (.ref a)) Q E s:=by
  rcases g with ⟨kvs,k,e,ey,l⟩ | ⟨kvs,k,b,e,ey,eb,l⟩
  · subst ey
    obtain⟨z,hd,vs,rel,dd⟩:=dk_rd I.hok e
    refine wpAny_notIn_of (kV_is ry) hd dd.mapOf ?_
    rw[←(rel.val k).isSome_eq,←l]
    exact h _ (I.tok _)
  · subst ey
    cases (show u=Value.ref b from ry)
    obtain⟨z,hd,xs,rel,dd⟩:=dt_rd I.hok e
    refine wpAny_notIn_heap (tupleKind_room_in1 hu) (key_of I.hok eb) hd dd ?_
    have q:=(rel.val k).isSome_eq
    rw[Option.isSome_map] at q
    rw[←q,←l]
    exact h _ (I.tok _)
theorem d_write {h':Heap} {t':Nat} {ob:HO} (I:Inv X pins σ H s) (mu:Mut (H a)) (hs:Heap.SameBut a s.heap h') (he:∃q,h'.get? a=some q) (new:ObjOk X.prog X.w (upd H a ob) h' a ob) :
    Inv X pins σ (upd H a ob) { s with heap:=h',toks:=t' }:=
  I.write (x:=a) (e:=a) mu (.inl rfl) (fun b q hb z=>(hs.2 b hb).trans z) he new
theorem dk_new {P:Program} {w:World} {H':Hp} {h':Heap} {kvs:List (Key×V)} {vs:List (Key×Value)} (z:kvs.length≤sizeLine) (hd:(a == sysModules)=false) (rel:KV kvs vs) (dd:h'.DictOf (mixKind P w) a vs) :
    ObjOk P w H' h' a (.dK kvs):=⟨z,hd,vs,rel,dd⟩
theorem d_setItem {H':Hp} {Q:Unit→Shared→Prop} (hu:A.units + 1 < cLine) (I:Inv X pins σ H s) (g:DPut H a y v H') (ry:RelV y u) (rv:RelV v r) (h:∀s',Inv X pins σ H' s'→Q () s') :
    wpAny (model X.prog X.w) A (setItem (.ref a) u r) Q E s:=by
  rcases g with ⟨kvs,k,e,ey,l,eH⟩ | ⟨kvs,k,b,e,ey,eb,l,eH⟩
  · subst ey eH
    obtain⟨z,hd,vs,rel,dd⟩:=dk_of I.hok e
    have hz:vs.length≤sizeLine:=by rw[←rel.length];exact z
    have hl:(putK kvs k v).length≤sizeLine:=by have:=length_putK kvs k v;omega
    refine wpAny_setItem_pairs (hsz:=hz) (kV_is ry) dd fun h' dd' hs=>h _ ?_
    have he:∃q,h'.get? a=some q:=let ⟨q,_,_,hq,_⟩:=dd';⟨q,hq⟩
    exact d_write I (by rw[e];exact True.intro) hs he (dk_new hl hd (rel.put k rv) dd')
  · subst ey eH
    cases (show u=Value.ref b from ry)
    obtain⟨z,hd,xs,rel,dd⟩:=dt_of I.hok e
    have hz:xs.length≤sizeLine:=by rw[←Paired.length rel];exact z
    have hl:(putK kvs k v).length≤sizeLine:=by have:=length_putK kvs k v;omega
    refine wpAny_setItem_heap (hsz:=hz) (tupleKind_room_in1 hu) (key_of I.hok eb) dd fun h' dd' hs=>h _ ?_
    obtain⟨q,es,ep,hq,h2,h3,h4,_,h5⟩:=dd'
    refine d_write I (by rw[e];exact True.intro) hs ⟨q,hq⟩ ⟨hl,hd,_,(rel.put k eb rv).keeps fun c ys ec=>?_,q,es,ep,hq,h2,h3,h4,h5⟩
    rw[upd_ne (ne_of ec e (fun z=>nomatch z))]
    exact ec
end
section
variable {X:Cx} {pins:List (Addr×Obj)} {σ:St} {H:Hp} {s:Shared} {a:Addr} {kvs:List (Key×V)} {k:Key} {u:Value} {A:Around} {E:Value→Shared→Prop}
end
def tDNotIn (ty td:TE):TE:=fun σ H Q=>ty σ H fun y H1=>td σ H1 fun x H2=>∃a o,x=.ref a∧DGet H2 a y o∧Q (.bl (!o.isSome)) H2
def sDPut (td ty tv:TE):TS:=fun D σ H=>tv σ H fun v H1=>td σ H1 fun x H2=>ty σ H2 fun y H3=>∃a H4,x=.ref a∧DPut H3 a y v H4∧D.nx σ H4
section
variable {X:Cx} {o i e value:Expr} {pos pos' tpos:Pos} {td ty tv:TE}
theorem pc_dnotin (hu:X.A.units + 1 < cLine) (hi:PE X i ty) (ho:PE X o td):PC X .NotIn i o (tDNotIn ty td):=by
  intro pins s σ H Q I h
  refine thn (hi pins s σ H _ I h) fun iv s1 ⟨y,H1,I1,ry,q1⟩=>thn (ho pins s1 σ H1 _ I1 q1) fun u s2 ⟨x,H2,I2,rx,a,ov,ex,g,q2⟩=>?_
  subst ex
  obtain rfl:u=Value.ref a:=rx
  exact d_notIn hu I2 g ry fun s3 I3=>⟨.bl (!ov.isSome),H2,I3,rfl,q2⟩
theorem ps_dput (hu:X.A.units + 1 < cLine) (ho:PE X o td) (hi:PE X i ty) (hv:PE X value tv) (hs:swapsWith value (some (.Subscript o i pos')) pos.line X.env=pure false) :
    PS X (.Assign [.Subscript o i pos'] value pos) (sDPut td ty tv):=by
  intro pins s σ H D I h
  refine wpAny_Assign_Subscript (thn (hv pins s σ H _ I h) fun r s1 ⟨v,H1,I1,rv,q1⟩=>thn (ho pins s1 σ H1 _ I1 q1) fun u s2 ⟨x,H2,I2,rx,q2⟩=>thn (hi pins s2 σ H2 _ I2 q2) fun iv s3 ⟨y,H3,I3,ry,a,H4,ex,g,q3⟩=>?_) hs
  subst ex
  obtain rfl:u=Value.ref a:=rx
  exact d_setItem hu I3 g ry rv fun s4 I4=>⟨σ,H4,I4,q3⟩
end
theorem dt_empty {P:Program} {w:World} {H:Hp} (h:Heap) (hb:sysModules < h.objs.size):ObjOk P w H (h.push { cls:=.type "dict",data:=.dict #[] }) h.objs.size (.dT []):=
  ⟨Nat.zero_le _,beq_eq_false_iff_ne.mpr (Ne.symm (Nat.ne_of_lt hb)),[],.nil,_,#[],0,Heap.get?_push_size _ rfl,⟨rfl,rfl,rfl⟩,rfl,rfl,List.nodup_nil⟩
def tDNewT:TE:=fun _ H Q=>∀p,H p=none→Q (.ref p) (upd H p (.dT []))
section
variable {X:Cx} {pos:Pos}
theorem pe_dnewT:PE X (.Dict [] [] pos) tDNewT:=fun pins s σ H Q I h=>
  wpAny_Dict_empty ⟨.ref s.heap.objs.size,_,I.laid (a:=s.heap.objs.size) (o:=.dT []) (t':=s.toks) (fun _ _ q=>Heap.get?_push_of_some _ q) (Nat.le_refl _) (dt_empty s.heap I.big),rfl,h _ (I.hok.fresh (Nat.le_refl _))⟩
end
structure M2 (X:Cx) (o:Expr) (m:Str) (apos:Pos) (e f:Expr) (cpos:Pos):Prop where
  base:attributeBase o m X.env (eval o X.env)=eval o X.env
  few:((backTo cpos (starEach [e,f] X.env)).all (fun x=>!x.1)&&(backToKw cpos (keywordEach [] X.env)).all (fun x=>x.1.isSome)
    &&decide (([e,f]:List Expr).length + ([]:List Keyword).length + (if ([]:List Keyword).isEmpty then 0 else 1) < 30))=true
  line:(apos.endLine == cpos.line)=true
  trees:backTo cpos (starEach [e,f] X.env)=[(false,eval e X.env),(false,eval f X.env)]
section
variable {X:Cx} {pins:List (Addr×Obj)} {σ:St} {H:Hp} {s:Shared} {a:Addr} {y d:V} {u r:Value} {o:Option V} {A:Around} {E:Value→Shared→Prop}
end
section
variable {X:Cx} {o e f:Expr} {apos cpos:Pos} {td ty tx:TE}
end
section
variable {X:Cx} {pins:List (Addr×Obj)} {σ:St} {H:Hp} {s:Shared} {a:Addr} {kvs:List (Key×V)} {A:Around} {E:Value→Shared→Prop}
end
section
variable {X:Cx} {pins:List (Addr×Obj)} {σ:St} {H:Hp} {s:Shared} {a:Addr} {y:V} {u:Value} {A:Around} {E:Value→Shared→Prop}
end
section
variable {prog:Program} {w:World} {A:Around} {E:Value→Shared→Prop} {s:Shared}
theorem iter_raw {d:Addr} {o:Obj} {es:Array DictEntry} {ep:Nat} {Q:Value→Shared→Prop} (hd:(d == sysModules)=false) (ho:s.heap.get? d=some o) (hc:o.ExactDict) (hdat:o.data=.dict es ep)
    (hQ:Q (.ref s.heap.objs.size) { s with heap:=s.heap.push { cls:=.type "dict_keyiterator",data:=.fields #[.ref d,.int 0 0,.int es.size 0,.int ep 0] } }):wpAny (model prog w) A (pyIter (.ref d)) Q E s:=by
  have hT:s.TypeIs (.ref d) "dict" :=⟨o,ho,hc.1⟩
  refine wpAny_pyIter_slot hT F.slot_dict_iter (wpAny_call_entry F.slot_dict_iter hT F.entry_dict_iter ?_ (F.args_dict_iter_1 _))
  unfold Builtin.«dict.__iter__»
  refine wpAny_bind ?_
  unfold Builtin.Dict.dictSlotNone
  refine wpAny_bind (wpAny_notOrdered_dict hT ?_)
  show wpAny _ _ (pure (Value.ref d)) _ _ s
  refine wpAny_pure ?_
  show wpAny _ _ (Builtin.Dict.showsAll d >>= _) _ _ s
  unfold Builtin.Dict.showsAll
  rw[if_neg (by rw[hd];exact Bool.false_ne_true)]
  refine wpAny_bind (wpAny_pure ?_)
  refine wpAny_bind (wpAny_dictEntries ho hdat ?_)
  refine wpAny_bind (wpAny_dictEpoch ho hdat ?_)
  refine wpAny_bind (wpAny_newObj_type (wpAny_pure ⟨_,rfl, "dict_keyiterator",_,⟨_,Heap.get?_push_size _ rfl,rfl⟩,F.slot_dict_keyiterator_next.lookup,?_⟩))
  simpa [rawInt] using hQ
theorem next_raw {it d:Addr} {i ep:Nat} {od:Obj} {es:Array DictEntry} {Q:Option Value→Shared→Prop} (hit:s.heap.IsKeyIter it d i es.size ep) (hod:s.heap.get? d=some od) (hdd:od.data=.dict es ep) (hlt':i < es.size)
    (hQ:∀h',h'.IsKeyIter it d (i + 1) es.size ep→Heap.SameBut it s.heap h'→Q (some es[i].key) { s with heap:=h' }):wpAny (model prog w) A (pyNext (.ref it)) Q E s:=by
  obtain⟨o,ho,hc,hd⟩:=id hit
  unfold pyNext
  refine wpAny_bind (wpAny_attempt (wpAny_callSpecial?_slot (name:=Str.ofString "__next__") hit.typeIs F.slot_dict_keyiterator_next
    (wpAny_call_entry F.slot_dict_keyiterator_next hit.typeIs F.entry_dict_keyiterator_next ?_ (F.args_dict_keyiterator_next_1 _))))
  refine wpAny_bind (wpAny_pure ?_)
  refine wpAny_bind ?_
  refine wpAny_bind ?_
  first | refine wpAny_bind (wpAny_typeNameOfWhole_keyiter hit.typeIs (wpAny_pure ?_)) | refine wpAny_bind (wpAny_typeNameOf_keyiter hit.typeIs (wpAny_pure ?_))
  refine wpAny_bind (wpAny_fieldsOf ho hd ?_)
  have hown:Builtin.Dict_items.ownsTuple "dict_keyiterator" = false:=by decide
  simp only[hown,Bool.false_eq_true,if_false]
  show wpAny _ _ (if (Value.ref d == Value.none)=true then _ else _) _ _ s
  rw[if_neg (show ¬ ((Value.ref d == Value.none)=true) from Bool.false_ne_true)]
  refine wpAny_bind (wpAny_pure ?_)
  refine wpAny_bind (wpAny_dictEntries hod hdd ?_)
  rw[if_neg (by simp)]
  refine wpAny_bind (wpAny_pure ?_)
  refine wpAny_bind (wpAny_dictEpoch hod hdd ?_)
  rw[if_neg (by simp)]
  refine wpAny_pure ?_
  simp only[show ¬ ((i:Int) < 0) from by omega,if_false,Int.toNat_natCast,Array.getElem?_eq_getElem hlt']
  refine wpAny_bind ?_
  first | refine wpAny_bind (wpAny_typeNameOfWhole_keyiter hit.typeIs (wpAny_pure ?_)) | refine wpAny_bind (wpAny_typeNameOf_keyiter hit.typeIs (wpAny_pure ?_))
  refine wpAny_bind (wpAny_isOneOf_keyiter hit.typeIs ?_)
  show wpAny _ _ (setField (.ref it) 1 (rawInt ((i:Int) + 1)) >>= _) _ _ s
  refine wpAny_bind (wpAny_setField ho hd (by simp) ?_)
  have hit':(s.heap.update it (Obj.mapFields (·.setIfInBounds 1 (rawInt ((i:Int) + 1))))).IsKeyIter it d (i + 1) es.size ep:=
    ⟨_,Heap.get?_update_self _ ho (Obj.isFreed_of_fields (Obj.data_mapFields hd _)),(Obj.cls_mapFields ..).trans hc,by rw[Obj.data_mapFields hd];simp [rawInt]⟩
  refine wpAny_bind (wpAny_holding ?_)
  refine wpAny_bind (wpAny_isOneOf_keyiter (s:={ s with heap:=s.heap.update it (Obj.mapFields (·.setIfInBounds 1 (rawInt ((i:Int) + 1)))) }) hit'.typeIs ?_)
  show wpAny _ _ (pure es[i].key) _ _ _
  exact wpAny_pure (wpAny_pure ⟨_,rfl,wpAny_pure (hQ _ hit' (Heap.SameBut.update ..))⟩)
theorem end_raw {it d:Addr} {i ep:Nat} {od:Obj} {es:Array DictEntry} {Q:Option Value→Shared→Prop} (hh:A.handled=none) (hit:s.heap.IsKeyIter it d i es.size ep) (hod:s.heap.get? d=some od) (hdd:od.data=.dict es ep) (hge:es.size≤i)
    (hQ:∀h',Heap.ExtBut it s.heap h'→Q none { s with heap:=h' }):wpAny (model prog w) A (pyNext (.ref it)) Q E s:=by
  obtain⟨o,ho,hc,hd⟩:=id hit
  unfold pyNext
  refine wpAny_bind (wpAny_attempt (wpAny_callSpecial?_slot (name:=Str.ofString "__next__") hit.typeIs F.slot_dict_keyiterator_next
    (wpAny_call_entry F.slot_dict_keyiterator_next hit.typeIs F.entry_dict_keyiterator_next ?_ (F.args_dict_keyiterator_next_1 _))))
  refine wpAny_bind (wpAny_pure ?_)
  refine wpAny_bind ?_
  refine wpAny_bind ?_
  first | refine wpAny_bind (wpAny_typeNameOfWhole_keyiter hit.typeIs (wpAny_pure ?_)) | refine wpAny_bind (wpAny_typeNameOf_keyiter hit.typeIs (wpAny_pure ?_))
  refine wpAny_bind (wpAny_fieldsOf ho hd ?_)
  have hown:Builtin.Dict_items.ownsTuple "dict_keyiterator" = false:=by decide
  simp only[hown,Bool.false_eq_true,if_false]
  show wpAny _ _ (if (Value.ref d == Value.none)=true then _ else _) _ _ s
  rw[if_neg (show ¬ ((Value.ref d == Value.none)=true) from Bool.false_ne_true)]
  refine wpAny_bind (wpAny_pure ?_)
  refine wpAny_bind (wpAny_dictEntries hod hdd ?_)
  rw[if_neg (by simp)]
  refine wpAny_bind (wpAny_pure ?_)
  refine wpAny_bind (wpAny_dictEpoch hod hdd ?_)
  rw[if_neg (by simp)]
  refine wpAny_pure ?_
  simp only[show ¬ ((i:Int) < 0) from by omega,if_false,Int.toNat_natCast,Array.getElem?_eq_none hge]
  refine wpAny_bind ?_
  first | refine wpAny_bind (wpAny_typeNameOfWhole_keyiter hit.typeIs (wpAny_pure ?_)) | refine wpAny_bind (wpAny_typeNameOf_keyiter hit.typeIs (wpAny_pure ?_))
  show wpAny _ _ (setField (.ref it) 0 .none >>= _) _ _ s
  refine wpAny_bind (wpAny_setField ho hd (by simp) ?_)
  show wpAny _ _ (newExc (.type "StopIteration") [] >>= _) _ _ _
  refine wpAny_bind ?_
  simp only[newExc,newTuple]
  refine wpAny_bind (wpAny_newObj_type ?_ (by size_fits))
  refine wpAny_bind (m:=firstArgMember _ _) (wpAny_of_eq (a:=Value.none) (by first | rfl | (simp only[firstArgMember];rfl)) ?_)
  refine wpAny_newObj_type ?_ (by size_fits)
  simp only[raiseNew]
  refine wpAny_bind (wpAny_handled ?_)
  rw[show A.in1.handled=none from hh]
  refine wpAny_bind (wpAny_pure (wpAny_throw ?_))
  refine wpAny_bind (wpAny_isInstance (T:= "StopIteration") (b:=true) ⟨_,Heap.get?_push_size _ rfl,rfl⟩ isSubtype_stop ?_)
  exact wpAny_pure (hQ _ (((Heap.SameBut.update ..).extBut.push _).push _))
end
def ItdT (a:Addr) (o:Obj) (kvs:List (List Key×V)):It:=
  ⟨fun i H=>H a=some (.frz o (.dT kvs))∧i < kvs.length,fun i H x H'=>H'=H∧∃k v b,kvs[i]?=some (k,v)∧x=.ref b∧H b=some (.tup (k.map kV)),fun i H=>H a=some (.frz o (.dT kvs))∧kvs.length≤i⟩
def DIt (o:Obj) (a it:Addr) (i:Nat) (h:Heap):Prop:=∃es ep,o.data=.dict es ep∧h.IsKeyIter it a i es.size ep
theorem Paired.getP {α β:Type} {F:α→β→Prop} {l₁:List α} {l₂:List β} (h:Paired F l₁ l₂):∀{i:Nat} {x:α},l₁[i]?=some x→∃y,l₂[i]?=some y∧F x y:=by
  induction h with
  | nil=>intro i x e;cases e
  | @cons a b as bs f t ih=>
    intro i x e
    cases i with
    | zero=>cases e;exact⟨b,rfl,f⟩
    | succ i=>exact ih e
theorem turn_dictT {P:Program} {w:World} {K:PySem.W.Frag} {tg:Expr} (a it:Addr) (o:Obj) (kvs:List (List Key×V)):Turn P w K tg (ItdT a o kvs) [it] it (DIt o a it) where
  mem:=by simp
  obj:=fun i h st b hb=>by
    have e:b=it:=by simpa using hb
    subst e
    obtain⟨_,_,_,o,e,c,d⟩:=st
    exact⟨o,e,fun v z=>by rw[d] at z;cases z⟩
  keep:=fun i h h' st k=>by
    obtain⟨es,ep,e0,o,e,c,d⟩:=st
    exact⟨es,ep,e0,o,k it (by simp) o e,c,d⟩
  item:=by
    intro X hP hw hK hc i pins s σ H E I hf st hg
    subst hP hw hK
    obtain⟨hq,hx⟩:=hg
    obtain⟨es,ep,hdd,st⟩:=st
    obtain⟨hod,_,_,xs,rel,o',es',ep',ho',hex,hdd',hes,_⟩:=(show ObjOk X.prog X.w H s.heap a (.frz o (.dT kvs)) from I.hok a _ hq)
    rw[hod] at ho'
    cases ho'
    rw[hdd] at hdd'
    cases hdd'
    obtain⟨f0,f1,f2,f3,f4,f5⟩:=hf it (by simp)
    have hl:es.size=kvs.length:=by rw[Paired.length rel,←List.length_map (f:=entryOfKey (tupleKind (mixKind X.prog X.w))),←hes,Array.length_toList]
    have hi:i < es.size:=by omega
    obtain⟨q,eq,e1,e2,e3⟩:=Paired.getP rel (List.getElem?_eq_getElem hx)
    have hk:es[i].key=.ref q.2.1:=by
      have:es.toList[i]?=some es[i]:=by simp [hi]
      rw[hes,List.getElem?_map,eq] at this
      have:=Option.some.inj this
      rw[←this];rfl
    refine next_raw st hod hdd hi fun h' st' sb=>?_
    have I1:Inv X pins σ H { s with heap:=h' }:=I.turned (t':=s.toks) (fun b o hb e=>(sb.2 b hb).trans e) f0 f1 f3 f4 f5
    obtain⟨oi,e,c,d⟩:=id st'
    refine⟨_,rfl,go_of (s:={ s with heap:=h' }) e c d (by decide) ⟨.ref q.2.1,H,I1,hk,⟨rfl,kvs[i].1,kvs[i].2,q.2.1,List.getElem?_eq_getElem hx,rfl,e2⟩,⟨es,ep,hdd,st'⟩,fun b hb=>(hf b hb).1⟩⟩
  done:=by
    intro X hP hw hK hc i pins s σ H E I hf st hg
    subst hP hw hK
    obtain⟨hq,hx⟩:=hg
    obtain⟨es,ep,hdd,st⟩:=st
    obtain⟨hod,_,_,xs,rel,o',es',ep',ho',hex,hdd',hes,_⟩:=(show ObjOk X.prog X.w H s.heap a (.frz o (.dT kvs)) from I.hok a _ hq)
    rw[hod] at ho'
    cases ho'
    rw[hdd] at hdd'
    cases hdd'
    obtain⟨f0,f1,f2,f3,f4,f5⟩:=hf it (by simp)
    have hl:es.size=kvs.length:=by rw[Paired.length rel,←List.length_map (f:=entryOfKey (tupleKind (mixKind X.prog X.w))),←hes,Array.length_toList]
    exact end_raw (I.ok.hd hc) st hod hdd (by omega) fun h' eb=>⟨rfl,I.turned (t':=s.toks) (fun b o hb e=>eb b o hb e) f0 f1 f3 f4 f5⟩
  self:=fun _ i s _ _ st h=>by
    obtain⟨es,ep,_,st⟩:=st
    exact wpAny_pyIter_keyiter st h
def iDictT (td:TE):TI:=fun σ H R=>td σ H fun x H1=>∃a kvs,x=.ref a∧((H1 a=some (.dT kvs)∧∀o,R (ItdT a o kvs) (upd H1 a (.frz o (.dT kvs))))∨∃o,H1 a=some (.frz o (.dT kvs))∧R (ItdT a o kvs) H1)
theorem pi_dictT {X:Cx} {tg l:Expr} {td:TE} (hl:PE X l td):PI X tg l (iDictT td):=by
  intro pins s σ H R I h
  refine thn (hl pins s σ H _ I h) fun v s1 ⟨x,H1,I1,r1,a,kvs,e,q⟩=>?_
  subst e
  cases r1
  have fin:∀(o:Obj) (H2:Hp),Inv X pins σ H2 s1→H2 a=some (.frz o (.dT kvs))→R (ItdT a o kvs) H2→wpAny (model X.prog X.w) X.A (pyIter (.ref a)) (PIE X pins σ tg R) X.xe s1:=fun o H2 I2 e2 q2=>by
    obtain⟨hod,_,hd,xs,rel,o',es,ep,ho',hex,hdd,hes,_⟩:=(show ObjOk X.prog X.w H2 s1.heap a (.frz o (.dT kvs)) from I2.hok a _ e2)
    rw[hod] at ho'
    cases ho'
    refine iter_raw hd hod hex hdd ?_
    refine⟨s1.heap.objs.size,[s1.heap.objs.size],_,_,H2,rfl,I2.kept (t':=s1.toks) fun b o e=>Heap.get?_push_of_some _ e,turn_dictT a _ o kvs,⟨es,ep,hdd,_,Heap.get?_push_size _ rfl,rfl,rfl⟩,fun b hb=>?_,q2⟩
    have e:b=s1.heap.objs.size:=by simpa using hb
    subst e
    exact I2.fpOk (Nat.le_refl _) (I2.hok.fresh (Nat.le_refl _))
  rcases q with ⟨e1,q⟩ | ⟨o,e1,q⟩
  · obtain⟨z,hd,xs,rel,o,es,ep,ho,r⟩:=(show ObjOk X.prog X.w H1 s1.heap a (.dT kvs) from I1.hok a _ e1)
    refine fin o _ ?_ upd_same (q o)
    exact I1.write (t':=s1.toks) (x:=a) (e:=a) (by rw[e1];exact True.intro) (.inl rfl) (fun _ _ _ z=>z) ⟨o,ho⟩ ⟨ho,z,hd,xs,KT.keeps rel fun c ys ec=>(by rw[upd_ne (ne_of ec e1 (fun z=>nomatch z))];exact ec),o,es,ep,ho,r⟩
  · exact fin o H1 I1 e1 q
end L2
namespace My
open PySem L2
theorem u1 {n:Nat} (h:n + 64 < cLine):n + 1 < cLine:=by omega
def keyD:PyData→Option (List Int)
  | .tuple xs=>intsD xs
  | _=>none
def putL (ks:List (List Int)) (k:List Int):List (List Int):=if ks.contains k=true then ks else ks++[k]
theorem inl_inj {a b:List Int} (h:a.map (Sum.inl:Int→Key)=b.map Sum.inl):a=b:=List.map_inj_right (fun _ _ e=>Sum.inl.inj e) |>.mp h
theorem kv_inl (k:List Int):(k.map (Sum.inl:Int→Key)).map kV=k.map V.int:=by rw[List.map_map];rfl
theorem any_en (k:List Int):∀ks:List (List Int),((dEn ks).any fun kv=>decide (kv.1=k.map Sum.inl))=ks.contains k
  | []=>rfl
  | x::ks=>by
    have ih:=any_en k ks
    show (decide (x.map Sum.inl=k.map Sum.inl)||(dEn ks).any fun kv=>decide (kv.1=k.map Sum.inl))=_
    rw[ih,List.contains_cons]
    congr 1
    by_cases e:x=k
    · subst e;simp
    · rw[decide_eq_false (fun z=>e (inl_inj z)),show (k == x)=false from beq_eq_false_iff_ne.mpr (fun z=>e z.symm)]
theorem rep_en (k:List Int):∀ks:List (List Int),(dEn ks).map (fun kv=>if kv.1=k.map Sum.inl then (kv.1,V.bl true) else kv)=dEn ks
  | []=>rfl
  | x::ks=>by
    show (if x.map Sum.inl=k.map Sum.inl then (x.map Sum.inl,V.bl true) else (x.map Sum.inl,V.bl true))::(dEn ks).map (fun kv=>if kv.1=k.map Sum.inl then (kv.1,V.bl true) else kv)=(x.map Sum.inl,V.bl true)::dEn ks
    rw[rep_en k ks,ite_self]
theorem put_en (ks:List (List Int)) (k:List Int):putK (dEn ks) (k.map Sum.inl) (.bl true)=dEn (putL ks k):=by
  unfold putK putL
  rw[any_en,rep_en]
  by_cases h:ks.contains k=true
  · rw[if_pos h,if_pos h]
  · rw[if_neg h,if_neg h]
    unfold dEn
    rw[List.map_append];rfl
theorem val_en (ks:List (List Int)) (k:List Int):(valV (dEn ks) (k.map Sum.inl)).isSome=ks.contains k:=by rw[←valV_any,any_en]
theorem len_en (ks:List (List Int)):(dEn ks).length=ks.length:=List.length_map _
theorem key_th {F:Addr→Prop} {H:Hp} {v:V} {d:PyData} {k:List Int} (t:ThV F H v d) (h:keyD d=some k):∃b,v=.ref b∧H b=some (.tup ((k.map (Sum.inl:Int→Key)).map kV)):=by
  cases d with
  | tuple xs=>
    obtain⟨b,vs,rfl,_,e,t⟩:=th_tup t
    have z:=ints_of t h
    subst z
    exact⟨b,rfl,by rw[kv_inl];exact e⟩
  | _=>cases h
theorem int_ths {F:Addr→Prop} {H:Hp}:∀k:List Int,ThVs F H (k.map V.int) (k.map PyData.int)
  | []=>.nil
  | i::k=>.cons (.int i) (int_ths k)
section
variable {C:DC} {col:Addr→Nat} {ρ:List Sl} {σ:St} {P:List Pe} {H H':Hp} {p:Addr}
theorem RelC.ownX {i:Nat} {o:HO} {s:Sl} (r:RelC C col ρ σ P H) (hp:H p=none) (k:Kq C.hand H H') (q:Hq C.hand H') (ep:H' p=some o)
    (new:i < ρ.length→∀col':Addr→Nat,col' p=2 * i + 3→(∀b,b≠p→col' b=col b)→C.H0 p=none→SlR C col' H' i (some (.ref p)) s) :
    ∃col':Addr→Nat,RelC C col' (ρ.set i s) (σ.set i (some (.ref p))) P H'∧col' p=2 * i + 3∧∀b,b≠p→col' b=col b:=by
  let col':Addr→Nat:=fun b=>if b=p then 2 * i + 3 else col b
  have ca:col' p=2 * i + 3:=if_pos rfl
  have cn:∀b,b≠p→col' b=col b:=fun b hb=>if_neg hb
  have ni:∀b o,H b=some o→b≠p:=fun b o e z=>by rw[z,hp] at e;cases e
  have up:∀b o,col b≠1→H b=some o→H' b=some o:=fun b o h e=>k b o e (r.notH h)
  have r1:=r.mv k q
  have h0:C.H0 p=none:=r.kq.fr r.hq hp
  refine⟨col',RelC.chg r i _ (by rw[List.length_set];exact r.len) (fun b hb=>?_) (fun b hb=>?_) (fun x hx=>?_) (fun b o c e=>⟨?_,up b o (by lia) e⟩) (fun b o c n e=>⟨?_,k b o e n⟩) (fun _ _ _ _ b o c e=>⟨?_,up b o (by lia) e⟩) (fun b o j hj c e=>⟨?_,up b o (by lia) e⟩) (r.kq.trans k) q (fun j hj=>by rw[List.getElem?_set_ne (Ne.symm hj)]) fun hl=>?_,ca,cn⟩
  · have z:b≠p:=fun z=>by rw[z,ep] at hb;cases hb
    rw[cn b z];exact r1.fresh b hb
  · have z:b≠p:=fun z=>by rw[z,ca] at hb;cases hb
    rw[cn b z] at hb;exact r.inF b hb
  · obtain⟨o',e'⟩:=(r.hq x hx).at1
    rw[cn _ (ni _ _ e')];exact r.hnd x hx
  · rw[cn b (ni b o e)];exact c
  · rw[cn b (ni b o e)];exact c
  · rw[cn b (ni b o e)];exact c
  · rw[cn b (ni b o e)];exact c
  · have:(σ.set i (some (V.ref p)))[i]?.join=some (.ref p):=by rw[List.getElem?_set,if_pos rfl,if_pos (by rw[←r.len];exact hl)];rfl
    rw[this]
    exact new hl col' ca cn h0
theorem RelC.ownO {i:Nat} {o:HO} {s:Sl} (r:RelC C col ρ σ P H) (hp:H p=none) (k:Kq C.hand H H') (q:Hq C.hand H') (ep:H' p=some o)
    (new:∀col':Addr→Nat,col' p=2 * i + 3→(∀b,b≠p→col' b=col b)→C.H0 p=none→SlR C col' H' i (some (.ref p)) s):Rel C (ρ.set i s) (σ.set i (some (.ref p))) P H':=by
  obtain⟨col',r',_⟩:=r.ownX hp k q ep fun _=>new
  exact⟨col',r'⟩
theorem RelC.writeD {i:Nat} {a:Addr} {ks es:List (List Int)} (r:RelC C col ρ σ P H) (e:ρ[i]?=some (.di false ks)) (ea:(σ[i]?).join=some (.ref a)):RelC C col (ρ.set i (.di false es)) σ P (upd H a (.dT (dEn es))):=by
  obtain⟨a',e1,c,n,e2⟩:=r.sl i _ e
  rw[e1] at ea
  cases ea
  have ne:∀x,col x≠2 * i + 3→x≠a:=fun x hx q=>hx (q▸c)
  have up:∀x o,col x≠2 * i + 3→H x=some o→upd H a (.dT (dEn es)) x=some o:=fun x o h e=>by rw[upd_ne (ne x h)];exact e
  refine RelC.chg r i _ r.len (fun x hx=>?_) r.inF r.hnd (fun x o c e=>⟨c,up x o (by lia) e⟩) (fun x o c _ e=>⟨c,up x o (by lia) e⟩) (fun _ _ _ _ x o c e=>⟨c,up x o (by lia) e⟩) (fun x o j hj c e=>⟨c,up x o (by lia) e⟩) (fun x o e q=>?_) (fun q hq=>?_) (fun _ _=>rfl) fun _=>?_
  · by_cases q:x=a
    · rw[q,upd_same] at hx;cases hx
    · rw[upd_ne q] at hx;exact r.fresh x hx
  · have z:=r.kq x o e q
    have q':x≠a:=fun q'=>by rw[q',n] at e;cases e
    rw[upd_ne q'];exact z
  · obtain⟨ns,p,b,c',u,v,hl,hp,ha⟩:=r.hq q hq
    have e1:q.1≠a:=fun z=>by rw[z,show H a=_ from e2] at ha;cases ha
    have e3:q.2≠a:=fun z=>by rw[z,show H a=_ from e2] at hl;cases hl
    exact⟨ns,p,b,c',u,v,by rw[upd_ne e3];exact hl,hp,by rw[upd_ne e1];exact ha⟩
  · exact⟨a,e1,c,n,upd_same⟩
theorem RelC.key {b:Addr} {k:List Int} (r:RelC C col ρ σ P H) (e:H b=some (.tup ((k.map (Sum.inl:Int→Key)).map kV))):Rel C ρ σ (.v (.ref b) (keyT k)::P) H:=by
  obtain⟨col',r',tp⟩:=r.norm
  rw[kv_inl] at e
  exact⟨col',r'.push (.tup (tp b _ e) e (int_ths k))⟩
theorem it_dict {a:Addr} {o:Obj} {ks:List (List Int)} {P:List Pe}:ItOk C (ItdT a o (dEn ks)) (ks.map keyT) (.n a (.frz o (.dT (dEn ks)))::P) where
  go:=fun {i ρ σ P' H} s R hi=>by
    obtain⟨col,r⟩:=R
    have h1:=r.pd _ (s _ List.mem_cons_self)
    exact⟨h1.2.2,by rw[len_en];rw[List.length_map] at hi;exact hi⟩
  yld:=fun {i ρ σ P' H H' x d} s R hi y=>by
    obtain⟨e,k,v,b,ek,rfl,eb⟩:=y
    subst e
    obtain⟨col,r⟩:=R
    unfold dEn at ek
    rw[List.getElem?_map] at ek hi
    cases q:ks[i]? with
    | none=>rw[q] at hi;cases hi
    | some k'=>
      rw[q] at ek hi
      cases hi
      cases ek
      exact r.key eb
  stop:=fun {ρ σ P' H} s R=>by
    obtain⟨col,r⟩:=R
    have h1:=r.pd _ (s _ List.mem_cons_self)
    exact⟨h1.2.2,by rw[len_en,List.length_map];exact Nat.le_refl _⟩
theorem RelC.walked {o:Obj} {kvs:List (List Key×V)} (r:RelC C col ρ σ P H) (hp:H p=none) (k:Kq C.hand H H') (q:Hq C.hand H') (ep:H' p=some (.dT kvs)):RelC C col ρ σ (.n p (.frz o (.dT kvs))::P) (upd H' p (.frz o (.dT kvs))):=by
  let G:Hp:=fun b=>if b=p then none else H' b
  have gn:∀b,b≠p→G b=H' b:=fun b hb=>if_neg hb
  have gp:G p=none:=if_pos rfl
  have ni:∀b o,H b=some o→b≠p:=fun b o e z=>by rw[z,hp] at e;cases e
  have e:upd H' p (.frz o (.dT kvs))=upd G p (.frz o (.dT kvs)):=by
    funext b
    by_cases z:b=p
    · rw[z,upd_same,upd_same]
    · rw[upd_ne z,upd_ne z,gn b z]
  have qG:Hq C.hand G:=fun z hz=>by
    obtain⟨ns,p',b,c',u,v,hl,hp',ha⟩:=q z hz
    exact⟨ns,p',b,c',u,v,by rw[gn _ (fun z=>by rw[z,ep] at hl;cases hl)];exact hl,hp',by rw[gn _ (fun z=>by rw[z,ep] at ha;cases ha)];exact ha⟩
  have r1:=(r.mv (H':=G) (fun b o e n=>by rw[gn b (ni b o e)];exact k b o e n) qG).lay (o:=.frz o (.dT kvs)) gp
  rw[e]
  have c0:=r.fresh p hp
  exact r1.add (x:=.n p (.frz o (.dT kvs))) ⟨by lia,r.notH (by lia),upd_same⟩
end
def NewR (F:Addr→Prop) (H H':Hp) (v:V):Sl→Prop
  | .ow ds=>∃a vs,v=.ref a∧H a=none∧H' a=some (.lst vs)∧ThVs (fun b=>F b∧b≠a) H' vs ds
  | .di false ks=>∃a,v=.ref a∧H a=none∧H' a=some (.dT (dEn ks))
  | _=>False
abbrev DSpN:=List PyData→(Sl→Prop)→Prop
def spDN (ms:List Md) (sp:DSpN):Sp:=fun vs H Q _=>∃F hand ds Qd,((∀b,H b=none→F b)∧∀b xs,H b=some (.tup xs)→F b)∧(∀q,hand=some q→¬ F q.1)∧Hq hand H∧ArgsR F hand H ms vs ds∧sp ds Qd∧
  ∀s v H',Qd s→NewR F H H' v s→Kq hand H H'→Hq hand H'→Q v H'
open PySem.Spec PyProof.Rows
section
variable {P:Program} {w:World} {K:PySem.W.Frag} {mg:Str→Option Value} {base:Heap}
def roN (Q:Sl→Prop):Sl→Prop
  | .ow ds=>Q (.ow ds)
  | .di false ks=>Q (.di false ks)
  | _=>False
open Classical in
theorem fn_dN {x qual:Str} {st:Stmt} {f:Addr} {fd:FuncData} {N ps:List Str} {k:Nat} {sp:DSpN} {ms:List Md} (F:Fun K x qual st f fd) (S:FnScope N ps (defScope st)) (hm:ms.length=ps.length)
    (hb:∀(C:DC) (cdv:Value) (A:Around) (outer:List Env) (s:Shared) (H:Hp) (E:XK),Room k (A.deeper (envOfC qual (defScope st) s.heap.objs.size f cdv))→
      ∃t,PSs (cxOf CX0 P w K mg base N qual (defScope st) f cdv A outer s H E).nox (defBody st) (sOf C t)∧∀ds Q,ds.length=ms.length→sp ds Q→t { nx:=fun _=>False,rt:=fun _=>False,ro:=roN Q } (startN N ms ds)) :
    FnOk P w K mg base CX0 (k + 1) f fd ps (spDN ms sp):=by
  refine F.ok S (fun vs H Q E h=>?_) (fun cdv A outer s H vs Q E hr h=>?_)
  · obtain⟨_,_,_,_,_,_,_,a,_⟩:=h
    rw[a.len.1,hm]
  · obtain⟨G,hand,ds,Qd,h1,h2,h3,a,h4,h5⟩:=h
    obtain⟨t,ht,q⟩:=hb ⟨G,hand,H⟩ cdv A outer s H E hr
    have hN:ps.length≤N.length:=by have:=congrArg List.length S.pre;rw[List.length_take] at this;lia
    let col:Addr→Nat:=fun b=>if G b then 0 else 1
    have c0:∀b,G b→col b=0:=fun b hb=>if_pos hb
    have c1:∀b,¬ G b→col b=1:=fun b hb=>if_neg hb
    have lo:∀b,col b≤1:=fun b=>by
      by_cases z:G b
      · rw[c0 b z];lia
      · rw[c1 b z];lia
    refine⟨_,ht,startD N.length ms ds,[],⟨fun _=>False,fun _=>False,fun _=>False,fun _=>False,roN Qd⟩,⟨col,fun b hb=>c0 b (h1.1 b hb),fun b hb=>?_,fun q hq=>c1 _ (h2 q hq),fun i s e=>start_sl (C:=⟨G,hand,H⟩) rfl rfl c0 lo a i s e i,fun p hp=>(nomatch hp),Kq.refl,h3,h3,h1,?_⟩,by rw[←startN_eq (by lia) a.len.2];exact q ds Qd a.len.2 h4,⟨fun _ _ _ _ h=>h.elim,fun _ _ _ _ _ _ h=>h.elim,fun _ _ _ _ h=>h.elim,fun _ _ _ _ h=>h.elim,fun v s ρ σ H' col' r nw h=>?_⟩⟩
    · by_cases z:G b
      · exact z
      · rw[c1 b z] at hb;cases hb
    · rw[start_len a (by lia)]
      unfold L2.start
      rw[List.length_append,List.length_map,List.length_replicate,a.len.1]
      lia
    · cases s with
      | ow es=>
        obtain⟨a,vs,rfl,n,c,e2,t⟩:=nw
        exact h5 _ _ _ h ⟨a,vs,rfl,n,e2,t.mv fun b o z e=>⟨⟨r.inF b z,fun q=>c (q▸z)⟩,e⟩⟩ r.kq r.hq
      | di f ks=>
        cases f with
        | true=>exact h.elim
        | false=>
          obtain⟨a,rfl,n,e2⟩:=nw
          exact h5 _ _ _ h ⟨a,rfl,n,e2⟩ r.kq r.hq
      | _=>exact h.elim
end
section
variable {X:Cx} {C:DC} {st:Stmt} {e a b:Expr} {te tk:DE} {u:DA} {pos:Pos}
def dDNew (i:Nat) (D:DEnds) (ρ:List Sl):Prop:=D.nx (ρ.set i (.di false []))
theorem ds_dnew {i:Nat} (hp:PS X st (tAsg tDNewT (gName i))):PS X st (sOf C (dDNew i)):=PS.wk hp fun D σ H z=>el3 z fun ρ P Dd R ht E=>R.elim fun col r=>fun p hp=>E.nx _ _ _ (r.ownO (s:=.di false []) hp (Kq.lay hp) (r.hq.lay hp) upd_same fun col' ca _ h0=>⟨p,rfl,ca,h0,upd_same⟩) ht
def dDPut (i:Nat) (tk:DE) (D:DEnds) (ρ:List Sl):Prop:=match ρ[i]? with
  | some (.di false _)=>tk ρ fun d ρ1=>match ρ1[i]?,keyD d with
    | some (.di false ks),some k=>ks.length < 100000∧D.nx (ρ1.set i (.di false (putL ks k)))
    | _,_=>False
  | _=>False
theorem ds_dput {i:Nat} (hp:PS X st (sDPut (tVar i) (eOf C tk) (tC (.bl true)))):PS X st (sOf C (dDPut i tk)):=PS.wk hp fun D σ H z=>el3 z fun ρ P Dd R ht E=>R.elim fun col r=>by
  unfold dDPut at ht
  split at ht
  · rename_i ks0 e0
    obtain⟨a,e1,c,n,e2⟩:=r.sl i _ e0
    refine⟨.ref a,join_some e1,ρ,P,_,⟨col,r⟩,ht,fun v d ρ1 H1 R1 q=>R1.elim fun col1 r1=>?_⟩
    split at q
    · rename_i ks k e3 e4
      obtain⟨a',e1',c',n',e2'⟩:=r1.sl i _ e3
      have e5:=e1'
      rw[e1] at e1'
      cases e1'
      obtain⟨b,rfl,eb⟩:=key_th (r1.pd (.v v d) List.mem_cons_self) e4
      have w:=(r1.writeD (es:=putL ks k) e3 e5).sub fun _ h=>List.mem_cons_of_mem _ h
      rw[←put_en] at w
      exact⟨a,_,rfl,DPut.t e2' eb (by rw[len_en,sizeLine_eq];lia),E.nx _ _ _ ⟨col1,w⟩ q.2⟩
    · exact q.elim
  · exact ht.elim
def dDIn (neg:Bool) (te:DE) (i:Nat) (ρ:List Sl) (Q:PyData→List Sl→Prop):Prop:=te ρ fun d ρ1=>match ρ1[i]?,keyD d with
  | some (.di false ks),some k=>Q (.bool (if neg then !(ks.contains k) else ks.contains k)) ρ1
  | _,_=>False
theorem dnin_rd {i:Nat} {σ:L2.St} {H:Hp} {Q:VK} (h:eOf C (dDIn true te i) σ H Q):tDNotIn (eOf C te) (tVar i) σ H Q:=el3 h fun ρ P Qd R ht k=>⟨ρ,P,_,R,ht,fun v d ρ1 H1 R1 q=>R1.elim fun col1 r1=>by
  split at q
  · rename_i ks k' e3 e4
    obtain⟨a,e1,c,n,e2⟩:=r1.sl i _ e3
    obtain⟨b,rfl,eb⟩:=key_th (r1.pd (.v v d) List.mem_cons_self) e4
    refine⟨.ref a,join_some e1,a,_,rfl,DGet.t e2 eb,?_⟩
    rw[val_en]
    exact k _ _ _ _ ⟨col1,(r1.sub fun _ h=>List.mem_cons_of_mem _ h).push (.bl _)⟩ q
  · exact q.elim⟩
theorem pdt_dnin {i:Nat} (hu:X.A.units + 1 < cLine) (ha:PE X a (eOf C te)) (hb:PE X b (tVar i)) (hm:behindInMarks .NotIn b=false):PT X (.Compare a [.NotIn] [b] pos) (cOf C (dT (dDIn true te i))):=PT.wk (pt_cmp (pc_dnotin hu ha hb) hm) fun _ _ _ h=>dnin_rd (dT_rd h)
def dOwnN (i:Nat) (ms:List Md) (sp:DSpN) (u:DA)  (D:DEnds) (ρ:List Sl):Prop:=u ρ fun as ρ'=>bnd (arsD ρ' ms as) fun ds=>sp ds fun s=>D.nx (ρ'.set i s)
theorem ds_ownN {i:Nat} {ms:List Md} {sp:DSpN} {E:XK} (h:PS X st (tAsg (tCall (spDN ms sp) [] E (aOf C u)) (gName i))):PS X st (sOf C (dOwnN i ms sp u)):=PS.wk h fun D σ H z=>el3 z fun ρ P Dd R ht E=>⟨ρ,P,_,R,ht,fun vs as ρ' P' H' R' s p q=>R'.elim fun col r=>by
  obtain⟨ds,hds,q⟩:=bnd_of q
  rw[List.append_nil]
  obtain⟨col,r,tp⟩:=r.norm
  refine⟨Z col,C.hand,ds,_,⟨r.fresh,tp⟩,fun q hq z=>?_,r.hq,ars_ok r p hds,q,fun sl v H2 q2 nw k2 h2=>?_⟩
  · have:=r.hnd q hq
    rw[show col q.1=0 from z] at this
    cases this
  · cases sl with
    | ow es=>
      obtain⟨a,ws,rfl,ha,e2,t⟩:=nw
      exact E.nx _ _ _ ((r.sub s).ownO (s:=.ow es) ha k2 h2 e2 fun col' ca cn h0=>⟨a,ws,rfl,ca,h0,e2,t.mv fun b o zb e=>⟨by show col' b=0;rw[cn b zb.2];exact zb.1,e⟩⟩) q2
    | di f ks=>
      cases f with
      | true=>exact nw.elim
      | false=>
        obtain⟨a,rfl,ha,e2⟩:=nw
        exact E.nx _ _ _ ((r.sub s).ownO (s:=.di false ks) ha k2 h2 e2 fun col' ca cn h0=>⟨a,rfl,ca,h0,e2⟩) q2
    | _=>exact nw.elim⟩
def dIdc (ms:List Md) (sp:DSpN) (u:DA)  (ρ:List Sl) (Q:List PyData→List Sl→Prop):Prop:=u ρ fun as ρ'=>bnd (arsD ρ' ms as) fun ds=>sp ds fun s=>match s with
  | .di false ks=>Q (ks.map keyT) ρ'
  | _=>False
def dPop0 (i:Nat) (ρ:List Sl) (Q:PyData→List Sl→Prop):Prop:=match ρ[i]? with
  | some (.ow ds)=>bnd (ds[ds.length - 1]?) fun d=>Q d (ρ.set i (.ow ds.dropLast))
  | _=>False
theorem ThVs.dropL {F:Addr→Prop} {H:Hp}:∀{vs:List V} {ds:List PyData},ThVs F H vs ds→ThVs F H vs.dropLast ds.dropLast
  | _,_,.nil=>.nil
  | _,_,.cons x .nil=>.nil
  | _,_,.cons x (.cons y t)=>.cons x (ThVs.dropL (.cons y t))
theorem pd_pop0 {i:Nat} {K:PySem.W.Frag} (h:PE X e (tBM0 K "list" rPop (tVar i))):PE X e (eOf C (dPop0 i)):=PE.wk h fun σ H Q z=>el3 z fun ρ P Qd R ht k=>R.elim fun col r=>by
  unfold dPop0 at ht
  split at ht
  · rename_i ds e0
    obtain⟨d,hd,q⟩:=bnd_of ht
    obtain⟨a,vs,e1,c,n,e2,t⟩:=r.sl i _ e0
    obtain⟨y,hy,ty⟩:=t.at hd
    refine⟨.ref a,join_some e1,.inl ⟨rfl,vs,SqL.of e2⟩,a,vs,y,rfl,rfl,e2,by rw[t.len];exact hy,k _ _ _ _ ⟨col,(r.push ty).write e0 e1 t.dropL⟩ q⟩
  · exact ht.elim
def dClear (i:Nat) (D:DEnds) (ρ:List Sl):Prop:=match ρ[i]? with
  | some (.ow _)=>D.nx (ρ.set i (.ow []))
  | _=>False
end
end My
namespace My
open PySem L2
mutual
def lstsD:PyData→List (List PyData)
  | .list ds=>ds::lstsL ds
  | .tuple ds=>lstsL ds
  | _=>[]
def lstsL:List PyData→List (List PyData)
  | []=>[]
  | d::ds=>lstsD d++lstsL ds
end
mutual
def szD:PyData→Nat
  | .list ds=>szL ds + 1
  | .tuple ds=>szL ds + 1
  | _=>1
def szL:List PyData→Nat
  | []=>0
  | d::ds=>szD d + szL ds
end
section
variable {X:Cx} {C:DC} {st:Stmt} {u:DA}
theorem ds_ownCF {i n j:Nat} {it:DF} {tt:DT} {te:DE} (hp:PS X st (fun D σ H=>tComp (iOf C it) n j (fun _=>cOf C tt) (fun _=>eOf C te) σ H fun v H1=>D.nx (σ.set i (some v)) H1)):PS X st (sOf C (dOwn i (dCompF n j it tt te))):=
  PS.wk hp fun _ _ _ ⟨ρ,P,_,R,ht,E⟩=>comp_rdS ⟨_,P,_,R.forget,ht,fun p vs ds ρ' H1 ⟨col,r,t⟩ hp q=>E.nx _ _ _ (r.own t hp) q⟩
variable {a b:Expr} {tb:DE} {pos:Pos}
theorem Red.dat {K:PySem.W.Frag} {col:Addr→Nat} {H:Hp} {v:V} {d:PyData} (h:Red col H v d):d.canLay0=true→DatV K H v d:=fun hc=>by
  cases h with
  | th t=>exact t.dat hc
  | ls e t=>exact .lst (SqL.of e) (t.dat (by rw[PyData.canLay0] at hc;exact hc))
def dEqV (neg:Bool) (i:Nat) (tb:DE)  (ρ:List Sl) (Q:PyData→List Sl→Prop):Prop:=bnd (slotD ρ i) fun _=>tb ρ fun b ρ1=>bnd (slotD ρ1 i) fun a=>gEq neg a b fun d=>Q d ρ1
theorem dEqV_rd {K:PySem.W.Frag} {neg:Bool} {i:Nat} {tb:DE} {σ:St} {H:Hp} {Q:VK} (h:eOf C (dEqV neg i tb) σ H Q):tOp (rEqD K neg) (tVar i) (eOf C tb) σ H Q:=by
  obtain⟨ρ,P,Qd,⟨col,r⟩,ht,k⟩:=h
  obtain⟨a0,h0,ht⟩:=bnd_of ht
  obtain⟨v,ev,t⟩:=r.slot h0
  refine⟨v,ev,ρ,P,_,⟨col,r⟩,ht,fun w b ρ1 H1 ⟨col1,r1⟩ h1=>?_⟩
  obtain⟨a,ha,g⟩:=bnd_of h1
  obtain⟨v',ev',t'⟩:=r1.slot ha
  rw[ev] at ev'
  cases ev'
  have tb:ThV (Z col1) H1 w b:=r1.pd _ List.mem_cons_self
  refine⟨a,b,t'.dat g.1,tb.dat g.2.1,g.1,g.2.1,g.2.2.1,k _ _ _ _ ⟨col1,(r1.push (ThV.bl (if neg then !PyData.eqv a b else PyData.eqv a b))).sub fun p hp=>?_⟩ g.2.2.2⟩
  rcases List.mem_cons.mp hp with z | z
  · rw[z];exact List.mem_cons_self
  · exact List.mem_cons_of_mem _ (List.mem_cons_of_mem _ z)
variable {a b:Expr} {tb:DE} {pos:Pos}
theorem pdt_cmpV {op:CmpOp} {K:PySem.W.Frag} {neg:Bool} {i:Nat} (ho:OpR X (compareOp op) (rEqD K neg)) (ha:PE X a (tVar i)) (hb:PE X b (eOf C tb)) (hm:behindInMarks op b=false):PT X (.Compare a [op] [b] pos) (cOf C (dT (dEqV neg i tb))):=
  PT.wk (pt_cmpR ho ha hb hm) fun σ H Q h=>dEqV_rd (dT_rd h)
end
end My
namespace L2
open PySem PySem.Spec PyProof.Rows
def tFrz (t:TE):TE:=fun σ H Q=>t σ H fun x H1=>∃a kvs,x=.ref a∧H1 a=some (.dT kvs)∧∀o,Q x (upd H1 a (.frz o (.dT kvs)))
theorem pe_frz {X:Cx} {e:Expr} {t:TE} (h:PE X e t):PE X e (tFrz t):=by
  intro pins s σ H Q I h'
  refine thn (h pins s σ H _ I h') fun v s1 ⟨x,H1,I1,r1,a,kvs,e,e1,q⟩=>?_
  obtain⟨z,hd,xs,rel,o,es,ep,ho,r⟩:=(show ObjOk X.prog X.w H1 s1.heap a (.dT kvs) from I1.hok a _ e1)
  refine⟨x,_,I1.write (t':=s1.toks) (x:=a) (e:=a) (o:=.frz o (.dT kvs)) (by rw[e1];exact True.intro) (.inl rfl) (fun _ _ _ z=>z) ⟨o,ho⟩ ⟨ho,z,hd,xs,KT.keeps rel fun c ys ec=>(by rw[upd_ne (ne_of ec e1 (fun z=>nomatch z))];exact ec),o,es,ep,ho,r⟩,r1,q o⟩
end L2
namespace My
open PySem L2
open PySem.Spec PyProof.Rows
def fdD (ks:List (List Int)):PyData:=.dict ((.none,.none)::ks.map fun k=>(keyT k,.bool true))
section
variable {C:DC} {col:Addr→Nat} {ρ:List Sl} {σ:L2.St} {P:List Pe} {H H':Hp} {p:Addr}
theorem RelC.frzN {o:Obj} {ks:List (List Int)} (r:RelC C col ρ σ P H) (hp:H p=none) (k:Kq C.hand H H') (q:Hq C.hand H') (ep:H' p=some (.dT (dEn ks))):RelC C col ρ σ (.v (.ref p) (fdD ks)::P) (upd H' p (.frz o (.dT (dEn ks)))):=by
  have c0:=r.fresh p hp
  have w:=r.walked (o:=o) hp k q ep
  refine (w.sub fun _ h=>List.mem_cons_of_mem _ h).push ?_
  exact .dic c0 upd_same (.f o ks)
end
section
variable {X:Cx} {C:DC} {st:Stmt} {e:Expr} {te:DE} {u:DA} {pos:Pos}
def dCallD (ms:List Md) (sp:DSpN) (u:DA)  (ρ:List Sl) (Q:PyData→List Sl→Prop):Prop:=u ρ fun as ρ'=>bnd (arsD ρ' ms as) fun ds=>sp ds fun s=>match s with
  | .di false ks=>Q (fdD ks) ρ'
  | _=>False
theorem pd_callD {ms:List Md} {sp:DSpN} {E:XK} (h:PE X e (tCall (spDN ms sp) [] E (aOf C u))):PE X e (eOf C (dCallD ms sp u)):=PE.wk (pe_frz h) fun σ H Q z=>el3 z fun ρ P Qd R ht kk=>⟨ρ,P,_,R,ht,fun vs as ρ' P' H' R' s p q=>R'.elim fun col r=>by
  obtain⟨ds,hds,q⟩:=bnd_of q
  rw[List.append_nil]
  obtain⟨col,r,tp⟩:=r.norm
  refine⟨Z col,C.hand,ds,_,⟨r.fresh,tp⟩,fun q hq z=>?_,r.hq,ars_ok r p hds,q,fun sl v H2 q2 nw k2 h2=>?_⟩
  · have:=r.hnd q hq
    rw[show col q.1=0 from z] at this
    cases this
  · split at q2
    · rename_i ks
      obtain⟨a,rfl,ha,e2⟩:=nw
      exact⟨a,_,rfl,e2,fun o=>kk _ _ _ _ ⟨col,(r.sub s).frzN ha k2 h2 e2⟩ q2⟩
    · exact q2.elim⟩
def dIdd (te:DE) (ρ:List Sl) (Q:List PyData→List Sl→Prop):Prop:=te ρ fun d ρ'=>∃ks,d=fdD ks∧Q (ks.map keyT) ρ'
theorem di_ddat {tg:Expr} (h:PE X e (eOf C te)):PI X tg e (iOf C (dIdd te)):=PI.wk (pi_dictT h) fun σ H R' z=>el3 z fun ρ P Qd R ht k=>⟨ρ,P,_,R,ht,fun v d ρ' H' R' q=>R'.elim fun col r=>by
  obtain⟨ks,rfl,q⟩:=q
  have t:ThV (Z col) H' v (fdD ks):=r.pd (.v v _) List.mem_cons_self
  unfold fdD at t
  generalize hk:((PyData.none,PyData.none)::ks.map fun k=>(keyT k,PyData.bool true))=kvs at t
  cases t with
  | @dic a w _ za e1 uu=>
    cases uu with
    | t=>cases hk
    | k i j=>cases hk
    | f o ks'=>
      have e:ks=ks':=by
        injection hk with _ hk
        refine (List.map_inj_right fun x y e=>?_).mp hk
        have e:=(Prod.mk.inj e).1
        unfold keyT at e
        injection e with e
        exact (List.map_inj_right fun _ _ e=>PyData.int.inj e).mp e
      subst e
      have c1:col a≤1:=by rw[show col a=0 from za];decide
      have nh:∀q,C.hand=some q→a≠q.1:=r.notH (by rw[show col a=0 from za];decide)
      exact⟨a,_,rfl,.inr ⟨o,e1,k _ _ (.n a (.frz o (.dT (dEn ks)))::P) _ _ ⟨col,(r.sub fun _ h=>List.mem_cons_of_mem _ h).add (x:=.n a (.frz o (.dT (dEn ks)))) ⟨c1,nh,e1⟩⟩ (fun _ h=>List.mem_cons_of_mem _ h) it_dict q⟩⟩⟩
def dDict0 (ρ:List Sl) (Q:PyData→List Sl→Prop):Prop:=Q (.dict []) ρ
def dAppB (i:Nat) (te:DE)  (D:DEnds) (ρ:List Sl):Prop:=match ρ[i]? with
  | some (.ow _)=>te ρ fun d ρ'=>match ρ'[i]? with
    | some (.ow ds)=>ds.length≤100000∧D.nx (ρ'.set i (.ow (ds++[d])))
    | _=>False
  | _=>False
theorem ds_appB {i:Nat} {K:PySem.W.Frag} (hp:PS X st (tDrop (tBM K "list" rAppend (tVar i) (tCons (eOf C te) tNil)))):PS X st (sOf C (dAppB i te)):=PS.wk hp fun D σ H zz36=>el3 zz36 fun ρ P Dd zz37 ht E=>zz37.elim fun col r=>by
  unfold dAppB at ht
  split at ht
  · rename_i ds0 e0
    obtain⟨a,vs,e1,c,n,e2,t⟩:=r.sl i _ e0
    refine⟨.ref a,join_some e1,.inl ⟨rfl,vs,SqL.of e2⟩,ρ,P,_,⟨col,r⟩,ht,fun v d ρ' H' zz38 q=>zz38.elim fun col' r'=>?_⟩
    split at q
    · rename_i ds e0'
      obtain⟨a',vs',e1',c',n',e2',t'⟩:=r'.sl i _ e0'
      rw[e1] at e1'
      cases e1'
      exact⟨a,vs',v,rfl,rfl,e2',by rw[t'.len,sizeLine_eq];have:=q.1;omega,E.nx _ _ _ ⟨col',((r'.write e0' e1 (t'.snoc (r'.pd _ List.mem_cons_self)))).sub fun _ h=>List.mem_cons_of_mem _ h⟩ q.2⟩
    · exact q.elim
  · exact ht.elim
end
end My
namespace My
open PySem L2
section
variable {X:Cx} {C:DC} {st:Stmt} {e:Expr} {ta:DE}
end
end My
namespace My
abbrev Ct:=List (List (Option Int))
abbrev Spt:=Nat×Nat
def ca (t:Ct) (s:Spt):Option Int:=gt (t.getD s.1 []) s.2
open PySem L2
end My
namespace L2
open PySem PySem.Spec PyProof.Rows
structure TB (a₀:Array Keyed) (st:SortSt):Prop where
  perm:(arrOf st).Perm a₀
  kind:kindOf st=oneType'
  ok:failedOf st=none
section
variable {a₀:Array Keyed} {st:SortSt}
theorem TB.base (h:TB a₀ st):SBase a₀ (setPending st #[]):=⟨h.perm,h.kind,h.ok,rfl⟩
theorem TB.size (h:TB a₀ st):(arrOf st).size=a₀.size:=h.perm.size_eq
theorem TB.put (h:TB a₀ st) {xs:Array Keyed} (hp:xs.Perm (arrOf st)):TB a₀ (setArr st xs):=⟨hp.trans h.perm,h.kind,h.ok⟩
theorem TB.pend (h:TB a₀ st) (p:Array (Nat×Nat×Nat)):TB a₀ (setPending st p):=⟨h.perm,h.kind,h.ok⟩
end
def Srt (xs:Array Keyed) (i j:Nat):Prop:=∀p q,i≤p→p≤q→q < j→K xs p≤K xs q
def Dsc (xs:Array Keyed) (i j:Nat):Prop:=∀p q,i≤p→p≤q→q < j→K xs q≤K xs p
theorem Srt.one (xs:Array Keyed) (i:Nat):Srt xs i (i + 1):=fun p q h1 h2 h3=>by
  have:p=q:=by lia
  subst this;exact Int.le_refl _
theorem Srt.snoc {xs:Array Keyed} {i j:Nat} (h:Srt xs i j) (hj:i < j→K xs (j - 1)≤K xs j):Srt xs i (j + 1):=fun p q h1 h2 h3=>by
  by_cases c:q < j
  · exact h p q h1 h2 c
  · have:q=j:=by lia
    subst this
    by_cases c:p=q
    · subst c;exact Int.le_refl _
    · exact Int.le_trans (h p (q - 1) h1 (by lia) (by lia)) (hj (by lia))
theorem Dsc.snoc {xs:Array Keyed} {i j:Nat} (h:Dsc xs i j) (hj:i < j→K xs j≤K xs (j - 1)):Dsc xs i (j + 1):=fun p q h1 h2 h3=>by
  by_cases c:q < j
  · exact h p q h1 h2 c
  · have:q=j:=by lia
    subst this
    by_cases c:p=q
    · subst c;exact Int.le_refl _
    · exact Int.le_trans (hj (by lia)) (h p (q - 1) h1 (by lia) (by lia))
theorem Dsc.congr {xs ys:Array Keyed} {i j:Nat} (h:Dsc xs i j) (e:∀k,K ys k=K xs k):Dsc ys i j:=fun p q h1 h2 h3=>by rw[e,e];exact h p q h1 h2 h3
theorem Srt.congr {xs ys:Array Keyed} {i j:Nat} (h:Srt xs i j) (e:∀k,i≤k→k < j→K ys k=K xs k):Srt ys i j:=fun p q h1 h2 h3=>by rw[e _ h1 (by lia),e _ (by lia) h3];exact h p q h1 h2 h3
structure Bel (a₀:Array Keyed) (lo:Nat) (st st':SortSt):Prop where
  tb:TB a₀ st'
  pe:pendingOf st'=pendingOf st
  eq:∀k,k < lo→K (arrOf st') k=K (arrOf st) k
theorem Bel.rfl {a₀:Array Keyed} {lo:Nat} {st:SortSt} (h:TB a₀ st):Bel a₀ lo st st:=⟨h,Eq.refl _,fun _ _=>Eq.refl _⟩
theorem Bel.tr {a₀:Array Keyed} {lo:Nat} {s1 s2 s3:SortSt} (h:Bel a₀ lo s1 s2) (h':Bel a₀ lo s2 s3):Bel a₀ lo s1 s3:=⟨h'.tb,h'.pe.trans h.pe,fun k hk=>(h'.eq k hk).trans (h.eq k hk)⟩
theorem Bel.mir {a₀:Array Keyed} {lo i j:Nat} {st:SortSt} (h:TB a₀ st) (hi:lo≤i) (hj:j≤a₀.size):Bel a₀ lo st (setArr st (mirror (arrOf st) i j ((j - i) / 2))):=⟨h.put (mirror_perm _ _ _ _),Eq.refl _,fun k hk=>by
  show K (mirror (arrOf st) i j ((j - i) / 2)) k=_
  rw[K_mirror (by rw[h.size];exact hj),if_neg (by lia)]⟩
def cUp (o n0 r:Nat):StateT SortSt Sem (Option Nat):=do
  let mut n:=n0
  reverseSlice' o (o + n)
  for _ in [n:r] do
    let some z ←ltAt' (o + n) (o + n - 1) | return none
    if z then break
    n:=n + 1
  return some n
def cDesc (o n0 r:Nat):StateT SortSt Sem (Option Nat):=do
  rule "list.sort.descending-run"
  let mut n:=n0 + 1
  let mut e:=0
  for _ in [n:r] do
    let some z ←ltAt' (o + n) (o + n - 1) | return none
    if z then
      if e > 0 then reverseSlice' (o + n - (e + 1)) (o + n)
      e:=0
    else
      let some y ←ltAt' (o + n - 1) (o + n) | return none
      if y then break
      e:=e + 1
    n:=n + 1
  if e > 0 then reverseSlice' (o + n - (e + 1)) (o + n)
  cUp o n r
section
variable {prog:Program} {w:World} {A:Around} {E:Value→Shared→Prop} {s:Shared} {a₀:Array Keyed} {lo:Nat}
theorem t_lt {st:SortSt} {i j:Nat} {Q:Option Bool→SortSt→Prop} (hB:TB a₀ st) (h0:IntKeys a₀) (hi:i < a₀.size) (hj:j < a₀.size)
    (h:Q (some (decide (K (arrOf st) i < K (arrOf st) j))) st):wpS (model prog w) A E s (ltAt' i j) Q st:=by
  obtain⟨t,p,e1⟩:=hB.base.at h0 hi
  obtain⟨u,q,e2⟩:=hB.base.at h0 hj
  exact wpS_ltAt hB.kind e1 e2 h
theorem t_up {st:SortSt} {n r:Nat} {Q:Option Nat→SortSt→Prop} (h0:IntKeys a₀) (hn:lo + r≤a₀.size) (h1:1≤n) (hnn:n≤r) (hB:TB a₀ st)
    (hs:Dsc (arrOf st) lo (lo + n)) (h:∀m st',Bel a₀ lo st st'→1≤m→m≤r→Srt (arrOf st') lo (lo + m)→Q (some m) st'):wpS (model prog w) A E s (cUp lo n r) Q st:=by
  unfold cUp
  have b1:Bel a₀ lo st (setArr st (mirror (arrOf st) lo (lo + n) ((lo + n - lo) / 2))):=Bel.mir hB (Nat.le_refl _) (by lia)
  refine wpS_bind (wpS_reverse ?_)
  obtain⟨st1,e1⟩:∃st1,st1=setArr st (mirror (arrOf st) lo (lo + n) ((lo + n - lo) / 2)):=⟨_,rfl⟩
  have s1:Srt (arrOf st1) lo (lo + n):=fun p q a b c=>by
    rw[e1]
    show K (mirror (arrOf st) lo (lo + n) ((lo + n - lo) / 2)) p≤K (mirror (arrOf st) lo (lo + n) ((lo + n - lo) / 2)) q
    rw[K_mirror (by rw[hB.size];lia),K_mirror (by rw[hB.size];lia),if_pos (by lia),if_pos (by lia)]
    exact hs _ _ (by lia) (by lia) (by lia)
  rw[←e1] at b1 ⊢
  clear e1
  refine wpS_bind (wpS_mono (wpS_forRange (I:=fun x c st'=>st'=st1∧c=(none,x)∧Srt (arrOf st1) lo (lo + x)) (Q:=fun c st'=>st'=st1∧∃m,c=(none,m)∧1≤m∧m≤r∧Srt (arrOf st1) lo (lo + m)) ?step ?fin ⟨rfl,rfl,s1⟩) ?post)
  case fin=>
    rintro c st' ⟨rfl,rfl,hs'⟩
    rw[show max n r=r by lia] at hs' ⊢
    exact⟨rfl,r,rfl,by lia,Nat.le_refl _,hs'⟩
  case step=>
    rintro x c st' hax hxn ⟨rfl,rfl,hs'⟩
    dsimp only
    refine wpS_bind (t_lt b1.tb h0 (by lia) (by lia) ?_)
    by_cases hl:K (arrOf st') (lo + x) < K (arrOf st') (lo + x - 1)
    · simp only[hl,decide_true,if_true]
      exact wpS_pure ⟨rfl,x,rfl,by lia,by lia,hs'⟩
    · simp only[hl,decide_false,Bool.false_eq_true,if_false]
      exact wpS_pure ⟨rfl,rfl,hs'.snoc fun _=>Int.not_lt.mp hl⟩
  case post=>
    rintro c st' ⟨rfl,m,rfl,m1,m2,hs'⟩
    exact wpS_pure (h m _ b1 m1 m2 hs')
theorem t_desc {st:SortSt} {n r:Nat} {Q:Option Nat→SortSt→Prop} (h0:IntKeys a₀) (hn:lo + r≤a₀.size) (hnn:n + 1≤r) (hB:TB a₀ st)
    (hs:Dsc (arrOf st) lo (lo + (n + 1))) (h:∀m st',Bel a₀ lo st st'→1≤m→m≤r→Srt (arrOf st') lo (lo + m)→Q (some m) st'):wpS (model prog w) A E s (cDesc lo n r) Q st:=by
  unfold cDesc
  refine wpS_bind (wpS_lift (wpAny_rule ⟨rfl,?_⟩))
  refine wpS_bind (wpS_mono (wpS_forRange (I:=fun x c st'=>∃e,c=(none,x,e)∧Bel a₀ lo st st'∧Dsc (arrOf st') lo (lo + x)∧e + 1≤x∧∀i,lo + x - (e + 1)≤i→i < lo + x→K (arrOf st') i=K (arrOf st') (lo + x - 1))
    (Q:=fun c st'=>∃m e,c=(none,m,e)∧Bel a₀ lo st st'∧n + 1≤m∧m≤r∧Dsc (arrOf st') lo (lo + m)∧e + 1≤m∧∀i,lo + m - (e + 1)≤i→i < lo + m→K (arrOf st') i=K (arrOf st') (lo + m - 1)) ?step ?fin ⟨0,rfl,Bel.rfl hB,hs,by lia,fun i a b=>by congr 1;lia⟩) ?post)
  case fin=>
    rintro c st' ⟨e,rfl,b,d,he,eq⟩
    rw[show max (n + 1) r=r by lia] at d he eq ⊢
    exact⟨r,e,rfl,b,hnn,Nat.le_refl _,d,he,eq⟩
  case step=>
    rintro x c st' hax hxn ⟨e,rfl,b,d,he,eq⟩
    dsimp only
    refine wpS_bind (t_lt b.tb h0 (by lia) (by lia) ?_)
    by_cases hl:K (arrOf st') (lo + x) < K (arrOf st') (lo + x - 1)
    · simp only[hl,decide_true,if_true]
      by_cases he0:e > 0
      · rw[if_pos he0]
        have sz:lo + x≤(arrOf st').size:=by rw[b.tb.size];lia
        have eqk:∀k,K (mirror (arrOf st') (lo + x - (e + 1)) (lo + x) ((lo + x - (lo + x - (e + 1))) / 2)) k=K (arrOf st') k:=K_mirror_equal sz eq
        refine wpS_bind (wpS_reverse (wpS_pure ⟨0,rfl,b.tr (Bel.mir b.tb (by lia) (by lia)),(d.snoc fun _=>Int.le_of_lt hl).congr eqk,by lia,fun i h1 h2=>by congr 1;lia⟩))
      · rw[if_neg he0]
        exact wpS_pure ⟨0,rfl,b,d.snoc fun _=>Int.le_of_lt hl,by lia,fun i h1 h2=>by congr 1;lia⟩
    · simp only[hl,decide_false,Bool.false_eq_true,if_false]
      refine wpS_bind (t_lt b.tb h0 (by lia) (by lia) ?_)
      by_cases hg:K (arrOf st') (lo + x - 1) < K (arrOf st') (lo + x)
      · simp only[hg,decide_true,if_true]
        exact wpS_pure ⟨x,e,rfl,b,hax,by lia,d,he,eq⟩
      · simp only[hg,decide_false,Bool.false_eq_true,if_false]
        have ex:K (arrOf st') (lo + x)=K (arrOf st') (lo + x - 1):=by lia
        refine wpS_pure ⟨e + 1,rfl,b,d.snoc fun _=>Int.le_of_eq ex,by lia,fun i h1 h2=>?_⟩
        rw[show lo + (x + 1) - 1=lo + x by lia]
        by_cases hix:i=lo + x
        · rw[hix]
        · rw[ex];exact eq i (by lia) (by lia)
  case post=>
    rintro c st' ⟨m,e,rfl,b,m1,m2,d,he,eq⟩
    dsimp only
    by_cases he0:e > 0
    · rw[if_pos he0]
      have sz:lo + m≤(arrOf st').size:=by rw[b.tb.size];lia
      have eqk:∀k,K (mirror (arrOf st') (lo + m - (e + 1)) (lo + m) ((lo + m - (lo + m - (e + 1))) / 2)) k=K (arrOf st') k:=K_mirror_equal sz eq
      have b':=b.tr (Bel.mir b.tb (lo:=lo) (i:=lo + m - (e + 1)) (j:=lo + m) (by lia) (by lia))
      exact wpS_bind (wpS_reverse (t_up h0 hn (by lia) m2 b'.tb (d.congr eqk) fun q st2 b2=>h q st2 (b'.tr b2)))
    · rw[if_neg he0]
      exact t_up h0 hn (by lia) m2 b.tb d fun q st2 b2=>h q st2 (b.tr b2)
theorem t_count {st:SortSt} {r:Nat} {Q:Option Nat→SortSt→Prop} (h0:IntKeys a₀) (hn:lo + r≤a₀.size) (h1:1≤r) (hB:TB a₀ st)
    (h:∀m st',Bel a₀ lo st st'→1≤m→m≤r→Srt (arrOf st') lo (lo + m)→Q (some m) st'):wpS (model prog w) A E s (countRun' lo r) Q st:=by
  rw[countRun'_eq]
  refine wpS_bind (wpS_mono (wpS_forRange (I:=fun x c st'=>st'=st∧c=(none,x)∧Srt (arrOf st) lo (lo + x)) (Q:=fun c st'=>st'=st∧∃m,c=(none,m)∧1≤m∧m≤r∧Srt (arrOf st) lo (lo + m)∧(m=r∨K (arrOf st) (lo + m) < K (arrOf st) (lo + m - 1))) ?step ?fin ⟨rfl,rfl,Srt.one _ _⟩) ?post)
  case fin=>
    rintro c st' ⟨rfl,rfl,hs'⟩
    rw[show max 1 r=r by lia] at hs' ⊢
    exact⟨rfl,r,rfl,by lia,Nat.le_refl _,hs',.inl rfl⟩
  case step=>
    rintro x c st' hax hxn ⟨rfl,rfl,hs'⟩
    dsimp only
    refine wpS_bind (t_lt hB h0 (by lia) (by lia) ?_)
    by_cases hl:K (arrOf st') (lo + x) < K (arrOf st') (lo + x - 1)
    · simp only[hl,decide_true,if_true]
      exact wpS_pure ⟨rfl,x,rfl,by lia,by lia,hs',.inr hl⟩
    · simp only[hl,decide_false,Bool.false_eq_true,if_false]
      exact wpS_pure ⟨rfl,rfl,hs'.snoc fun _=>Int.not_lt.mp hl⟩
  case post=>
    rintro c st' ⟨rfl,m,rfl,m1,m2,hs',hor⟩
    dsimp only
    by_cases hm:m=r
    · rw[if_pos (by simpa using hm)]
      exact wpS_pure (h m _ (Bel.rfl hB) m1 m2 hs')
    · rw[if_neg (by simpa using hm)]
      have hlt:=hor.resolve_left hm
      by_cases hg:m > 1
      · rw[if_pos hg]
        refine wpS_bind (t_lt hB h0 (by lia) (by lia) ?_)
        by_cases hr:K (arrOf st') lo < K (arrOf st') (lo + m - 1)
        · simp only[hr,decide_true,if_true]
          exact wpS_pure (h m _ (Bel.rfl hB) m1 m2 hs')
        · simp only[hr,decide_false,Bool.false_eq_true,if_false]
          have sz:lo + m≤(arrOf st').size:=by rw[hB.size];lia
          have all:∀k,lo≤k→k < lo + m→K (arrOf st') k=K (arrOf st') (lo + m - 1):=fun k a b=>by
            have a1:=hs' lo k (by lia) a b
            have a2:=hs' k (lo + m - 1) a (by lia) (by lia)
            lia
          have eqk:∀k,K (mirror (arrOf st') lo (lo + m) ((lo + m - lo) / 2)) k=K (arrOf st') k:=K_mirror_equal sz all
          have b':Bel a₀ lo st' _:=Bel.mir hB (i:=lo) (j:=lo + m) (Nat.le_refl _) (by lia)
          have dd:Dsc (arrOf st') lo (lo + m):=fun p q a b c=>by rw[all p a (by lia),all q (by lia) c];exact Int.le_refl _
          refine wpS_bind (wpS_reverse ?_)
          exact t_desc h0 hn (by lia) b'.tb ((dd.snoc fun _=>Int.le_of_lt hlt).congr eqk) fun q st2 b2=>h q st2 (b'.tr b2)
      · rw[if_neg hg]
        have:m=1:=by lia
        subst this
        exact t_desc h0 hn (by lia) hB ((show Dsc (arrOf st') lo (lo + 1) from fun p q a b c=>by
          have:p=q:=by lia
          subst this;exact Int.le_refl _).snoc fun _=>Int.le_of_lt hlt) h
theorem t_bin {st:SortSt} {n ok:Nat} {Q:Bool→SortSt→Prop} (h0:IntKeys a₀) (hn:lo + n≤a₀.size) (hok:ok≤n) (hB:TB a₀ st) (hs:Srt (arrOf st) lo (lo + ok))
    (h:∀st',Bel a₀ lo st st'→Srt (arrOf st') lo (lo + n)→Q true st'):wpS (model prog w) A E s (binarySort' lo n ok) Q st:=by
  rw[binarySort'_eq]
  refine wpS_bind (wpS_mono (wpS_forRange (I:=fun k c st'=>c=(none,())∧Bel a₀ lo st st'∧Srt (arrOf st') lo (lo + min k n))
    (Q:=fun c st'=>c=(none,())∧Bel a₀ lo st st'∧Srt (arrOf st') lo (lo + n)) ?step ?fin ?init) ?post)
  case post=>
    rintro c st' ⟨rfl,b,hs'⟩
    exact wpS_pure (h st' b hs')
  case init=>
    refine⟨rfl,Bel.rfl hB,fun p q a b c=>?_⟩
    by_cases h1:ok=0
    · have:p=q:=by lia
      subst this;exact Int.le_refl _
    · exact hs p q a b (by lia)
  case fin=>
    rintro c st' ⟨hc,b,hs'⟩
    refine⟨hc,b,?_⟩
    rwa [show min (max (max ok 1) n) n=n by lia] at hs'
  case step=>
    rintro k c st' hak hkn ⟨rfl,b,hs'⟩
    rw[show min k n=k by lia] at hs'
    refine wpS_bind (wpS_mono (wpS_forRange (I:=fun x c st2=>st2=st'∧∃l r,c=(none,l,r)∧l≤r∧r≤k∧r - l≤k - x∧
        (∀i,i < l→K (arrOf st') (lo + i)≤K (arrOf st') (lo + k))∧(∀i,r≤i→i < k→K (arrOf st') (lo + k) < K (arrOf st') (lo + i)))
      (Q:=fun c st2=>st2=st'∧∃l r,c=(none,l,r)∧l≤k∧
        (∀i,i < l→K (arrOf st') (lo + i)≤K (arrOf st') (lo + k))∧(∀i,l≤i→i < k→K (arrOf st') (lo + k) < K (arrOf st') (lo + i))) ?istep ?ifin ?iinit) ?ipost)
    case iinit=>exact⟨rfl,0,k,rfl,by lia,by lia,by lia,fun i hi=>by lia,fun i h1 h2=>by lia⟩
    case ifin=>
      rintro c st2 ⟨rfl,l,r,rfl,hlr,hrk,hm,hlo,hhi⟩
      have:l=r:=by lia
      subst this
      exact⟨rfl,l,l,rfl,hrk,hlo,hhi⟩
    case istep=>
      rintro x c st2 _ hxk ⟨rfl,l,r,rfl,hlr,hrk,hm,hlo,hhi⟩
      dsimp only
      by_cases hge:l ≥ r
      · rw[if_pos hge]
        have:l=r:=by lia
        subst this
        exact wpS_pure ⟨rfl,l,l,rfl,hrk,hlo,hhi⟩
      · rw[if_neg hge]
        refine wpS_bind (t_lt b.tb h0 (by lia) (by lia) ?_)
        by_cases hl:K (arrOf st2) (lo + k) < K (arrOf st2) (lo + (l + r) / 2)
        · simp only[hl,decide_true,if_true]
          refine wpS_pure ⟨rfl,l,(l + r) / 2,rfl,by lia,by lia,by lia,hlo,fun i h1 h2=>?_⟩
          exact Int.lt_of_lt_of_le hl (hs' _ _ (by lia) (by lia) (by lia))
        · simp only[hl,decide_false,Bool.false_eq_true,if_false]
          refine wpS_pure ⟨rfl,(l + r) / 2 + 1,r,rfl,by lia,by lia,by lia,fun i h1=>?_,hhi⟩
          exact Int.le_trans (hs' (lo + i) (lo + (l + r) / 2) (by lia) (by lia) (by lia)) (Int.not_lt.mp hl)
    case ipost=>
      rintro c st2 ⟨rfl,l,r,rfl,hlk,hlo,hhi⟩
      have kb:∀q,K (bubble (arrOf st2) (lo + k) (lo + k - (lo + l))) q=if q=lo + l then K (arrOf st2) (lo + k) else if lo + l < q∧q≤lo + k then K (arrOf st2) (q - 1) else K (arrOf st2) q:=fun q=>by
        rw[K_bubble (by rw[b.tb.size];lia) (by lia),show lo + k - (lo + k - (lo + l))=lo + l by lia]
      have hlo':∀i,lo≤i→i < lo + l→K (arrOf st2) i≤K (arrOf st2) (lo + k):=fun i h1 h2=>by
        have:=hlo (i - lo) (by lia)
        rwa [show lo + (i - lo)=i by lia] at this
      have hhi':∀i,lo + l≤i→i < lo + k→K (arrOf st2) (lo + k) < K (arrOf st2) i:=fun i h1 h2=>by
        have:=hhi (i - lo) (by lia) (by lia)
        rwa [show lo + (i - lo)=i by lia] at this
      show wpS _ _ _ _ (do moveDown' (lo + k) (lo + l);pure (ForInStep.yield (none,()))) _ _
      rw[moveDown'_eq]
      refine wpS_bind (wpS_modify (wpS_pure ⟨rfl,b.tr ⟨b.tb.put (bubble_perm _ _ _),rfl,fun q hq=>?_⟩,?_⟩))
      · show K (bubble (arrOf st2) (lo + k) (lo + k - (lo + l))) q=_
        rw[kb,if_neg (by lia),if_neg (by lia)]
      rw[show min (k + 1) n=k + 1 by lia]
      intro i j hi hij hj
      show K (bubble (arrOf st2) (lo + k) (lo + k - (lo + l))) i≤K (bubble (arrOf st2) (lo + k) (lo + k - (lo + l))) j
      rw[kb,kb]
      repeat' split
      all_goals first
        | (exfalso;lia)
        | exact Int.le_refl _
        | exact hlo' _ (by lia) (by lia)
        | exact Int.le_of_lt (hhi' _ (by lia) (by lia))
        | exact hs' _ _ (by lia) (by lia) (by lia)
def nm (p:Keyed):Int:=numOf p.1
def isI (p:Keyed):Prop:=∃n t,p.1=Value.int n t
theorem t_lt2 {x y:Keyed} {st:SortSt} {Q:Option Bool→SortSt→Prop} (hk:kindOf st=oneType') (hx:isI x) (hy:isI y) (h:Q (some (decide (nm x < nm y))) st):wpS (model prog w) A E s (lt' x y) Q st:=by
  obtain⟨n,t,ex⟩:=hx
  obtain⟨m,u,ey⟩:=hy
  rw[lt'_eq]
  refine wpS_bind (wpS_get ?_)
  rw[hk,keyLt'_oneType,ex,ey]
  refine wpS_bind (wpS_lift (wpAny_attempt (oneLt_int ⟨rfl,?_⟩)))
  unfold nm at h
  rw[ex,ey] at h
  exact wpS_pure h
def gal:Bool→Keyed→Array Keyed→Nat→Nat→Nat→StateT SortSt Sem (Option Nat):=sortPriv% PySem.Builtin.gallop
def byd (left:Bool) (key:Keyed) (arr:Array Keyed) (base i:Nat):StateT SortSt Sem (Option Bool):=do
  let x ←elem' arr (base + i)
  if left then lt' x key else return (←lt' key x).map (!·)
def gBin (bd:Nat→StateT SortSt Sem (Option Bool)) (l0 h0 n:Nat):StateT SortSt Sem (Option Nat):=do
  let mut lo:=l0
  let mut hi:=h0
  for _ in [0:n] do
    if lo ≥ hi then break
    let m:=lo + (hi - lo) / 2
    let some z ←bd m | return none
    if z then lo:=m + 1 else hi:=m
  return some hi
theorem gal_eq (left:Bool) (key:Keyed) (arr:Array Keyed) (base n hint:Nat):gal left key arr base n hint=(do
  let mut lastofs:=0
  let mut ofs:=1
  let mut lo:=0
  let mut hi:=0
  let some z ←byd left key arr base hint | return none
  if z then
    let mx:=n - hint
    for _ in [0:n] do
      if ofs ≥ mx then break
      let some y ←byd left key arr base (hint + ofs) | return none
      if !y then break
      lastofs:=ofs
      ofs:=2 * ofs + 1
    lo:=hint + lastofs + 1
    hi:=hint + min ofs mx
  else
    let mx:=hint + 1
    for _ in [0:n] do
      if ofs ≥ mx then break
      let some y ←byd left key arr base (hint - ofs) | return none
      if y then break
      lastofs:=ofs
      ofs:=2 * ofs + 1
    lo:=hint + 1 - min ofs mx
    hi:=hint - lastofs
  for _ in [0:n] do
    if lo ≥ hi then break
    let m:=lo + (hi - lo) / 2
    let some z ←byd left key arr base m | return none
    if z then lo:=m + 1 else hi:=m
  return some hi):=rfl
section
variable {bd:Nat→StateT SortSt Sem (Option Bool)} {B:Nat→Bool} {n:Nat} {st:SortSt}
theorem t_gbin {l h:Nat} {Q:Option Nat→SortSt→Prop} (hb:∀i (R:Option Bool→SortSt→Prop),i < n→R (some (B i)) st→wpS (model prog w) A E s (bd i) R st) (mono:∀i j,i≤j→j < n→B j=true→B i=true)
    (lh:l≤h) (hn:h≤n) (b1:∀i,i < l→B i=true) (b2:∀i,h≤i→i < n→B i=false) (q:∀k,k≤n→(∀i,i < k→B i=true)→(∀i,k≤i→i < n→B i=false)→Q (some k) st):wpS (model prog w) A E s (gBin bd l h n) Q st:=by
  unfold gBin
  refine wpS_bind (wpS_mono (wpS_forRange (I:=fun x c st'=>st'=st∧∃l h,c=(none,l,h)∧l≤h∧h≤n∧h - l≤n - x∧(∀i,i < l→B i=true)∧∀i,h≤i→i < n→B i=false)
    (Q:=fun c st'=>st'=st∧∃l h,c=(none,l,h)∧h≤n∧(∀i,i < h→B i=true)∧∀i,h≤i→i < n→B i=false) ?step ?fin ⟨rfl,l,h,rfl,lh,hn,by lia,b1,b2⟩) ?post)
  case post=>
    rintro c st' ⟨rfl,l,h,rfl,hn,b1,b2⟩
    exact wpS_pure (q h hn b1 b2)
  case fin=>
    rintro c st' ⟨rfl,l,h,rfl,lh,hn,hm,b1,b2⟩
    exact⟨rfl,l,h,rfl,hn,fun i hi=>b1 i (by lia),b2⟩
  case step=>
    rintro x c st' _ hx ⟨rfl,l,h,rfl,lh,hn,hm,b1,b2⟩
    dsimp only
    by_cases c:l ≥ h
    · rw[if_pos c]
      exact wpS_pure ⟨rfl,l,h,rfl,hn,fun i hi=>b1 i (by lia),b2⟩
    · rw[if_neg c]
      refine wpS_bind (hb _ _ (by lia) ?_)
      cases e:B (l + (h - l) / 2) with
      | true=>
        simp only[if_true]
        exact wpS_pure ⟨rfl,_,h,rfl,by lia,hn,by lia,fun i hi=>mono i _ (show i≤l + (h - l) / 2 by lia) (by lia) e,b2⟩
      | false=>
        simp only[Bool.false_eq_true,if_false]
        refine wpS_pure ⟨rfl,l,_,rfl,by lia,by lia,by lia,b1,fun i h1 h2=>?_⟩
        cases e':B i with
        | false=>rfl
        | true=>rw[mono _ i h1 h2 e'] at e;cases e
end
theorem t_gal {left:Bool} {key:Keyed} {arr:Array Keyed} {base n hint:Nat} {B:Nat→Bool} {st:SortSt} {Q:Option Nat→SortSt→Prop} (hh:hint < n) (hb:∀i (R:Option Bool→SortSt→Prop),i < n→R (some (B i)) st→wpS (model prog w) A E s (byd left key arr base i) R st) (mono:∀i j,i≤j→j < n→B j=true→B i=true)
    (q:∀k,k≤n→(∀i,i < k→B i=true)→(∀i,k≤i→i < n→B i=false)→Q (some k) st):wpS (model prog w) A E s (gal left key arr base n hint) Q st:=by
  have mono':∀i j,i≤j→j < n→B i=false→B j=false:=fun i j h1 h2 e=>by
    cases e':B j with
    | false=>rfl
    | true=>rw[mono i j h1 h2 e'] at e;cases e
  rw[gal_eq]
  refine wpS_bind (hb _ _ hh ?_)
  cases e:B hint with
  | true=>
    simp only[if_true]
    refine wpS_bind (wpS_mono (wpS_forRange (I:=fun x c st'=>st'=st∧∃a o,c=(none,a,o)∧a < o∧x + 1≤o∧hint + a < n∧B (hint + a)=true)
      (Q:=fun c st'=>st'=st∧∃a o,c=(none,a,o)∧a < o∧hint + a < n∧B (hint + a)=true∧(n - hint≤o∨B (hint + o)=false)) ?step ?fin ⟨rfl,0,1,rfl,by lia,by lia,hh,e⟩) ?post)
    case fin=>
      rintro c st' ⟨rfl,a,o,rfl,h1,h2,h3,h4⟩
      exact⟨rfl,a,o,rfl,h1,h3,h4,.inl (by lia)⟩
    case step=>
      rintro x c st' _ hx ⟨rfl,a,o,rfl,h1,h2,h3,h4⟩
      dsimp only
      by_cases c:o ≥ n - hint
      · rw[if_pos c]
        exact wpS_pure ⟨rfl,a,o,rfl,h1,h3,h4,.inl c⟩
      · rw[if_neg c]
        refine wpS_bind (hb _ _ (by lia) ?_)
        cases e2:B (hint + o) with
        | true=>
          simp only[Bool.not_true,Bool.false_eq_true,if_false]
          exact wpS_pure ⟨rfl,o,_,rfl,by lia,by lia,by lia,e2⟩
        | false=>
          simp only[Bool.not_false,if_true]
          exact wpS_pure ⟨rfl,a,o,rfl,h1,h3,h4,.inr e2⟩
    case post=>
      rintro c st' ⟨rfl,a,o,rfl,h1,h3,h4,h5⟩
      dsimp only
      refine t_gbin (bd:=byd left key arr base) hb mono (by lia) (by lia) (fun i hi=>mono i _ (show i≤hint + a by lia) h3 h4) (fun i g1 g2=>?_) q
      rcases h5 with h5 | h5
      · lia
      · by_cases c:n - hint≤o
        · lia
        · exact mono' (hint + o) i (by lia) g2 h5
  | false=>
    simp only[Bool.false_eq_true,if_false]
    refine wpS_bind (wpS_mono (wpS_forRange (I:=fun x c st'=>st'=st∧∃a o,c=(none,a,o)∧a < o∧x + 1≤o∧a≤hint∧B (hint - a)=false)
      (Q:=fun c st'=>st'=st∧∃a o,c=(none,a,o)∧a < o∧a≤hint∧B (hint - a)=false∧(hint + 1≤o∨B (hint - o)=true)) ?step ?fin ⟨rfl,0,1,rfl,by lia,by lia,by lia,e⟩) ?post)
    case fin=>
      rintro c st' ⟨rfl,a,o,rfl,h1,h2,h3,h4⟩
      exact⟨rfl,a,o,rfl,h1,h3,h4,.inl (by lia)⟩
    case step=>
      rintro x c st' _ hx ⟨rfl,a,o,rfl,h1,h2,h3,h4⟩
      dsimp only
      by_cases c:o ≥ hint + 1
      · rw[if_pos c]
        exact wpS_pure ⟨rfl,a,o,rfl,h1,h3,h4,.inl c⟩
      · rw[if_neg c]
        refine wpS_bind (hb _ _ (by lia) ?_)
        cases e2:B (hint - o) with
        | true=>
          simp only[if_true]
          exact wpS_pure ⟨rfl,a,o,rfl,h1,h3,h4,.inr e2⟩
        | false=>
          simp only[Bool.false_eq_true,if_false]
          exact wpS_pure ⟨rfl,o,_,rfl,by lia,by lia,by lia,e2⟩
    case post=>
      rintro c st' ⟨rfl,a,o,rfl,h1,h3,h4,h5⟩
      dsimp only
      refine t_gbin (bd:=byd left key arr base) hb mono (by lia) (by lia) (fun i hi=>?_) (fun i g1 g2=>mono' (hint - a) i g1 g2 h4) q
      rcases h5 with h5 | h5
      · lia
      · by_cases c:hint + 1≤o
        · lia
        · exact mono i (hint - o) (by lia) (by lia) h5
end
section
variable {prog:Program} {w:World} {A:Around} {E:Value→Shared→Prop} {s:Shared}
theorem K_at {xs:Array Keyed} {i:Nat} {p:Keyed} (e:xs[i]?=some p):K xs i=nm p:=by unfold K nm;rw[e]
theorem K_get {xs:Array Keyed} {i:Nat} (h:i < xs.size):∃p,xs[i]?=some p∧p∈xs.toList∧K xs i=nm p:=⟨xs[i],getElem?_pos xs i h,by simp,K_at (getElem?_pos xs i h)⟩
theorem t_elem {xs:Array Keyed} {i:Nat} {p:Keyed} {st:SortSt} {Q:Keyed→SortSt→Prop} (e:xs[i]?=some p) (h:Q p st):wpS (model prog w) A E s (elem' xs i) Q st:=by
  rw[elem'_eq,e]
  exact wpS_pure h
def bydB (left:Bool) (key:Keyed) (arr:Array Keyed) (base i:Nat):Bool:=if left then decide (K arr (base + i) < nm key) else !decide (nm key < K arr (base + i))
theorem t_byd {left:Bool} {key:Keyed} {arr:Array Keyed} {base i:Nat} {st:SortSt} {R:Option Bool→SortSt→Prop} (hk:kindOf st=oneType') (ik:isI key) (ia:∀p∈arr.toList,isI p) (hi:base + i < arr.size) (h:R (some (bydB left key arr base i)) st):wpS (model prog w) A E s (byd left key arr base i) R st:=by
  obtain⟨p,e,hp,ek⟩:=K_get hi
  unfold byd
  refine wpS_bind (t_elem e ?_)
  unfold bydB at h
  rw[ek] at h
  cases left with
  | true=>
    simp only[if_true] at h ⊢
    exact t_lt2 hk (ia _ hp) ik h
  | false=>
    simp only[Bool.false_eq_true,if_false] at h ⊢
    exact wpS_bind (t_lt2 hk ik (ia _ hp) (wpS_pure h))
theorem byd_mono {left:Bool} {key:Keyed} {arr:Array Keyed} {base n:Nat} (hs:Srt arr base (base + n)):∀i j,i≤j→j < n→bydB left key arr base j=true→bydB left key arr base i=true:=fun i j h1 h2 h3=>by
  have:=hs (base + i) (base + j) (by lia) (by lia) (by lia)
  unfold bydB at h3 ⊢
  cases left with
  | true=>
    simp only[if_true,decide_eq_true_eq] at h3 ⊢
    lia
  | false=>
    simp only[Bool.false_eq_true,if_false,Bool.not_eq_true',decide_eq_false_iff_not] at h3 ⊢
    lia
theorem t_galR {key:Keyed} {arr:Array Keyed} {base n hint:Nat} {st:SortSt} {Q:Option Nat→SortSt→Prop} (hk:kindOf st=oneType') (ik:isI key) (ia:∀p∈arr.toList,isI p) (hh:hint < n) (hn:base + n≤arr.size) (hs:Srt arr base (base + n))
    (q:∀k,k≤n→(∀i,i < k→K arr (base + i)≤nm key)→(∀i,k≤i→i < n→nm key < K arr (base + i))→Q (some k) st):wpS (model prog w) A E s (gal false key arr base n hint) Q st:=
  t_gal hh (fun i R hi=>t_byd hk ik ia (by lia)) (byd_mono hs) fun k h1 h2 h3=>q k h1 (fun i hi=>by
    have:=h2 i hi
    unfold bydB at this
    simp only[Bool.false_eq_true,if_false,Bool.not_eq_true',decide_eq_false_iff_not] at this
    lia) fun i a b=>by
    have:=h3 i a b
    unfold bydB at this
    simp only[Bool.false_eq_true,if_false,Bool.not_eq_false',decide_eq_true_eq] at this
    exact this
theorem t_galL {key:Keyed} {arr:Array Keyed} {base n hint:Nat} {st:SortSt} {Q:Option Nat→SortSt→Prop} (hk:kindOf st=oneType') (ik:isI key) (ia:∀p∈arr.toList,isI p) (hh:hint < n) (hn:base + n≤arr.size) (hs:Srt arr base (base + n))
    (q:∀k,k≤n→(∀i,i < k→K arr (base + i) < nm key)→(∀i,k≤i→i < n→nm key≤K arr (base + i))→Q (some k) st):wpS (model prog w) A E s (gal true key arr base n hint) Q st:=
  t_gal hh (fun i R hi=>t_byd hk ik ia (by lia)) (byd_mono hs) fun k h1 h2 h3=>q k h1 (fun i hi=>by
    have:=h2 i hi
    unfold bydB at this
    simp only[if_true,decide_eq_true_eq] at this
    exact this) fun i a b=>by
    have:=h3 i a b
    unfold bydB at this
    simp only[if_true,decide_eq_false_iff_not] at this
    lia
end
def LeP (p q:Keyed):Prop:=nm p≤nm q
structure Mg (x y o:Array Keyed) (i j:Nat):Prop where
  perm:o.toList.Perm (x.toList.take i++y.toList.take j)
  srt:o.toList.Pairwise LeP
  lx:i < x.size→∀p∈o.toList,nm p≤K x i
  ly:j < y.size→∀p∈o.toList,nm p≤K y j
def Fin2 (x y r:Array Keyed):Prop:=r.toList.Perm (x.toList++y.toList)∧r.toList.Pairwise LeP
theorem take_at {x:Array Keyed} {i:Nat} {p:Keyed} (e:x[i]?=some p):x.toList.take (i + 1)=x.toList.take i++[p]:=by
  rw[List.take_add_one,Array.getElem?_toList,e];rfl
section
variable {x y o:Array Keyed} {i j k:Nat} {p:Keyed}
theorem Mg.pushX (h:Mg x y o i j) (sx:Srt x 0 x.size) (hi:i < x.size) (e:x[i]?=some p) (le:j < y.size→nm p≤K y j):Mg x y (o.push p) (i + 1) j:=by
  have kx:=K_at e
  refine⟨?_,?_,fun hi' q hq=>?_,fun hj q hq=>?_⟩
  · rw[take_at e,Array.toList_push]
    refine (h.perm.append_right [p]).trans ?_
    rw[List.append_assoc,List.append_assoc]
    exact List.Perm.append_left _ List.perm_append_comm
  · rw[Array.toList_push,List.pairwise_append]
    exact⟨h.srt,List.pairwise_singleton _ _,fun a ha b hb=>by rw[List.mem_singleton.mp hb];show nm a≤nm p;rw[←kx];exact h.lx hi a ha⟩
  · have:=sx i (i + 1) (by lia) (by lia) hi'
    rw[Array.toList_push] at hq
    rcases List.mem_append.mp hq with z | z
    · exact Int.le_trans (h.lx hi q z) this
    · rw[List.mem_singleton.mp z,←kx];exact this
  · rw[Array.toList_push] at hq
    rcases List.mem_append.mp hq with z | z
    · exact h.ly hj q z
    · rw[List.mem_singleton.mp z];exact le hj
theorem Mg.pushY (h:Mg x y o i j) (sy:Srt y 0 y.size) (hj:j < y.size) (e:y[j]?=some p) (le:i < x.size→nm p≤K x i):Mg x y (o.push p) i (j + 1):=by
  have ky:=K_at e
  refine⟨?_,?_,fun hi q hq=>?_,fun hj' q hq=>?_⟩
  · rw[take_at e,Array.toList_push,←List.append_assoc]
    exact h.perm.append_right [p]
  · rw[Array.toList_push,List.pairwise_append]
    exact⟨h.srt,List.pairwise_singleton _ _,fun a ha b hb=>by rw[List.mem_singleton.mp hb];show nm a≤nm p;rw[←ky];exact h.ly hj a ha⟩
  · rw[Array.toList_push] at hq
    rcases List.mem_append.mp hq with z | z
    · exact h.lx hi q z
    · rw[List.mem_singleton.mp z];exact le hi
  · have:=sy j (j + 1) (by lia) (by lia) hj'
    rw[Array.toList_push] at hq
    rcases List.mem_append.mp hq with z | z
    · exact Int.le_trans (h.ly hj q z) this
    · rw[List.mem_singleton.mp z,←ky];exact this
theorem ext_toList (x:Array Keyed) (i k:Nat):(x.extract i (i + k)).toList=(x.toList.drop i).take k:=by
  rw[Array.toList_extract,List.extract_eq_take_drop,show i + k - i=k by lia]
theorem ext_all (x:Array Keyed) (i:Nat):(x.extract i x.size).toList=x.toList.drop i:=by
  rw[Array.toList_extract,List.extract_eq_take_drop,List.take_of_length_le (by simp)]
theorem ext_succ (o x:Array Keyed) (i k:Nat) (e:x[i + k]?=some p):o++x.extract i (i + (k + 1))=(o++x.extract i (i + k)).push p:=by
  apply Array.ext'
  rw[Array.toList_append,Array.toList_push,Array.toList_append,ext_toList,ext_toList,List.take_add_one,List.getElem?_drop,Array.getElem?_toList,e,List.append_assoc]
  rfl
theorem Mg.extX (h:Mg x y o i j) (sx:Srt x 0 x.size) (hj:j < y.size):∀k,i + k≤x.size→(∀q,q < k→K x (i + q)≤K y j)→Mg x y (o++x.extract i (i + k)) (i + k) j
  | 0,_,_=>by
    have:o++x.extract i (i + 0)=o:=by apply Array.ext';rw[Array.toList_append,ext_toList,List.take_zero,List.append_nil]
    rw[this];exact h
  | k + 1,hk,hl=>by
    obtain⟨p,e,_,kp⟩:=K_get (xs:=x) (i:=i + k) (by lia)
    rw[ext_succ o x i k e]
    exact (Mg.extX h sx hj k (by lia) fun q hq=>hl q (by lia)).pushX sx (by lia) e fun _=>by rw[←kp];exact hl k (by lia)
theorem Mg.extY (h:Mg x y o i j) (sy:Srt y 0 y.size) (hi:i < x.size):∀k,j + k≤y.size→(∀q,q < k→K y (j + q)≤K x i)→Mg x y (o++y.extract j (j + k)) i (j + k)
  | 0,_,_=>by
    have:o++y.extract j (j + 0)=o:=by apply Array.ext';rw[Array.toList_append,ext_toList,List.take_zero,List.append_nil]
    rw[this];exact h
  | k + 1,hk,hl=>by
    obtain⟨p,e,_,kp⟩:=K_get (xs:=y) (i:=j + k) (by lia)
    rw[ext_succ o y j k e]
    exact (Mg.extY h sy hi k (by lia) fun q hq=>hl q (by lia)).pushY sy (by lia) e fun _=>by rw[←kp];exact hl k (by lia)
theorem mem_K {x:Array Keyed} {p:Keyed} (h:p∈x.toList.drop i):∃q,i≤q∧q < x.size∧K x q=nm p:=by
  obtain⟨n,hn,e⟩:=List.mem_iff_getElem.mp h
  rw[List.getElem_drop] at e
  have hl:i + n < x.size:=by rw[List.length_drop] at hn;simp at hn;lia
  exact⟨i + n,by lia,hl,K_at (by rw[getElem?_pos x _ hl,←e];simp)⟩
theorem pw_of {x:Array Keyed} {a b:Nat} (sx:Srt x a b) (hb:b≤x.size):((x.toList.take b).drop a).Pairwise LeP:=by
  rw[List.pairwise_iff_getElem]
  intro p q hp hq hpq
  rw[List.getElem_drop,List.getElem_drop,List.getElem_take,List.getElem_take]
  rw[List.length_drop,List.length_take] at hp hq
  have:=sx (a + p) (a + q) (by lia) (by lia) (by lia)
  rw[K_eq (by lia),K_eq (by lia)] at this
  simpa [LeP,nm] using this
theorem Mg.end1 (h:Mg x y o i j) (sx:Srt x 0 x.size) (hj:j=y.size):Fin2 x y (o++x.extract i x.size++y.extract j y.size):=by
  subst hj
  have e:(o++x.extract i x.size++y.extract y.size y.size).toList=o.toList++x.toList.drop i:=by
    rw[Array.toList_append,Array.toList_append,ext_all,ext_all,show List.drop y.size y.toList=[] from List.drop_of_length_le (by simp),List.append_nil]
  unfold Fin2
  rw[e]
  refine⟨?_,?_⟩
  · refine (h.perm.append_right _).trans ?_
    rw[show List.take y.size y.toList=y.toList from List.take_of_length_le (by simp),List.append_assoc]
    refine (List.Perm.append_left _ List.perm_append_comm).trans ?_
    rw[←List.append_assoc,List.take_append_drop]
  · rw[List.pairwise_append]
    refine⟨h.srt,?_,fun p hp q hq=>?_⟩
    · have:=pw_of (a:=i) (b:=x.size) (fun p q a b c=>sx p q (by lia) b c) (Nat.le_refl _)
      rwa [List.take_of_length_le (by simp)] at this
    · obtain⟨n,h1,h2,h3⟩:=mem_K hq
      show nm p≤nm q
      rw[←h3]
      exact Int.le_trans (h.lx (by lia) p hp) (sx i n (by lia) h1 h2)
theorem Mg.end2 (h:Mg x y o i j) (sy:Srt y 0 y.size) (hi:i + 1=x.size) (big:∀n,n < y.size→K y n≤K x i):Fin2 x y (o++y.extract j y.size++x.extract i x.size):=by
  obtain⟨z,ez,_,kz⟩:=K_get (xs:=x) (i:=i) (by lia)
  have ex:x.toList.drop i=[z]:=by
    have:x.toList.drop i=x.toList[i]'(by simp;lia)::x.toList.drop (i + 1):=List.drop_eq_getElem_cons (by simp;lia)
    rw[this,List.drop_of_length_le (by simp;lia)]
    rw[getElem?_pos x i (by lia)] at ez
    rw[←Option.some.inj ez]
    simp
  have e:(o++y.extract j y.size++x.extract i x.size).toList=o.toList++y.toList.drop j++[z]:=by
    rw[Array.toList_append,Array.toList_append,ext_all,ext_all,ex]
  unfold Fin2
  rw[e]
  refine⟨?_,?_⟩
  · refine ((h.perm.append_right _).append_right _).trans ?_
    rw[List.append_assoc (List.take i x.toList),List.take_append_drop,List.append_assoc]
    refine (List.Perm.append_left _ List.perm_append_comm).trans ?_
    rw[←List.append_assoc,←ex,List.take_append_drop]
  · rw[List.pairwise_append,List.pairwise_append]
    refine⟨⟨h.srt,?_,fun p hp q hq=>?_⟩,List.pairwise_singleton _ _,fun p hp q hq=>?_⟩
    · have:=pw_of (a:=j) (b:=y.size) (fun p q a b c=>sy p q (by lia) b c) (Nat.le_refl _)
      rwa [List.take_of_length_le (by simp)] at this
    · obtain⟨n,h1,h2,h3⟩:=mem_K hq
      show nm p≤nm q
      rw[←h3]
      exact Int.le_trans (h.ly (by lia) p hp) (sy j n (by lia) h1 h2)
    · rw[List.mem_singleton.mp hq]
      show nm p≤nm z
      rw[←kz]
      rcases List.mem_append.mp hp with u | u
      · exact h.lx (by lia) p u
      · obtain⟨n,h1,h2,h3⟩:=mem_K u
        rw[←h3];exact big n h2
end
def mLo:Array Keyed→Array Keyed→StateT SortSt Sem (Array Keyed):=sortPriv% PySem.Builtin.mergeLo
def setG:Nat→StateT SortSt Sem Unit:=sortPriv% PySem.Builtin.setMinGallop
abbrev setGal (st:SortSt) (g:Nat):SortSt:=SortSt.mk' (kindOf st) (arrOf st) (pendingOf st) g (failedOf st)
theorem setG_eq (g:Nat):setG g=modify fun st=>setGal st g:=rfl
def e1 (x y o:Array Keyed) (i j:Nat):Array Keyed:=o++x.extract i x.size++y.extract j y.size
def e2 (x y o:Array Keyed) (i j:Nat):Array Keyed:=o++y.extract j y.size++x.extract i x.size
theorem mLo_eq (x y:Array Keyed):mLo x y=(do
  rule "list.sort.merge-lo"
  let t:=x.size + y.size
  let mut o:Array Keyed:=#[←elem' y 0]
  let mut i:=0
  let mut j:=1
  if j == y.size then return e1 x y o i j
  if i + 1 == x.size then return e2 x y o i j
  let mut g:=gallopOf (←get)
  for _ in [0:t] do
    let mut u:=0
    let mut v:=0
    for _ in [0:t] do
      let some z ←lt' (←elem' y j) (←elem' x i) | return e1 x y o i j
      if z then
        o:=o.push (←elem' y j);j:=j + 1;v:=v + 1;u:=0
        if j == y.size then return e1 x y o i j
        if v ≥ g then break
      else
        o:=o.push (←elem' x i);i:=i + 1;u:=u + 1;v:=0
        if i + 1 == x.size then return e2 x y o i j
        if u ≥ g then break
    rule "list.sort.gallop"
    g:=g + 1
    for _ in [0:t] do
      if g > 1 then g:=g - 1
      setG g
      let some k ←gal false (←elem' y j) x i (x.size - i) 0 | return e1 x y o i j
      u:=k
      if k > 0 then
        o:=o++x.extract i (i + k);i:=i + k
        if i + 1 == x.size then return e2 x y o i j
        if i == x.size then return e1 x y o i j
      o:=o.push (←elem' y j);j:=j + 1
      if j == y.size then return e1 x y o i j
      let some k ←gal true (←elem' x i) y j (y.size - j) 0 | return e1 x y o i j
      v:=k
      if k > 0 then
        o:=o++y.extract j (j + k);j:=j + k
        if j == y.size then return e1 x y o i j
      o:=o.push (←elem' x i);i:=i + 1
      if i + 1 == x.size then return e2 x y o i j
      if u < 7&&v < 7 then break
    g:=g + 1
    setG g
  unsupported "internal:list.sort.merge-bound"):=rfl
abbrev LoC:=Option (Array Keyed)×Array Keyed×Nat×Nat×Nat×Nat×Nat
def g3 (x y o:Array Keyed) (i j g u v:Nat):StateT SortSt Sem (ForInStep LoC):=do
  let z ←elem' x i
  if (i + 1 + 1 == x.size)=true then pure (.done (some (e2 x y (o.push z) (i + 1) j),o.push z,i + 1,j,g,u,v))
  else if (decide (u < 7)&&decide (v < 7))=true then pure (.done (none,o.push z,i + 1,j,g,u,v))
  else pure (.yield (none,o.push z,i + 1,j,g,u,v))
def g2 (x y o:Array Keyed) (i j g u v:Nat):StateT SortSt Sem (ForInStep LoC):=do
  let z ←elem' y j
  if (j + 1 == y.size)=true then pure (.done (some (e1 x y (o.push z) i (j + 1)),o.push z,i,j + 1,g,u,v))
  else do
    let p ←elem' x i
    let r ←gal true p y (j + 1) (y.size - (j + 1)) 0
    match r with
    | some k=>
      if k > 0 then
        if (j + 1 + k == y.size)=true then pure (.done (some (e1 x y (o.push z++y.extract (j + 1) (j + 1 + k)) i (j + 1 + k)),o.push z++y.extract (j + 1) (j + 1 + k),i,j + 1 + k,g,u,k))
        else g3 x y (o.push z++y.extract (j + 1) (j + 1 + k)) i (j + 1 + k) g u k
      else g3 x y (o.push z) i (j + 1) g u k
    | _=>pure (.done (some (e1 x y (o.push z) i (j + 1)),o.push z,i,j + 1,g,u,v))
structure Gs (st st':SortSt):Prop where
  k:kindOf st'=kindOf st
  a:arrOf st'=arrOf st
  p:pendingOf st'=pendingOf st
  f:failedOf st'=failedOf st
theorem Gs.rfl {st:SortSt}:Gs st st:=⟨Eq.refl _,Eq.refl _,Eq.refl _,Eq.refl _⟩
theorem Gs.set {st st':SortSt} (h:Gs st st') (g:Nat):Gs st (setGal st' g):=⟨h.k,h.a,h.p,h.f⟩
section
variable {prog:Program} {w:World} {A:Around} {E:Value→Shared→Prop} {s:Shared} {x y o:Array Keyed} {i j g u v:Nat} {st:SortSt} {R:ForInStep LoC→SortSt→Prop}
theorem wp_ite {α:Type} {c:Prop} [Decidable c] {a b:StateT SortSt Sem α} {Q:α→SortSt→Prop} (h1:c→wpS (model prog w) A E s a Q st) (h2:¬c→wpS (model prog w) A E s b Q st):wpS (model prog w) A E s (if c then a else b) Q st:=by
  by_cases h:c
  · rw[if_pos h];exact h1 h
  · rw[if_neg h];exact h2 h
theorem t_g3 (sx:Srt x 0 x.size) (sy:Srt y 0 y.size) (b2:∀n,n < y.size→K y n < K x (x.size - 1)) (M:Mg x y o i j) (hi:i + 1 < x.size) (le:j < y.size→K x i≤K y j)
    (q1:∀r c,Fin2 x y r→R (.done (some r,c)) st) (q2:∀o',Mg x y o' (i + 1) j→i + 1 + 1 < x.size→R (.done (none,o',i + 1,j,g,u,v)) st∧R (.yield (none,o',i + 1,j,g,u,v)) st):wpS (model prog w) A E s (g3 x y o i j g u v) R st:=by
  obtain⟨p,e,_,kp⟩:=K_get (xs:=x) (i:=i) (by lia)
  unfold g3
  refine wpS_bind (t_elem e ?_)
  have M':=M.pushX sx (by lia) e fun h=>by rw[←kp];exact le h
  by_cases c:i + 1 + 1=x.size
  · rw[if_pos (by simpa using c)]
    exact wpS_pure (q1 _ _ (M'.end2 sy c fun n hn=>by
      have:=b2 n hn
      rw[show x.size - 1=i + 1 by lia] at this
      lia))
  · rw[if_neg (by simpa using c)]
    have:=q2 _ M' (by lia)
    split
    · exact wpS_pure this.1
    · exact wpS_pure this.2
theorem t_g2 (hk:kindOf st=oneType') (ix:∀p∈x.toList,isI p) (iy:∀p∈y.toList,isI p) (sx:Srt x 0 x.size) (sy:Srt y 0 y.size) (b2:∀n,n < y.size→K y n < K x (x.size - 1)) (M:Mg x y o i j) (hi:i + 1 < x.size) (hj:j < y.size) (le:K y j≤K x i)
    (q1:∀r c,Fin2 x y r→R (.done (some r,c)) st) (q2:∀o' i' j' u' v',Mg x y o' i' j'→i' + 1 < x.size→j' < y.size→i + j + 1≤i' + j'→R (.done (none,o',i',j',g,u',v')) st∧R (.yield (none,o',i',j',g,u',v')) st):wpS (model prog w) A E s (g2 x y o i j g u v) R st:=by
  obtain⟨p,e,hp,kp⟩:=K_get (xs:=y) (i:=j) hj
  obtain⟨px,ex,hx,kx⟩:=K_get (xs:=x) (i:=i) (by lia)
  unfold g2
  refine wpS_bind (t_elem e ?_)
  have M':=M.pushY sy hj e fun h=>by rw[←kp];exact le
  by_cases c:j + 1=y.size
  · rw[if_pos (by simpa using c)]
    exact wpS_pure (q1 _ _ (M'.end1 sx c))
  · rw[if_neg (by simpa using c)]
    refine wpS_bind (t_elem ex ?_)
    refine wpS_bind (t_galL hk (ix _ hx) iy (by lia) (by lia) (fun p q a b c=>sy p q (by lia) b (by lia)) fun k k1 k2 k3=>?_)
    dsimp only
    by_cases c0:k > 0
    · rw[if_pos c0]
      have M2:=M'.extY sy (by lia) k (by lia) fun q hq=>by have:=k2 q hq;rw[kx];lia
      by_cases c1:j + 1 + k=y.size
      · rw[if_pos (by simpa using c1)]
        exact wpS_pure (q1 _ _ (M2.end1 sx c1))
      · rw[if_neg (by simpa using c1)]
        exact t_g3 sx sy b2 M2 hi (fun h=>by rw[kx];exact k3 k (Nat.le_refl _) (by lia)) q1 fun o' Mo ho=>q2 _ _ _ _ _ Mo ho (by lia) (by lia)
    · rw[if_neg c0]
      have:k=0:=by lia
      subst this
      exact t_g3 sx sy b2 M' hi (fun h=>by rw[kx];exact k3 0 (Nat.le_refl _) (by lia)) q1 fun o' Mo ho=>q2 _ _ _ _ _ Mo ho (by lia) (by lia)
theorem t_mLo {Q:Array Keyed→SortSt→Prop} (hk:kindOf st=oneType') (ix:∀p∈x.toList,isI p) (iy:∀p∈y.toList,isI p) (sx:Srt x 0 x.size) (sy:Srt y 0 y.size) (x1:1≤x.size) (y1:1≤y.size)
    (b1:K y 0≤K x 0) (b2:∀n,n < y.size→K y n < K x (x.size - 1)) (q:∀r st',Gs st st'→Fin2 x y r→Q r st'):wpS (model prog w) A E s (mLo x y) Q st:=by
  rw[mLo_eq]
  obtain⟨p0,ey0,_,ky0⟩:=K_get (xs:=y) (i:=0) (by lia)
  refine wpS_bind (wpS_lift (wpAny_rule ⟨rfl,?_⟩))
  refine wpS_bind (t_elem ey0 ?_)
  dsimp only
  have big:∀i,i + 1=x.size→∀n,n < y.size→K y n≤K x i:=fun i hi n hn=>by
    have:=b2 n hn
    rw[show x.size - 1=i by lia] at this
    lia
  have m0:Mg x y #[p0] 0 1:=by
    have:Mg x y #[] 0 0:=⟨List.Perm.refl _,.nil,(fun _ p hp=>by cases hp),(fun _ p hp=>by cases hp)⟩
    exact this.pushY sy (by lia) ey0 fun _=>by rw[←ky0];exact b1
  by_cases c1:1=y.size
  · rw[if_pos (by simpa using c1)]
    exact wpS_pure (q _ _ Gs.rfl (m0.end1 sx c1))
  rw[if_neg (by simpa using c1)]
  by_cases c2:0 + 1=x.size
  · rw[if_pos (by simpa using c2)]
    exact wpS_pure (q _ _ Gs.rfl (m0.end2 sy c2 (big 0 c2)))
  rw[if_neg (by simpa using c2)]
  refine wpS_bind (wpS_get ?_)
  refine wpS_bind (wpS_mono (wpS_forRange (I:=fun n c st'=>∃o i j g,c=(none,o,i,j,g)∧Gs st st'∧Mg x y o i j∧i + 1 < x.size∧j < y.size∧n + 1≤i + j)
    (Q:=fun c st'=>∃r c',c=(some r,c')∧Gs st st'∧Fin2 x y r) ?step ?fin ⟨_,_,_,_,rfl,Gs.rfl,m0,by lia,by lia,by lia⟩) ?post)
  case post=>
    rintro c st' ⟨r,c',rfl,gs,fin⟩
    exact wpS_pure (q r st' gs fin)
  case fin=>
    rintro c st' ⟨o,i,j,g,rfl,gs,M,hi,hj,hn⟩
    lia
  case step=>
    rintro n c st' _ hn ⟨o,i,j,g,rfl,gs,M,hi,hj,hp⟩
    dsimp only
    refine wpS_bind (wpS_mono (wpS_forRange (I:=fun m c st2=>∃o' i' j' u v,c=(none,o',i',j',u,v)∧Gs st st2∧Mg x y o' i' j'∧i' + 1 < x.size∧j' < y.size∧m + (i + j)≤i' + j')
      (Q:=fun c st2=>(∃r c',c=(some r,c')∧Gs st st2∧Fin2 x y r)∨∃o' i' j' u v,c=(none,o',i',j',u,v)∧Gs st st2∧Mg x y o' i' j'∧i' + 1 < x.size∧j' < y.size∧i + j + 1≤i' + j') ?istep ?ifin ⟨_,_,_,_,_,rfl,gs,M,hi,hj,by lia⟩) ?ipost)
    case ifin=>
      rintro c st2 ⟨o',i',j',u,v,rfl,gs,M,hi,hj,hn⟩
      lia
    case istep=>
      rintro m c st2 _ hm ⟨o',i',j',u,v,rfl,gs,M,hi,hj,hn⟩
      dsimp only
      obtain⟨py,ey,hy,ky⟩:=K_get (xs:=y) (i:=j') hj
      obtain⟨px,ex,hx,kx⟩:=K_get (xs:=x) (i:=i') (by lia)
      refine wpS_bind (t_elem ey (wpS_bind (t_elem ex (wpS_bind (t_lt2 (gs.k.trans hk) (iy _ hy) (ix _ hx) ?_)))))
      by_cases hl:nm py < nm px
      · simp only[hl,decide_true,if_true]
        refine wpS_bind (t_elem ey ?_)
        have M':=M.pushY sy hj ey fun _=>by rw[kx];lia
        by_cases c:j' + 1=y.size
        · rw[if_pos (by simpa using c)]
          exact wpS_pure (.inl ⟨_,_,rfl,gs,M'.end1 sx c⟩)
        · rw[if_neg (by simpa using c)]
          split
          · exact wpS_pure (.inr ⟨_,_,_,_,_,rfl,gs,M',hi,by lia,by lia⟩)
          · exact wpS_pure ⟨_,_,_,_,_,rfl,gs,M',hi,by lia,by lia⟩
      · simp only[hl,decide_false,Bool.false_eq_true,if_false]
        refine wpS_bind (t_elem ex ?_)
        have M':=M.pushX sx (by lia) ex fun _=>by rw[ky];lia
        by_cases c:i' + 1 + 1=x.size
        · rw[if_pos (by simpa using c)]
          exact wpS_pure (.inl ⟨_,_,rfl,gs,M'.end2 sy c (big _ c)⟩)
        · rw[if_neg (by simpa using c)]
          split
          · exact wpS_pure (.inr ⟨_,_,_,_,_,rfl,gs,M',by lia,hj,by lia⟩)
          · exact wpS_pure ⟨_,_,_,_,_,rfl,gs,M',by lia,hj,by lia⟩
    case ipost=>
      rintro c st2 (⟨r,c',rfl,gs,fin⟩ | ⟨o',i',j',u,v,rfl,gs,M,hi,hj,hn'⟩)
      · exact wpS_pure ⟨_,_,rfl,gs,fin⟩
      dsimp only
      refine wpS_bind (wpS_lift (wpAny_rule ⟨rfl,?_⟩))
      refine wpS_bind (wpS_mono (wpS_forRange (I:=fun m c st2=>∃o i j g u v,c=(none,o,i,j,g,u,v)∧Gs st st2∧Mg x y o i j∧i + 1 < x.size∧j < y.size∧m + (i' + j')≤i + j)
        (Q:=fun c st2=>(∃r c',c=(some r,c')∧Gs st st2∧Fin2 x y r)∨∃o i j g u v,c=(none,o,i,j,g,u,v)∧Gs st st2∧Mg x y o i j∧i + 1 < x.size∧j < y.size∧i' + j'≤i + j) ?gstep ?gfin ⟨_,_,_,_,_,_,rfl,gs,M,hi,hj,by lia⟩) ?gpost)
      case gfin=>
        rintro c st2 ⟨o',i',j',g,u,v,rfl,gs,M,hi,hj,hn⟩
        lia
      case gpost=>
        rintro c st2 (⟨r,c',rfl,gs,fin⟩ | ⟨o',i',j',g,u,v,rfl,gs,M,hi,hj,hn'⟩)
        · exact wpS_pure ⟨_,_,rfl,gs,fin⟩
        dsimp only
        rw[setG_eq]
        exact wpS_bind (wpS_modify (wpS_pure ⟨_,_,_,_,rfl,gs.set _,M,hi,hj,by lia⟩))
      case gstep=>
        clear M hi hj gs hp
        rintro m c st2 _ hm ⟨o,i,j,g,u,v,rfl,gs,M,hi,hj,hp⟩
        dsimp only
        obtain⟨py,ey,hy,ky⟩:=K_get (xs:=y) (i:=j) hj
        refine wp_ite (fun _=>?_) fun _=>?_
        all_goals
          rw[setG_eq]
          refine wpS_bind (wpS_modify ?_)
          refine wpS_bind (t_elem ey ?_)
          refine wpS_bind (t_galR ((gs.set _).k.trans hk) (iy _ hy) ix (by lia) (by lia) (fun p q a b c=>sx p q (by lia) b (by lia)) fun k k1 k2 k3=>?_)
          have kl:i + k < x.size:=by
            apply Classical.byContradiction
            intro z
            have a1:=k2 (x.size - 1 - i) (by lia)
            have a2:=b2 j hj
            rw[show i + (x.size - 1 - i)=x.size - 1 by lia] at a1
            rw[ky] at a2
            lia
          dsimp only
          by_cases c0:k > 0
          · rw[if_pos c0]
            have M2:=M.extX sx hj k (by lia) fun q hq=>by rw[ky];exact k2 q hq
            by_cases c1:i + k + 1=x.size
            · rw[if_pos (by simpa using c1)]
              exact wpS_pure (.inl ⟨_,_,rfl,gs.set _,M2.end2 sy c1 (big _ c1)⟩)
            · rw[if_neg (by simpa using c1),if_neg (by simp;lia)]
              exact t_g2 ((gs.set _).k.trans hk) ix iy sx sy b2 M2 (by lia) hj (by have:=k3 k (Nat.le_refl _) (by lia);rw[ky];lia) (fun r c hf=>.inl ⟨r,c,rfl,gs.set _,hf⟩) fun o' i' j' u' v' Mo h1 h2 h3=>⟨.inr ⟨_,_,_,_,_,_,rfl,gs.set _,Mo,h1,h2,by lia⟩,⟨_,_,_,_,_,_,rfl,gs.set _,Mo,h1,h2,by lia⟩⟩
          · rw[if_neg c0]
            have:k=0:=by lia
            subst this
            exact t_g2 ((gs.set _).k.trans hk) ix iy sx sy b2 M hi hj (by have:=k3 0 (Nat.le_refl _) (by lia);rw[ky];simp at this;lia) (fun r c hf=>.inl ⟨r,c,rfl,gs.set _,hf⟩) fun o' i' j' u' v' Mo h1 h2 h3=>⟨.inr ⟨_,_,_,_,_,_,rfl,gs.set _,Mo,h1,h2,by lia⟩,⟨_,_,_,_,_,_,rfl,gs.set _,Mo,h1,h2,by lia⟩⟩
end
def mHi:Array Keyed→Array Keyed→StateT SortSt Sem (Array Keyed):=sortPriv% PySem.Builtin.mergeHi
def f1 (x y o:Array Keyed) (i j:Nat):Array Keyed:=x.extract 0 i++y.extract 0 j++o.reverse
def f2 (x y o:Array Keyed) (i j:Nat):Array Keyed:=y.extract 0 j++x.extract 0 i++o.reverse
theorem mHi_eq (x y:Array Keyed):mHi x y=(do
  rule "list.sort.merge-hi"
  let t:=x.size + y.size
  let mut i:=x.size - 1
  let mut j:=y.size
  let mut o:Array Keyed:=#[←elem' x i]
  if i == 0 then return f1 x y o i j
  if j == 1 then return f2 x y o i j
  let mut g:=gallopOf (←get)
  for _ in [0:t] do
    let mut u:=0
    let mut v:=0
    for _ in [0:t] do
      let some z ←lt' (←elem' y (j - 1)) (←elem' x (i - 1)) | return f1 x y o i j
      if z then
        i:=i - 1;o:=o.push (←elem' x i);u:=u + 1;v:=0
        if i == 0 then return f1 x y o i j
        if u ≥ g then break
      else
        j:=j - 1;o:=o.push (←elem' y j);v:=v + 1;u:=0
        if j == 1 then return f2 x y o i j
        if v ≥ g then break
    rule "list.sort.gallop"
    g:=g + 1
    for _ in [0:t] do
      if g > 1 then g:=g - 1
      setG g
      let some c ←gal false (←elem' y (j - 1)) x 0 i (i - 1) | return f1 x y o i j
      let k:=i - c
      u:=k
      if k > 0 then
        o:=o++(x.extract c i).reverse;i:=c
        if i == 0 then return f1 x y o i j
      j:=j - 1;o:=o.push (←elem' y j)
      if j == 1 then return f2 x y o i j
      let some c ←gal true (←elem' x (i - 1)) y 0 j (j - 1) | return f1 x y o i j
      let k:=j - c
      v:=k
      if k > 0 then
        o:=o++(y.extract c j).reverse;j:=c
        if j == 1 then return f2 x y o i j
        if j == 0 then return f1 x y o i j
      i:=i - 1;o:=o.push (←elem' x i)
      if i == 0 then return f1 x y o i j
      if u < 7&&v < 7 then break
    g:=g + 1
    setG g
  unsupported "internal:list.sort.merge-bound"):=rfl
abbrev HiC:=Option (Array Keyed)×Nat×Nat×Array Keyed×Nat×Nat×Nat
def k3 (x y o:Array Keyed) (i j g u v:Nat):StateT SortSt Sem (ForInStep HiC):=do
  let z ←elem' x (i - 1)
  if (i - 1 == 0)=true then pure (.done (some (f1 x y (o.push z) (i - 1) j),i - 1,j,o.push z,g,u,v))
  else if (decide (u < 7)&&decide (v < 7))=true then pure (.done (none,i - 1,j,o.push z,g,u,v))
  else pure (.yield (none,i - 1,j,o.push z,g,u,v))
def k2 (x y o:Array Keyed) (i j g u v:Nat):StateT SortSt Sem (ForInStep HiC):=do
  let z ←elem' y (j - 1)
  if (j - 1 == 1)=true then pure (.done (some (f2 x y (o.push z) i (j - 1)),i,j - 1,o.push z,g,u,v))
  else do
    let p ←elem' x (i - 1)
    let r ←gal true p y 0 (j - 1) (j - 1 - 1)
    match r with
    | some c=>
      if j - 1 - c > 0 then
        if (c == 1)=true then pure (.done (some (f2 x y (o.push z++(y.extract c (j - 1)).reverse) i c),i,c,o.push z++(y.extract c (j - 1)).reverse,g,u,j - 1 - c))
        else if (c == 0)=true then pure (.done (some (f1 x y (o.push z++(y.extract c (j - 1)).reverse) i c),i,c,o.push z++(y.extract c (j - 1)).reverse,g,u,j - 1 - c))
        else k3 x y (o.push z++(y.extract c (j - 1)).reverse) i c g u (j - 1 - c)
      else k3 x y (o.push z) i (j - 1) g u (j - 1 - c)
    | _=>pure (.done (some (f1 x y (o.push z) i (j - 1)),i,j - 1,o.push z,g,u,v))
structure Mh (x y o:Array Keyed) (i j:Nat):Prop where
  perm:o.toList.Perm (x.toList.drop i++y.toList.drop j)
  srt:o.toList.reverse.Pairwise LeP
  lx:0 < i→∀p∈o.toList,K x (i - 1)≤nm p
  ly:0 < j→∀p∈o.toList,K y (j - 1)≤nm p
theorem drop_at {x:Array Keyed} {i:Nat} {p:Keyed} (e:x[i]?=some p):x.toList.drop i=p::x.toList.drop (i + 1):=by
  have h:i < x.size:=by
    apply Classical.byContradiction
    intro z
    rw[Array.getElem?_eq_none (by lia)] at e;cases e
  rw[getElem?_pos x i h] at e
  rw[←Option.some.inj e]
  have:x.toList.drop i=x.toList[i]'(by simp;lia)::x.toList.drop (i + 1):=List.drop_eq_getElem_cons (by simp;lia)
  rw[this];simp
section
variable {x y o:Array Keyed} {i j k:Nat} {p:Keyed}
theorem rev_push (o:Array Keyed) (p:Keyed):(o.push p).toList.reverse=p::o.toList.reverse:=by rw[Array.toList_push,List.reverse_append];rfl
theorem Mh.pushX (h:Mh x y o i j) (sx:Srt x 0 x.size) (h0:0 < i) (hi:i≤x.size) (e:x[i - 1]?=some p) (le:0 < j→K y (j - 1)≤nm p):Mh x y (o.push p) (i - 1) j:=by
  have kx:=K_at e
  refine⟨?_,?_,fun hi' q hq=>?_,fun hj q hq=>?_⟩
  · rw[drop_at e,show i - 1 + 1=i by lia,Array.toList_push]
    exact (List.perm_append_comm).trans (List.Perm.cons p h.perm)
  · rw[rev_push,List.pairwise_cons]
    exact⟨fun q hq=>by show nm p≤nm q;rw[←kx];exact h.lx h0 q (List.mem_reverse.mp hq),h.srt⟩
  · have:=sx (i - 1 - 1) (i - 1) (by lia) (by lia) (by lia)
    rw[Array.toList_push] at hq
    rcases List.mem_append.mp hq with z | z
    · exact Int.le_trans this (h.lx h0 q z)
    · rw[List.mem_singleton.mp z,←kx];exact this
  · rw[Array.toList_push] at hq
    rcases List.mem_append.mp hq with z | z
    · exact h.ly hj q z
    · rw[List.mem_singleton.mp z];exact le hj
theorem Mh.pushY (h:Mh x y o i j) (sy:Srt y 0 y.size) (h0:0 < j) (hj:j≤y.size) (e:y[j - 1]?=some p) (le:0 < i→K x (i - 1)≤nm p):Mh x y (o.push p) i (j - 1):=by
  have ky:=K_at e
  refine⟨?_,?_,fun hi q hq=>?_,fun hj' q hq=>?_⟩
  · rw[drop_at e,show j - 1 + 1=j by lia,Array.toList_push]
    refine (List.perm_append_comm).trans ?_
    exact (List.Perm.cons p h.perm).trans List.perm_middle.symm
  · rw[rev_push,List.pairwise_cons]
    exact⟨fun q hq=>by show nm p≤nm q;rw[←ky];exact h.ly h0 q (List.mem_reverse.mp hq),h.srt⟩
  · rw[Array.toList_push] at hq
    rcases List.mem_append.mp hq with z | z
    · exact h.lx hi q z
    · rw[List.mem_singleton.mp z];exact le hi
  · have:=sy (j - 1 - 1) (j - 1) (by lia) (by lia) (by lia)
    rw[Array.toList_push] at hq
    rcases List.mem_append.mp hq with z | z
    · exact Int.le_trans this (h.ly h0 q z)
    · rw[List.mem_singleton.mp z,←ky];exact this
theorem exr_succ (o x:Array Keyed) (k n:Nat) (e:x[k + n]?=some p):o++(x.extract k (k + (n + 1))).reverse=o.push p++(x.extract k (k + n)).reverse:=by
  apply Array.ext'
  rw[Array.toList_append,Array.toList_append,Array.toList_push,Array.toList_reverse,Array.toList_reverse,ext_toList,ext_toList,List.take_add_one,List.getElem?_drop,Array.getElem?_toList,e,List.reverse_append,List.append_assoc]
  rfl
theorem exr_zero (o x:Array Keyed) (k:Nat):o++(x.extract k (k + 0)).reverse=o:=by
  apply Array.ext'
  rw[Array.toList_append,Array.toList_reverse,ext_toList,List.take_zero,List.reverse_nil,List.append_nil]
theorem Mh.extX (sx:Srt x 0 x.size) (hj:0 < j):∀n {o:Array Keyed},Mh x y o (k + n) j→k + n≤x.size→(∀q,k≤q→q < k + n→K y (j - 1)≤K x q)→Mh x y (o++(x.extract k (k + n)).reverse) k j
  | 0,o,h,_,_=>by rw[exr_zero];exact h
  | n + 1,o,h,hk,hl=>by
    obtain⟨p,e,_,kp⟩:=K_get (xs:=x) (i:=k + n) (by lia)
    rw[exr_succ o x k n e]
    refine Mh.extX sx hj n ?_ (by lia) fun q a b=>hl q a (by lia)
    exact h.pushX sx (by lia) hk e fun _=>by rw[←kp];exact hl _ (by lia) (by lia)
theorem Mh.extY (sy:Srt y 0 y.size) (hi:0 < i):∀n {o:Array Keyed},Mh x y o i (k + n)→k + n≤y.size→(∀q,k≤q→q < k + n→K x (i - 1)≤K y q)→Mh x y (o++(y.extract k (k + n)).reverse) i k
  | 0,o,h,_,_=>by rw[exr_zero];exact h
  | n + 1,o,h,hk,hl=>by
    obtain⟨p,e,_,kp⟩:=K_get (xs:=y) (i:=k + n) (by lia)
    rw[exr_succ o y k n e]
    refine Mh.extY sy hi n ?_ (by lia) fun q a b=>hl q a (by lia)
    exact h.pushY sy (by lia) hk e fun _=>by rw[←kp];exact hl _ (by lia) (by lia)
theorem ext0 (x:Array Keyed) (i:Nat):(x.extract 0 i).toList=x.toList.take i:=by
  have:=ext_toList x 0 i
  rwa [Nat.zero_add,List.drop_zero] at this
theorem mem_take {x:Array Keyed} {p:Keyed} (h:p∈x.toList.take i):∃q,q < i∧q < x.size∧K x q=nm p:=by
  obtain⟨n,hn,e⟩:=List.mem_iff_getElem.mp h
  rw[List.getElem_take] at e
  rw[List.length_take] at hn
  have hl:n < x.size:=by simp at hn;lia
  exact⟨n,by lia,hl,K_at (by rw[getElem?_pos x _ hl,←e];simp)⟩
theorem pw_take {x:Array Keyed} (sx:Srt x 0 x.size) (hi:i≤x.size):(x.toList.take i).Pairwise LeP:=by
  have:=pw_of (a:=0) (b:=i) (fun p q a b c=>sx p q a b (by lia)) hi
  rwa [List.drop_zero] at this
theorem Mh.end1 (h:Mh x y o i j) (sy:Srt y 0 y.size) (hj:j≤y.size) (hi:i=0):Fin2 x y (f1 x y o i j):=by
  subst hi
  have e:(f1 x y o 0 j).toList=y.toList.take j++o.toList.reverse:=by
    unfold f1
    rw[Array.toList_append,Array.toList_append,ext0,ext0,List.take_zero,List.nil_append,Array.toList_reverse]
  unfold Fin2
  rw[e]
  refine⟨?_,?_⟩
  · refine (List.Perm.append_left _ ((List.reverse_perm _).trans h.perm)).trans ?_
    rw[List.drop_zero,←List.append_assoc]
    refine (List.Perm.append_right _ List.perm_append_comm).trans ?_
    rw[List.append_assoc,List.take_append_drop]
  · rw[List.pairwise_append]
    refine⟨pw_take sy hj,h.srt,fun p hp q hq=>?_⟩
    obtain⟨n,h1,h2,h3⟩:=mem_take hp
    show nm p≤nm q
    rw[←h3]
    exact Int.le_trans (sy n (j - 1) (by lia) (by lia) (by lia)) (h.ly (by lia) q (List.mem_reverse.mp hq))
theorem Mh.end2 (h:Mh x y o i j) (sx:Srt x 0 x.size) (hi:i≤x.size) (hy:1≤y.size) (hj:j=1) (sm:∀n,n < x.size→K y 0≤K x n):Fin2 x y (f2 x y o i j):=by
  subst hj
  obtain⟨z,ez,_,kz⟩:=K_get (xs:=y) (i:=0) (by lia)
  have ey:y.toList.take 1=[z]:=by rw[take_at ez];rfl
  have e:(f2 x y o i 1).toList=[z]++x.toList.take i++o.toList.reverse:=by
    unfold f2
    rw[Array.toList_append,Array.toList_append,ext0,ext0,Array.toList_reverse,ey]
  unfold Fin2
  rw[e]
  refine⟨?_,?_⟩
  · refine (List.Perm.append_left _ ((List.reverse_perm _).trans h.perm)).trans ?_
    rw[List.append_assoc,←List.append_assoc (List.take i x.toList),List.take_append_drop,←ey]
    refine List.perm_append_comm.trans ?_
    rw[List.append_assoc]
    refine List.Perm.append_left _ (List.perm_append_comm.trans ?_)
    rw[List.take_append_drop]
  · rw[List.pairwise_append,List.pairwise_append]
    refine⟨⟨List.pairwise_singleton _ _,pw_take sx hi,fun p hp q hq=>?_⟩,h.srt,fun p hp q hq=>?_⟩
    · rw[List.mem_singleton.mp hp]
      obtain⟨n,h1,h2,h3⟩:=mem_take hq
      show nm z≤nm q
      rw[←h3,←kz];exact sm n h2
    · rcases List.mem_append.mp hp with u | u
      · rw[List.mem_singleton.mp u]
        show nm z≤nm q
        rw[←kz];exact h.ly (by lia) q (List.mem_reverse.mp hq)
      · obtain⟨n,h1,h2,h3⟩:=mem_take u
        show nm p≤nm q
        rw[←h3]
        exact Int.le_trans (sx n (i - 1) (by lia) (by lia) (by lia)) (h.lx (by lia) q (List.mem_reverse.mp hq))
end
section
variable {prog:Program} {w:World} {A:Around} {E:Value→Shared→Prop} {s:Shared} {x y o:Array Keyed} {i j g u v:Nat} {st:SortSt} {R:ForInStep HiC→SortSt→Prop}
theorem t_k3 (sx:Srt x 0 x.size) (sy:Srt y 0 y.size) (M:Mh x y o i j) (h0:0 < i) (hi:i≤x.size) (hj:j≤y.size) (le:0 < j→K y (j - 1)≤K x (i - 1))
    (q1:∀r c,Fin2 x y r→R (.done (some r,c)) st) (q2:∀o',Mh x y o' (i - 1) j→0 < i - 1→R (.done (none,i - 1,j,o',g,u,v)) st∧R (.yield (none,i - 1,j,o',g,u,v)) st):wpS (model prog w) A E s (k3 x y o i j g u v) R st:=by
  obtain⟨p,e,_,kp⟩:=K_get (xs:=x) (i:=i - 1) (by lia)
  unfold k3
  refine wpS_bind (t_elem e ?_)
  have M':=M.pushX sx h0 hi e fun h=>by rw[←kp];exact le h
  by_cases c:i - 1=0
  · rw[if_pos (by simpa using c)]
    exact wpS_pure (q1 _ _ (M'.end1 sy hj c))
  · rw[if_neg (by simpa using c)]
    have:=q2 _ M' (by lia)
    split
    · exact wpS_pure this.1
    · exact wpS_pure this.2
theorem t_k2 (hk:kindOf st=oneType') (ix:∀p∈x.toList,isI p) (iy:∀p∈y.toList,isI p) (sx:Srt x 0 x.size) (sy:Srt y 0 y.size) (b1:∀n,n < x.size→K y 0 < K x n) (M:Mh x y o i j) (h0:0 < i) (hi:i≤x.size) (h1:1 < j) (hj:j≤y.size) (le:K x (i - 1)≤K y (j - 1))
    (q1:∀r c,Fin2 x y r→R (.done (some r,c)) st) (q2:∀o' i' j' u' v',Mh x y o' i' j'→0 < i'→1 < j'→i' + j' + 1≤i + j→i'≤i→j'≤j→R (.done (none,i',j',o',g,u',v')) st∧R (.yield (none,i',j',o',g,u',v')) st):wpS (model prog w) A E s (k2 x y o i j g u v) R st:=by
  have sm:∀n,n < x.size→K y 0≤K x n:=fun n hn=>Int.le_of_lt (b1 n hn)
  obtain⟨p,e,hp,kp⟩:=K_get (xs:=y) (i:=j - 1) (by lia)
  obtain⟨px,ex,hx,kx⟩:=K_get (xs:=x) (i:=i - 1) (by lia)
  unfold k2
  refine wpS_bind (t_elem e ?_)
  have M':=M.pushY sy (by lia) hj e fun h=>by rw[←kp];exact le
  by_cases c:j - 1=1
  · rw[if_pos (by simpa using c)]
    exact wpS_pure (q1 _ _ (M'.end2 sx hi (by lia) c sm))
  · rw[if_neg (by simpa using c)]
    refine wpS_bind (t_elem ex ?_)
    refine wpS_bind (t_galL hk (ix _ hx) iy (by lia) (by lia) (fun p q a b c=>sy p q (by lia) b (by lia)) fun k e1 e2 e3=>?_)
    have k1:1≤k:=by
      apply Classical.byContradiction
      intro z
      have a1:=e3 0 (by lia) (by lia)
      have a2:=b1 (i - 1) (by lia)
      rw[kx] at a2
      simp at a1
      lia
    dsimp only
    by_cases c0:j - 1 - k > 0
    · rw[if_pos c0]
      have M2:=Mh.extY (k:=k) sy h0 (j - 1 - k) (o:=o.push p) (by rw[show k + (j - 1 - k)=j - 1 by lia];exact M') (by lia) fun q a b=>by
        have:=e3 q a (by lia)
        rw[kx]
        rwa [Nat.zero_add] at this
      rw[show k + (j - 1 - k)=j - 1 by lia] at M2
      by_cases c1:k=1
      · rw[if_pos (by simpa using c1)]
        exact wpS_pure (q1 _ _ (M2.end2 sx hi (by lia) c1 sm))
      · rw[if_neg (by simpa using c1),if_neg (by simp;lia)]
        exact t_k3 sx sy M2 h0 hi (by lia) (fun h=>by have:=e2 (k - 1) (by lia);rw[Nat.zero_add] at this;rw[kx];lia) q1 fun o' Mo ho=>q2 _ _ _ _ _ Mo ho (by lia) (by lia) (by lia) (by lia)
    · rw[if_neg c0]
      have:k=j - 1:=by lia
      subst this
      exact t_k3 sx sy M' h0 hi (by lia) (fun h=>by have:=e2 (j - 1 - 1) (by lia);rw[Nat.zero_add] at this;rw[kx];lia) q1 fun o' Mo ho=>q2 _ _ _ _ _ Mo ho (by lia) (by lia) (by lia) (by lia)
theorem t_mHi {Q:Array Keyed→SortSt→Prop} (hk:kindOf st=oneType') (ix:∀p∈x.toList,isI p) (iy:∀p∈y.toList,isI p) (sx:Srt x 0 x.size) (sy:Srt y 0 y.size) (x1:1≤x.size) (y1:1≤y.size)
    (b1:∀n,n < x.size→K y 0 < K x n) (b2:∀n,n < y.size→K y n≤K x (x.size - 1)) (q:∀r st',Gs st st'→Fin2 x y r→Q r st'):wpS (model prog w) A E s (mHi x y) Q st:=by
  rw[mHi_eq]
  have sm:∀n,n < x.size→K y 0≤K x n:=fun n hn=>Int.le_of_lt (b1 n hn)
  obtain⟨p0,ex0,_,kx0⟩:=K_get (xs:=x) (i:=x.size - 1) (by lia)
  refine wpS_bind (wpS_lift (wpAny_rule ⟨rfl,?_⟩))
  refine wpS_bind (t_elem ex0 ?_)
  dsimp only
  have m0:Mh x y #[p0] (x.size - 1) y.size:=by
    have:Mh x y #[] x.size y.size:=⟨by rw[List.drop_of_length_le (by simp),List.drop_of_length_le (by simp)];exact List.Perm.refl _,.nil,(fun _ p hp=>by cases hp),(fun _ p hp=>by cases hp)⟩
    exact this.pushX sx (by lia) (by lia) ex0 fun _=>by rw[←kx0];exact b2 _ (by lia)
  by_cases c1:x.size - 1=0
  · rw[if_pos (by simpa using c1)]
    exact wpS_pure (q _ _ Gs.rfl (m0.end1 sy (by lia) c1))
  rw[if_neg (by simpa using c1)]
  by_cases c2:y.size=1
  · rw[if_pos (by simpa using c2)]
    exact wpS_pure (q _ _ Gs.rfl (m0.end2 sx (by lia) y1 c2 sm))
  rw[if_neg (by simpa using c2)]
  refine wpS_bind (wpS_get ?_)
  refine wpS_bind (wpS_mono (wpS_forRange (I:=fun n c st'=>∃o i j g,c=(none,i,j,o,g)∧Gs st st'∧Mh x y o i j∧0 < i∧i≤x.size∧1 < j∧j≤y.size∧n + (i + j) + 1≤x.size + y.size)
    (Q:=fun c st'=>∃r c',c=(some r,c')∧Gs st st'∧Fin2 x y r) ?step ?fin ⟨_,_,_,_,rfl,Gs.rfl,m0,by lia,by lia,by lia,by lia,by lia⟩) ?post)
  case post=>
    rintro c st' ⟨r,c',rfl,gs,fin⟩
    exact wpS_pure (q r st' gs fin)
  case fin=>
    rintro c st' ⟨o,i,j,g,rfl,gs,M,h0,hi,h1,hj,hn⟩
    lia
  case step=>
    rintro n c st' _ hn ⟨o,i,j,g,rfl,gs,M,h0,hi,h1,hj,hp⟩
    dsimp only
    refine wpS_bind (wpS_mono (wpS_forRange (I:=fun m c st2=>∃o' i' j' u v,c=(none,i',j',o',u,v)∧Gs st st2∧Mh x y o' i' j'∧0 < i'∧i'≤x.size∧1 < j'∧j'≤y.size∧m + (i' + j')≤i + j)
      (Q:=fun c st2=>(∃r c',c=(some r,c')∧Gs st st2∧Fin2 x y r)∨∃o' i' j' u v,c=(none,i',j',o',u,v)∧Gs st st2∧Mh x y o' i' j'∧0 < i'∧i'≤x.size∧1 < j'∧j'≤y.size∧i' + j' + 1≤i + j) ?istep ?ifin ⟨_,_,_,_,_,rfl,gs,M,h0,hi,h1,hj,by lia⟩) ?ipost)
    case ifin=>
      rintro c st2 ⟨o',i',j',u,v,rfl,gs,M,h0,hi,h1,hj,hn⟩
      lia
    case istep=>
      rintro m c st2 _ hm ⟨o',i',j',u,v,rfl,gs,M,h0,hi,h1,hj,hn⟩
      dsimp only
      obtain⟨py,ey,hy,ky⟩:=K_get (xs:=y) (i:=j' - 1) (by lia)
      obtain⟨px,ex,hx,kx⟩:=K_get (xs:=x) (i:=i' - 1) (by lia)
      refine wpS_bind (t_elem ey (wpS_bind (t_elem ex (wpS_bind (t_lt2 (gs.k.trans hk) (iy _ hy) (ix _ hx) ?_)))))
      by_cases hl:nm py < nm px
      · simp only[hl,decide_true,if_true]
        refine wpS_bind (t_elem ex ?_)
        have M':=M.pushX sx h0 hi ex fun _=>by rw[ky];lia
        by_cases c:i' - 1=0
        · rw[if_pos (by simpa using c)]
          exact wpS_pure (.inl ⟨_,_,rfl,gs,M'.end1 sy hj c⟩)
        · rw[if_neg (by simpa using c)]
          split
          · exact wpS_pure (.inr ⟨_,_,_,_,_,rfl,gs,M',by lia,by lia,h1,hj,by lia⟩)
          · exact wpS_pure ⟨_,_,_,_,_,rfl,gs,M',by lia,by lia,h1,hj,by lia⟩
      · simp only[hl,decide_false,Bool.false_eq_true,if_false]
        refine wpS_bind (t_elem ey ?_)
        have M':=M.pushY sy (by lia) hj ey fun _=>by rw[kx];lia
        by_cases c:j' - 1=1
        · rw[if_pos (by simpa using c)]
          exact wpS_pure (.inl ⟨_,_,rfl,gs,M'.end2 sx hi y1 c sm⟩)
        · rw[if_neg (by simpa using c)]
          split
          · exact wpS_pure (.inr ⟨_,_,_,_,_,rfl,gs,M',h0,hi,by lia,by lia,by lia⟩)
          · exact wpS_pure ⟨_,_,_,_,_,rfl,gs,M',h0,hi,by lia,by lia,by lia⟩
    case ipost=>
      rintro c st2 (⟨r,c',rfl,gs,fin⟩ | ⟨o',i',j',u,v,rfl,gs,M,h0,hi,h1,hj,hn'⟩)
      · exact wpS_pure ⟨_,_,rfl,gs,fin⟩
      dsimp only
      refine wpS_bind (wpS_lift (wpAny_rule ⟨rfl,?_⟩))
      refine wpS_bind (wpS_mono (wpS_forRange (I:=fun m c st2=>∃o i j g u v,c=(none,i,j,o,g,u,v)∧Gs st st2∧Mh x y o i j∧0 < i∧i≤x.size∧1 < j∧j≤y.size∧m + (i + j)≤i' + j')
        (Q:=fun c st2=>(∃r c',c=(some r,c')∧Gs st st2∧Fin2 x y r)∨∃o i j g u v,c=(none,i,j,o,g,u,v)∧Gs st st2∧Mh x y o i j∧0 < i∧i≤x.size∧1 < j∧j≤y.size∧i + j≤i' + j') ?gstep ?gfin ⟨_,_,_,_,_,_,rfl,gs,M,h0,hi,h1,hj,by lia⟩) ?gpost)
      case gfin=>
        rintro c st2 ⟨o',i',j',g,u,v,rfl,gs,M,h0,hi,h1,hj,hn⟩
        lia
      case gpost=>
        rintro c st2 (⟨r,c',rfl,gs,fin⟩ | ⟨o',i',j',g,u,v,rfl,gs,M,h0,hi,h1,hj,hn'⟩)
        · exact wpS_pure ⟨_,_,rfl,gs,fin⟩
        dsimp only
        rw[setG_eq]
        exact wpS_bind (wpS_modify (wpS_pure ⟨_,_,_,_,rfl,gs.set _,M,h0,hi,h1,hj,by lia⟩))
      case gstep=>
        clear M h0 hi h1 hj gs hp
        rintro m c st2 _ hm ⟨o,i,j,g,u,v,rfl,gs,M,h0,hi,h1,hj,hp⟩
        dsimp only
        obtain⟨py,ey,hy,ky⟩:=K_get (xs:=y) (i:=j - 1) (by lia)
        refine wp_ite (fun _=>?_) fun _=>?_
        all_goals
          rw[setG_eq]
          refine wpS_bind (wpS_modify ?_)
          refine wpS_bind (t_elem ey ?_)
          refine wpS_bind (t_galR ((gs.set _).k.trans hk) (iy _ hy) ix (by lia) (by lia) (fun p q a b c=>sx p q (by lia) b (by lia)) fun k e1 e2 e3=>?_)
          dsimp only
          by_cases c0:i - k > 0
          · rw[if_pos c0]
            have M2:=Mh.extX (k:=k) (j:=j) sx (by lia) (i - k) (o:=o) (by rw[show k + (i - k)=i by lia];exact M) (by lia) fun q a b=>by
              have:=e3 q a (by lia)
              rw[Nat.zero_add] at this
              rw[ky];lia
            rw[show k + (i - k)=i by lia] at M2
            by_cases c1:k=0
            · rw[if_pos (by simpa using c1)]
              exact wpS_pure (.inl ⟨_,_,rfl,gs.set _,M2.end1 sy hj c1⟩)
            · rw[if_neg (by simpa using c1)]
              exact t_k2 ((gs.set _).k.trans hk) ix iy sx sy b1 M2 (by lia) (by lia) h1 hj (by have:=e2 (k - 1) (by lia);rw[Nat.zero_add] at this;rw[ky];exact this) (fun r c hf=>.inl ⟨r,c,rfl,gs.set _,hf⟩) fun o' i' j' u' v' Mo a1 a2 a3 a4 a5=>⟨.inr ⟨_,_,_,_,_,_,rfl,gs.set _,Mo,a1,by lia,a2,by lia,by lia⟩,⟨_,_,_,_,_,_,rfl,gs.set _,Mo,a1,by lia,a2,by lia,by lia⟩⟩
          · rw[if_neg c0]
            have:k=i:=by lia
            subst this
            exact t_k2 ((gs.set _).k.trans hk) ix iy sx sy b1 M h0 hi h1 hj (by have:=e2 (k - 1) (by lia);rw[Nat.zero_add] at this;rw[ky];exact this) (fun r c hf=>.inl ⟨r,c,rfl,gs.set _,hf⟩) fun o' i' j' u' v' Mo a1 a2 a3 a4 a5=>⟨.inr ⟨_,_,_,_,_,_,rfl,gs.set _,Mo,a1,by lia,a2,by lia,by lia⟩,⟨_,_,_,_,_,_,rfl,gs.set _,Mo,a1,by lia,a2,by lia,by lia⟩⟩
end
abbrev Rn:=Nat×Nat×Nat
def wrA (a:Array Keyed) (s:Nat) (l:List (Keyed×Nat)):Array Keyed:=l.foldl (fun a (p,j)=>a.setIfInBounds (s + j) p) a
theorem mAt_eq (i:Nat):mergeAt' i=(do
  let c ←get
  let (some (sa,na,pw),some (sb,nb,_)):=((pendingOf c)[i]?,(pendingOf c)[i + 1]?) | unsupported "internal:list.sort.pending"
  set (setPending c (((pendingOf c).setIfInBounds i (sa,na + nb,pw)).eraseIdxIfInBounds (i + 1)))
  let some k ←gal false (←elem' (arrOf c) sb) (arrOf c) sa na 0 | return false
  let (sa,na):=(sa + k,na - k)
  if na == 0 then return true
  let some m ←gal true (←elem' (arrOf c) (sa + na - 1)) (arrOf c) sb nb (nb - 1) | return false
  if m == 0 then return true
  let x:=(arrOf c).extract sa sb
  let y:=(arrOf c).extract sb (sb + m)
  let r ←if na≤m then mLo x y else mHi x y
  modify fun z=>setArr z (wrA (arrOf z) sa r.toList.zipIdx)
  return (failedOf (←get)).isNone):=rfl
def Tile (xs:Array Keyed):List Rn→Nat→Nat→Prop
  | [],i,j=>i=j
  | (s,n,_)::r,i,j=>s=i∧1≤n∧Srt xs i (i + n)∧Tile xs r (i + n) j
theorem Tile.le {xs:Array Keyed}:∀{l:List Rn} {i j:Nat},Tile xs l i j→i + l.length≤j
  | [],i,j,h=>Nat.le_of_eq h
  | (s,n,_)::r,i,j,⟨_,h1,_,h2⟩=>by have:=Tile.le h2;rw[List.length_cons];lia
theorem Tile.app {xs:Array Keyed}:∀{l r:List Rn} {i j:Nat},Tile xs (l++r) i j↔∃m,Tile xs l i m∧Tile xs r m j
  | [],r,i,j=>⟨fun h=>⟨i,rfl,h⟩,fun ⟨m,h1,h2⟩=>by cases (show i=m from h1);exact h2⟩
  | (s,n,_)::l,r,i,j=>by
    constructor
    · rintro ⟨a,b,c,d⟩
      obtain⟨m,h1,h2⟩:=Tile.app.mp d
      exact⟨m,⟨a,b,c,h1⟩,h2⟩
    · rintro ⟨m,⟨a,b,c,h1⟩,h2⟩
      exact⟨a,b,c,Tile.app.mpr ⟨m,h1,h2⟩⟩
theorem Tile.congr {xs ys:Array Keyed}:∀{l:List Rn} {i j:Nat},Tile xs l i j→(∀k,i≤k→k < j→K ys k=K xs k)→Tile ys l i j
  | [],_,_,h,_=>h
  | (s,n,_)::r,i,j,⟨a,b,c,d⟩,e=>by
    have:=Tile.le d
    exact⟨a,b,c.congr fun k h1 h2=>e k h1 (by lia),Tile.congr d fun k h1 h2=>e k (by lia) h2⟩
theorem K_ext {xs:Array Keyed} {i j q:Nat} (hj:j≤xs.size) (hq:i + q < j):K (xs.extract i j) q=K xs (i + q):=by
  apply K_congr
  rw[Array.getElem?_extract,if_pos (by lia)]
theorem ext_sz {xs:Array Keyed} {i j:Nat} (hj:j≤xs.size):(xs.extract i j).size=j - i:=by
  rw[Array.size_extract];lia
theorem Srt.ext {xs:Array Keyed} {i j:Nat} (h:Srt xs i j) (hj:j≤xs.size):Srt (xs.extract i j) 0 (xs.extract i j).size:=fun p q _ b c=>by
  rw[ext_sz hj] at c
  rw[K_ext hj (by lia),K_ext hj (by lia)]
  exact h _ _ (by lia) (by lia) (by lia)
theorem ext_mem {xs:Array Keyed} {i j:Nat} {p:Keyed} (h:p∈(xs.extract i j).toList):p∈xs.toList:=by
  rw[Array.toList_extract,List.extract_eq_take_drop] at h
  exact List.mem_of_mem_drop (List.mem_of_mem_take h)
theorem wr_get:∀(l:List Keyed) (n s:Nat) (a:Array Keyed),s + n + l.length≤a.size→(wrA a s (l.zipIdx n)).size=a.size∧∀q,(wrA a s (l.zipIdx n))[q]?=if s + n≤q∧q < s + n + l.length then l[q - (s + n)]? else a[q]?
  | [],n,s,a,_=>⟨rfl,fun q=>by rw[if_neg (by rw[List.length_nil];lia)];rfl⟩
  | p::l,n,s,a,h=>by
    rw[List.length_cons] at h
    have ih:=wr_get l (n + 1) s (a.setIfInBounds (s + n) p) (by rw[Array.size_setIfInBounds];lia)
    rw[List.zipIdx_cons]
    refine⟨by rw[←Array.size_setIfInBounds (xs:=a) (i:=s + n) (a:=p)];exact ih.1,fun q=>?_⟩
    refine (ih.2 q).trans ?_
    rw[List.length_cons]
    by_cases c1:s + n=q
    · subst c1
      rw[if_neg (by lia),if_pos (by lia),Nat.sub_self,Array.getElem?_setIfInBounds_self]
      rw[if_pos (by lia)];rfl
    · rw[Array.getElem?_setIfInBounds_ne c1]
      by_cases c2:s + n≤q∧q < s + n + (l.length + 1)
      · rw[if_pos c2,if_pos (by lia),show q - (s + n)=(q - (s + (n + 1))) + 1 by lia,List.getElem?_cons_succ]
      · rw[if_neg c2,if_neg (by lia)]
theorem wr_list {l:List Keyed} {s:Nat} {a:Array Keyed} (h:s + l.length≤a.size):(wrA a s l.zipIdx).toList=a.toList.take s++l++a.toList.drop (s + l.length):=by
  obtain⟨h1,h2⟩:=wr_get l 0 s a (by lia)
  apply List.ext_getElem?
  intro q
  rw[Array.getElem?_toList,h2]
  by_cases c1:q < s
  · rw[if_neg (by lia),List.append_assoc,List.getElem?_append_left (by rw[List.length_take];simp;lia),List.getElem?_take,if_pos c1,Array.getElem?_toList]
  · have e:(a.toList.take s).length=s:=by rw[List.length_take];simp;lia
    rw[List.append_assoc,List.getElem?_append_right (by lia),e]
    by_cases c2:q < s + l.length
    · rw[if_pos (by lia),List.getElem?_append_left (by lia)];rfl
    · rw[if_neg (by lia),List.getElem?_append_right (by lia),List.getElem?_drop,Array.getElem?_toList]
      congr 1;lia
theorem wr_K {r:Array Keyed} {s:Nat} {a:Array Keyed} (h:s + r.size≤a.size) (q:Nat):K (wrA a s r.toList.zipIdx) q=if s≤q∧q < s + r.size then K r (q - s) else K a q:=by
  have h2:=(wr_get r.toList 0 s a (by simpa using h)).2 q
  rw[Nat.add_zero,Array.length_toList] at h2
  split
  · rename_i c
    rw[if_pos c,Array.getElem?_toList] at h2
    exact K_congr h2
  · rename_i c
    rw[if_neg c] at h2
    exact K_congr h2
theorem split3 (l:List Keyed) (a b c:Nat) (h1:a≤b) (h2:b≤c) (hc:c≤l.length):l=l.take a++((l.take b).drop a++(l.take c).drop b)++l.drop c:=by
  have e1:(l.take b).drop a++(l.take c).drop b=(l.take c).drop a:=by
    have:l.take c=l.take b++(l.take c).drop b:=by
      have:=(List.take_append_drop b (l.take c)).symm
      rwa [List.take_take,Nat.min_eq_left h2] at this
    conv=>rhs;rw[this]
    rw[List.drop_append_of_le_length (by rw[List.length_take];lia)]
  rw[e1]
  have:l.take a++(l.take c).drop a=l.take c:=by
    have:=List.take_append_drop a (l.take c)
    rwa [List.take_take,Nat.min_eq_left (by lia)] at this
  rw[this,List.take_append_drop]
theorem pend_at {p:Array Rn} {i:Nat} {a b c:Rn} (e1:p[i]?=some a) (e2:p[i + 1]?=some b):∃l1 l2,p.toList=l1++a::b::l2∧l1.length=i∧((p.setIfInBounds i c).eraseIdxIfInBounds (i + 1)).toList=l1++c::l2:=by
  have hs:i + 1 < p.size:=by
    apply Classical.byContradiction
    intro z
    rw[Array.getElem?_eq_none (by lia)] at e2;cases e2
  rw[←Array.getElem?_toList] at e1 e2
  have e:p.toList=p.toList.take i++a::b::p.toList.drop (i + 2):=by
    have h1:p.toList.drop i=a::p.toList.drop (i + 1):=by
      rw[List.drop_eq_getElem_cons (by simp;lia)]
      rw[List.getElem?_eq_getElem (by simp;lia)] at e1
      rw[Option.some.inj e1]
    have h2:p.toList.drop (i + 1)=b::p.toList.drop (i + 2):=by
      rw[List.drop_eq_getElem_cons (by simp;lia)]
      rw[List.getElem?_eq_getElem (by simp;lia)] at e2
      rw[Option.some.inj e2]
    rw[←h2,←h1,List.take_append_drop]
  have ln:(p.toList.take i).length=i:=by rw[List.length_take];simp;lia
  refine⟨_,_,e,ln,?_⟩
  unfold Array.eraseIdxIfInBounds
  rw[dif_pos (by rw[Array.size_setIfInBounds];exact hs),Array.toList_eraseIdx,Array.toList_setIfInBounds]
  generalize p.toList.take i=l1 at e ln
  generalize p.toList.drop (i + 2)=l2 at e
  rw[e,List.set_append_right _ _ (by lia),ln,Nat.sub_self,List.set_cons_zero,List.eraseIdx_append_of_length_le (by lia),ln,show i + 1 - i=1 by lia]
  rfl
section
variable {prog:Program} {w:World} {A:Around} {E:Value→Shared→Prop} {s:Shared} {a₀:Array Keyed} {st:SortSt}
theorem wpS_set' {σ:Type} {M:Model} {z st:σ} {Q:PUnit→σ→Prop} (h:Q ⟨⟩ z):wpS M A E s (set z:StateT σ Sem PUnit) Q st:=by
  unfold wpS;rw[StateT.run_set];exact wpAny_pure ⟨rfl,h⟩
theorem TB.ints (h:TB a₀ st) (h0:IntKeys a₀):∀p∈(arrOf st).toList,isI p:=fun p hp=>h0 p ((Array.perm_iff_toList_perm.mp h.perm).mem_iff.mp hp)
theorem merged {a r:Array Keyed} {sa na nb k m:Nat} (hs:sa + na + nb≤a.size) (s1:Srt a sa (sa + na)) (s2:Srt a (sa + na) (sa + na + nb)) (hk:k < na) (hm:0 < m) (mn:m≤nb)
    (k2:∀i,i < k→K a (sa + i)≤K a (sa + na)) (k3:∀i,k≤i→i < na→K a (sa + na) < K a (sa + i)) (m2:∀i,i < m→K a (sa + na + i) < K a (sa + na - 1)) (m3:∀i,m≤i→i < nb→K a (sa + na - 1)≤K a (sa + na + i))
    (f:Fin2 (a.extract (sa + k) (sa + na)) (a.extract (sa + na) (sa + na + m)) r) :
    r.size=na - k + m∧(wrA a (sa + k) r.toList.zipIdx).Perm a∧Srt (wrA a (sa + k) r.toList.zipIdx) sa (sa + na + nb)∧∀q,(q < sa∨sa + na + nb≤q)→K (wrA a (sa + k) r.toList.zipIdx) q=K a q:=by
  have sz:r.size=na - k + m:=by
    have:=f.1.length_eq
    rw[List.length_append,Array.length_toList,Array.length_toList,Array.length_toList,ext_sz (by lia),ext_sz (by lia)] at this
    lia
  have rk:∀q,K (wrA a (sa + k) r.toList.zipIdx) q=if sa + k≤q∧q < sa + k + r.size then K r (q - (sa + k)) else K a q:=wr_K (by lia)
  have bd:∀q,q < r.size→K a (sa + na)≤K r q∧K r q≤K a (sa + na - 1):=fun q hq=>by
    obtain⟨p,_,hp,kp⟩:=K_get hq
    rw[kp]
    rcases List.mem_append.mp (f.1.mem_iff.mp hp) with z | z
    · obtain⟨n,_,h2,h3⟩:=mem_K (i:=0) (show p∈List.drop 0 _ from z)
      rw[ext_sz (by lia)] at h2
      rw[K_ext (by lia) (by lia)] at h3
      rw[←h3]
      have:=k3 (k + n) (by lia) (by lia)
      rw[←Nat.add_assoc] at this
      exact⟨Int.le_of_lt this,s1 _ _ (by lia) (by lia) (by lia)⟩
    · obtain⟨n,_,h2,h3⟩:=mem_K (i:=0) (show p∈List.drop 0 _ from z)
      rw[ext_sz (by lia)] at h2
      rw[K_ext (by lia) (by lia)] at h3
      rw[←h3]
      exact⟨s2 _ _ (by lia) (by lia) (by lia),Int.le_of_lt (m2 n (by lia))⟩
  have rs:∀p q,p≤q→q < r.size→K r p≤K r q:=fun p q h1 h2=>by
    by_cases c:p=q
    · subst c;exact Int.le_refl _
    · have:=List.pairwise_iff_getElem.mp f.2 p q (by simp;lia) (by simp;lia) (by lia)
      rw[K_eq (by lia),K_eq (by lia)]
      simpa [LeP,nm] using this
  have lowk:∀q,sa≤q→q < sa + k→K a q≤K a (sa + na):=fun q h1 h2=>by
    have:=k2 (q - sa) (by lia)
    rwa [show sa + (q - sa)=q by lia] at this
  have hik:∀q,sa + na + m≤q→q < sa + na + nb→K a (sa + na - 1)≤K a q:=fun q h1 h2=>by
    have:=m3 (q - (sa + na)) (by lia) (by lia)
    rwa [show sa + na + (q - (sa + na))=q by lia] at this
  refine⟨sz,?_,fun p q h1 h2 h3=>?_,fun q hq=>?_⟩
  · refine Array.perm_iff_toList_perm.mpr ?_
    rw[wr_list (by simp;lia)]
    have hl:a.toList.length=a.size:=Array.length_toList
    have e:=split3 a.toList (sa + k) (sa + na) (sa + na + m) (by lia) (by lia) (by lia)
    conv=>rhs;rw[e]
    rw[Array.length_toList,show sa + k + r.size=sa + na + m by lia]
    refine List.Perm.append_right _ (List.Perm.append_left _ ?_)
    have:=f.1
    rw[Array.toList_extract,Array.toList_extract,List.extract_eq_take_drop,List.extract_eq_take_drop] at this
    rwa [List.drop_take,List.drop_take]
  · rw[rk,rk]
    by_cases p1:p < sa + k
    · rw[if_neg (by lia)]
      by_cases q1:q < sa + k
      · rw[if_neg (by lia)];exact s1 _ _ h1 h2 (by lia)
      · by_cases q2:q < sa + k + r.size
        · rw[if_pos (by lia)]
          exact Int.le_trans (lowk p h1 p1) (bd _ (by lia)).1
        · rw[if_neg (by lia)]
          exact Int.le_trans (lowk p h1 p1) (s2 _ _ (by lia) (by lia) (by lia))
    · by_cases p2:p < sa + k + r.size
      · rw[if_pos (by lia)]
        by_cases q2:q < sa + k + r.size
        · rw[if_pos (by lia)]
          exact rs _ _ (by lia) (by lia)
        · rw[if_neg (by lia)]
          exact Int.le_trans (bd _ (by lia)).2 (hik q (by lia) h3)
      · rw[if_neg (by lia),if_neg (by lia)]
        exact s2 _ _ (by lia) h2 h3
  · rw[rk,if_neg (by lia)]
theorem t_mAt {i lo:Nat} {l1 l2:List Rn} {sa na pw sb nb z:Nat} {Q:Bool→SortSt→Prop} (h0:IntKeys a₀) (hB:TB a₀ st) (hlo:lo≤a₀.size) (ep:(pendingOf st).toList=l1++(sa,na,pw)::(sb,nb,z)::l2) (hi:i=l1.length) (tl:Tile (arrOf st) (pendingOf st).toList 0 lo)
    (q:∀st',TB a₀ st'→(pendingOf st').toList=l1++(sa,na + nb,pw)::l2→Tile (arrOf st') (pendingOf st').toList 0 lo→(∀k,lo≤k→K (arrOf st') k=K (arrOf st) k)→Q true st'):wpS (model prog w) A E s (mergeAt' i) Q st:=by
  have g1:(pendingOf st)[i]?=some (sa,na,pw):=by rw[←Array.getElem?_toList,ep,hi,List.getElem?_append_right (Nat.le_refl _),Nat.sub_self];rfl
  have g2:(pendingOf st)[i + 1]?=some (sb,nb,z):=by rw[←Array.getElem?_toList,ep,hi,List.getElem?_append_right (by lia),show l1.length + 1 - l1.length=1 by lia];rfl
  obtain⟨l1',l2',e1,e2,e3⟩:=pend_at (c:=(sa,na + nb,pw)) g1 g2
  rw[ep] at e1 tl
  obtain⟨rfl,ez⟩:=List.append_inj e1 (by lia)
  cases ez
  obtain⟨m0,t1,t2⟩:=Tile.app.mp tl
  obtain⟨rfl,n1,s1,rfl,n2,s2,t3⟩:=t2
  have lo3:=Tile.le t3
  have sz:=hB.size
  have is:=hB.ints h0
  obtain⟨pb,eb,hb,kb⟩:=K_get (xs:=arrOf st) (i:=sa + na) (by lia)
  have fin:∀st',TB a₀ st'→(pendingOf st').toList=l1++(sa,na + nb,pw)::l2→Srt (arrOf st') sa (sa + na + nb)→(∀k,(k < sa∨sa + na + nb≤k)→K (arrOf st') k=K (arrOf st) k)→Q true st':=fun st' hB' hp hs he=>by
    refine q st' hB' hp ?_ fun k hk=>he k (.inr (by lia))
    rw[hp]
    refine Tile.app.mpr ⟨sa,t1.congr fun k _ h=>he k (.inl h),rfl,by lia,by rw[←Nat.add_assoc];exact hs,?_⟩
    rw[←Nat.add_assoc]
    exact t3.congr fun k h _=>he k (.inr h)
  rw[mAt_eq]
  refine wpS_bind (wpS_get ?_)
  rw[g1,g2]
  dsimp only
  refine wpS_bind (wpS_set' ?_)
  refine wpS_bind (t_elem eb ?_)
  refine wpS_bind (t_galR hB.kind (is _ hb) is (by lia) (by lia) s1 fun k k1 k2 k3=>?_)
  rw[←kb] at k2 k3
  dsimp only
  by_cases c1:na - k=0
  · rw[if_pos (by simpa using c1)]
    refine wpS_pure (fin _ (hB.pend _) e3 (fun p q h1 h2 h3=>?_) fun _ _=>rfl)
    show K (arrOf st) p≤K (arrOf st) q
    by_cases a1:q < sa + na
    · exact s1 p q h1 h2 a1
    · by_cases a2:p < sa + na
      · have:=k2 (p - sa) (by lia)
        rw[show sa + (p - sa)=p by lia] at this
        exact Int.le_trans this (s2 _ _ (by lia) (by lia) h3)
      · exact s2 p q (by lia) h2 h3
  rw[if_neg (by simpa using c1)]
  have e9:sa + k + (na - k) - 1=sa + na - 1:=by lia
  rw[e9]
  obtain⟨px,ex,hx,kx⟩:=K_get (xs:=arrOf st) (i:=sa + na - 1) (by lia)
  refine wpS_bind (t_elem ex ?_)
  refine wpS_bind (t_galL hB.kind (is _ hx) is (by lia) (by lia) s2 fun m m1 m2 m3=>?_)
  rw[←kx] at m2 m3
  dsimp only
  by_cases c2:m=0
  · rw[if_pos (by simpa using c2)]
    refine wpS_pure (fin _ (hB.pend _) e3 (fun p q h1 h2 h3=>?_) fun _ _=>rfl)
    show K (arrOf st) p≤K (arrOf st) q
    by_cases a1:q < sa + na
    · exact s1 p q h1 h2 a1
    · by_cases a2:p < sa + na
      · have:=m3 (q - (sa + na)) (by lia) (by lia)
        rw[show sa + na + (q - (sa + na))=q by lia] at this
        exact Int.le_trans (s1 p (sa + na - 1) h1 (by lia) (by lia)) this
      · exact s2 p q (by lia) h2 h3
  rw[if_neg (by simpa using c2)]
  have xs:=ext_sz (xs:=arrOf st) (i:=sa + k) (j:=sa + na) (by lia)
  have ys:=ext_sz (xs:=arrOf st) (i:=sa + na) (j:=sa + na + m) (by lia)
  have sx:Srt ((arrOf st).extract (sa + k) (sa + na)) 0 ((arrOf st).extract (sa + k) (sa + na)).size:=Srt.ext (fun p q a b c=>s1 p q (by lia) b c) (by lia)
  have sy:Srt ((arrOf st).extract (sa + na) (sa + na + m)) 0 ((arrOf st).extract (sa + na) (sa + na + m)).size:=Srt.ext (fun p q a b c=>s2 p q (by lia) b (by lia)) (by lia)
  have b1:∀n,n < ((arrOf st).extract (sa + k) (sa + na)).size→K ((arrOf st).extract (sa + na) (sa + na + m)) 0 < K ((arrOf st).extract (sa + k) (sa + na)) n:=fun n hn=>by
    rw[xs] at hn
    rw[K_ext (by lia) (by lia),K_ext (by lia) (by lia),Nat.add_assoc sa k n]
    exact k3 _ (by lia) (by lia)
  have b2:∀n,n < ((arrOf st).extract (sa + na) (sa + na + m)).size→K ((arrOf st).extract (sa + na) (sa + na + m)) n < K ((arrOf st).extract (sa + k) (sa + na)) (((arrOf st).extract (sa + k) (sa + na)).size - 1):=fun n hn=>by
    rw[ys] at hn
    rw[xs,K_ext (by lia) (by lia),K_ext (by lia) (by lia),show sa + k + (sa + na - (sa + k) - 1)=sa + na - 1 by lia]
    exact m2 n (by lia)
  have last:∀r st',Gs (setPending st (((pendingOf st).setIfInBounds i (sa,na + nb,pw)).eraseIdxIfInBounds (i + 1))) st'→Fin2 ((arrOf st).extract (sa + k) (sa + na)) ((arrOf st).extract (sa + na) (sa + na + m)) r→
      wpS (model prog w) A E s (do
        modify fun z=>setArr z (wrA (arrOf z) (sa + k) r.toList.zipIdx)
        return (failedOf (←get)).isNone) Q st':=fun r st' gs f=>by
    have ga:arrOf st'=arrOf st:=gs.a
    obtain⟨_,r2,r3,r4⟩:=merged (a:=arrOf st) (by lia) s1 s2 (by lia) (by lia) m1 k2 k3 m2 m3 f
    rw[←ga] at r2 r3 r4
    have hB':TB a₀ (setArr st' (wrA (arrOf st') (sa + k) r.toList.zipIdx)):=⟨r2.trans (ga▸hB.perm),gs.k.trans hB.kind,gs.f.trans hB.ok⟩
    refine wpS_bind (wpS_modify ?_)
    refine wpS_bind (wpS_get ?_)
    rw[hB'.ok]
    exact wpS_pure (fin _ hB' (by rw[←e3];exact congrArg Array.toList gs.p) r3 fun q hq=>by rw[←ga];exact r4 q hq)
  by_cases c3:na - k≤m
  · rw[if_pos c3]
    refine wpS_bind ?_
    exact t_mLo hB.kind (fun p hp=>is p (ext_mem hp)) (fun p hp=>is p (ext_mem hp)) sx sy (by lia) (by lia) (Int.le_of_lt (b1 0 (by lia))) b2 last
  · rw[if_neg c3]
    refine wpS_bind ?_
    exact t_mHi hB.kind (fun p hp=>is p (ext_mem hp)) (fun p hp=>is p (ext_mem hp)) sx sy (by lia) (by lia) b1 (fun n hn=>Int.le_of_lt (b2 n hn)) last
theorem last_two {l:List Rn} (h:1 < l.length):∃l1 a b,l=l1++[a,b]∧l1.length=l.length - 2:=by
  refine⟨l.take (l.length - 2),l[l.length - 2]'(by lia),l[l.length - 1]'(by lia),?_,by rw[List.length_take];lia⟩
  have e1:l.drop (l.length - 2)=l[l.length - 2]'(by lia)::l.drop (l.length - 2 + 1):=List.drop_eq_getElem_cons (by lia)
  have e2:l.drop (l.length - 1)=l[l.length - 1]'(by lia)::l.drop (l.length - 1 + 1):=List.drop_eq_getElem_cons (by lia)
  rw[show l.drop (l.length - 1 + 1)=[] from List.drop_of_length_le (by lia)] at e2
  rw[show l.length - 2 + 1=l.length - 1 by lia,e2] at e1
  rw[←e1,List.take_append_drop]
theorem back_app {p:Array Rn} {a:Rn} (h:p.back?=some a):∃l,p.toList=l++[a]:=by
  rw[←Array.getLast?_toList] at h
  obtain⟨l,e⟩:=List.getLast?_eq_some_iff.mp h
  exact⟨l,e⟩
theorem mod_last {p:Array Rn} {l:List Rn} {a:Rn} {f:Rn→Rn} (h:p.toList=l++[a]):(p.modify (p.size - 1) f).toList=l++[f a]:=by
  have hs:p.size=l.length + 1:=by rw[←Array.length_toList,h,List.length_append];rfl
  rw[Array.toList_modify,hs,h,show l.length + 1 - 1=l.length by lia]
  apply List.ext_getElem?
  intro i
  rw[List.getElem?_modify]
  by_cases c:i < l.length
  · rw[List.getElem?_append_left c,List.getElem?_append_left c]
    have:¬ l.length=i:=by lia
    simp only[this,if_false]
    exact id_map _
  · rw[List.getElem?_append_right (by lia),List.getElem?_append_right (by lia)]
    by_cases c1:l.length=i
    · subst c1
      simp only[if_true,Nat.sub_self];rfl
    · simp only[c1,if_false]
      rw[show i - l.length=(i - l.length - 1) + 1 by lia]
      rfl
structure Rns (a₀:Array Keyed) (lo:Nat) (st:SortSt):Prop where
  tb:TB a₀ st
  hi:lo≤a₀.size
  tl:Tile (arrOf st) (pendingOf st).toList 0 lo
theorem t_runs {Q:Unit→SortSt→Prop} (h0:IntKeys a₀) (hB:TB a₀ st) (hp:pendingOf st=#[]) (h:∀st',(arrOf st').Perm a₀→failedOf st'=none→SortedTo (arrOf st') a₀.size→Q () st'):wpS (model prog w) A E s sortRuns' Q st:=by
  rw[sortRuns'_eq]
  refine wpS_bind (wpS_get ?_)
  dsimp only
  generalize minRun' (arrOf st).size (arrOf st).size 0=mr
  simp only[hB.size]
  refine wpS_bind (wpS_mono (wpS_forRange (I:=fun x c st'=>∃lo,c=(none,lo)∧Rns a₀ lo st'∧min x a₀.size≤lo) (Q:=fun c st'=>c=(none,a₀.size)∧Rns a₀ a₀.size st') ?step ?fin ⟨0,rfl,⟨hB,by lia,by rw[hp];rfl⟩,by lia⟩) ?post)
  case fin=>
    rintro c st' ⟨lo,rfl,R,hx⟩
    have:=R.hi
    rw[show lo=a₀.size by lia] at R ⊢
    exact⟨rfl,R⟩
  case step=>
    rintro x c st' _ hx ⟨lo,rfl,R,hlo⟩
    dsimp only
    have hi:=R.hi
    by_cases c1:lo ≥ a₀.size
    · rw[if_pos c1]
      rw[show lo=a₀.size by lia] at R ⊢
      exact wpS_pure ⟨rfl,R⟩
    rw[if_neg c1]
    refine wpS_bind (t_count (lo:=lo) h0 (by lia) (by lia) R.tb fun n st2 b2 n1 n2 sn=>?_)
    dsimp only
    refine wp_ite (fun c2=>wpS_bind (wpS_lift (wpAny_rule ⟨rfl,wpS_bind (t_bin (lo:=lo) h0 (by lia) (by lia) b2.tb sn fun st3 b3 s3=>?_)⟩))) fun c2=>?_
    rotate_left
    all_goals first
      | (have q1:1≤min (a₀.size - lo) mr:=by lia
         have q2:lo + min (a₀.size - lo) mr≤a₀.size:=by lia
         have b4:=b2.tr b3
         simp only[Bool.not_true,Bool.false_eq_true,if_false]
         clear c2 b2 b3 sn n1 n2
         generalize min (a₀.size - lo) mr=n' at q1 q2 s3 ⊢)
      | (have q1:=n1
         have q2:lo + n≤a₀.size:=by lia
         have b4:=b2
         have s3:=sn
         clear c2 b2 sn n1 n2
         generalize n=n' at q1 q2 s3 ⊢
         generalize st2=st3 at s3 b4 ⊢)
    all_goals
      have R2:Rns a₀ lo st3:=⟨b4.tb,hi,by rw[b4.pe];exact R.tl.congr fun k _ hk=>b4.eq k hk⟩
      have fin:∀st4,Rns a₀ lo st4→Srt (arrOf st4) lo (lo + n')→Rns a₀ (lo + n') (setPending st4 ((pendingOf st4).push (lo,n',0))):=fun st4 R3 s4=>⟨R3.tb.pend _,q2,by
        show Tile (arrOf st4) ((pendingOf st4).push (lo,n',0)).toList 0 (lo + n')
        rw[Array.toList_push]
        exact Tile.app.mpr ⟨lo,R3.tl,rfl,q1,s4,rfl⟩⟩
      refine wpS_bind (wpS_get ?_)
      cases e:(pendingOf st3).back? with
      | none=>
        dsimp only
        exact wpS_bind (wpS_modify (wpS_pure ⟨_,rfl,fin _ R2 s3,by lia⟩))
      | some a=>
        obtain⟨s1,l1,z1⟩:=a
        dsimp only
        generalize power' a₀.size (2 * s1 + l1) (2 * s1 + l1 + l1 + n') a₀.size=pw
        refine wpS_bind (wpS_mono (wpS_forRange (I:=fun _ c st4=>c=(none,())∧Rns a₀ lo st4∧Srt (arrOf st4) lo (lo + n')∧1≤(pendingOf st4).size) (Q:=fun c st4=>c=(none,())∧Rns a₀ lo st4∧Srt (arrOf st4) lo (lo + n')∧1≤(pendingOf st4).size) ?st ?fi ⟨rfl,R2,s3,?_⟩) ?po)
        case fi=>exact fun c st4 h=>h
        case st=>
          rintro m c st4 _ hm ⟨rfl,R3,s4,p3⟩
          try dsimp only
          refine wpS_bind (wpS_get ?_)
          by_cases c2:(pendingOf st4).size > 1
          · rw[if_pos c2]
            obtain⟨l,a,b,el,ll⟩:=last_two (l:=(pendingOf st4).toList) (by simpa using c2)
            obtain⟨sa,na,pa⟩:=a
            obtain⟨sb,nb,pb⟩:=b
            replace ll:l.length=(pendingOf st4).size - 2:=ll.trans (by rw[Array.length_toList])
            have ge:(pendingOf st4)[(pendingOf st4).size - 2]?=some (sa,na,pa):=by rw[←Array.getElem?_toList,el,List.getElem?_append_right (by lia),ll,Nat.sub_self];rfl
            rw[ge]
            dsimp only
            refine wp_ite (fun _=>wpS_pure ⟨rfl,R3,s4,p3⟩) fun _=>?_
            refine wpS_bind (t_mAt h0 R3.tb R3.hi el ll.symm R3.tl fun st5 hB5 hp5 ht5 hk5=>?_)
            simp only[Bool.not_true,Bool.false_eq_true,if_false]
            refine wpS_pure ⟨rfl,⟨hB5,R3.hi,ht5⟩,s4.congr fun k h1 _=>hk5 k h1,?_⟩
            rw[←Array.length_toList,hp5,List.length_append,List.length_cons];lia
          · rw[if_neg c2]
            exact wpS_pure ⟨rfl,R3,s4,p3⟩
        case po=>
          rintro c st4 ⟨rfl,R3,s4,p3⟩
          dsimp only
          obtain⟨a,ea⟩:∃a,(pendingOf st4).back?=some a:=⟨(pendingOf st4)[(pendingOf st4).size - 1]'(by lia),by rw[Array.back?_eq_getElem?,getElem?_pos _ _ (by lia)]⟩
          obtain⟨l,el⟩:=back_app ea
          obtain⟨u,v,z⟩:=a
          have R4:Rns a₀ lo (setPending st4 ((pendingOf st4).modify ((pendingOf st4).size - 1) fun (u,v,_)=>(u,v,pw))):=⟨R3.tb.pend _,hi,by
            show Tile (arrOf st4) ((pendingOf st4).modify ((pendingOf st4).size - 1) fun (u,v,_)=>(u,v,pw)).toList 0 lo
            rw[mod_last el]
            have:=R3.tl
            rw[el] at this
            obtain⟨m,t1,t2⟩:=Tile.app.mp this
            exact Tile.app.mpr ⟨m,t1,t2⟩⟩
          exact wpS_bind (wpS_modify (wpS_bind (wpS_modify (wpS_pure ⟨_,rfl,fin _ R4 s4,by lia⟩))))
        · rw[←Array.length_toList]
          obtain⟨l,el⟩:=back_app e
          rw[el,List.length_append]
          exact Nat.le_add_left _ _
  case post=>
    rintro c st' ⟨rfl,R⟩
    dsimp only
    refine wpS_bind (wpS_mono (wpS_forRange (I:=fun x c st2=>c=(none,())∧Rns a₀ a₀.size st2∧((pendingOf st2).size≤1∨(pendingOf st2).size + x≤a₀.size)) (Q:=fun c st2=>c=(none,())∧Rns a₀ a₀.size st2∧(pendingOf st2).size≤1) ?st ?fi ⟨rfl,R,.inr ?_⟩) ?po)
    case fi=>
      rintro c st2 ⟨rfl,R2,hx⟩
      refine⟨rfl,R2,?_⟩
      rcases hx with hx | hx
      · exact hx
      · lia
    case po=>
      rintro c st2 ⟨rfl,R2,hx⟩
      refine wpS_pure (h st2 R2.tb.perm R2.tb.ok fun i j hij hj=>?_)
      have:=R2.tl
      rw[←Array.length_toList] at hx
      match e:(pendingOf st2).toList,hx with
      | [],_=>
        rw[e] at this
        have:0=a₀.size:=this
        lia
      | [(u,v,z)],_=>
        rw[e] at this
        obtain⟨rfl,_,sv,ev⟩:=this
        exact sv i j (by lia) hij (by have:0 + v=a₀.size:=ev;lia)
      | _::_::_,hx=>rw[List.length_cons,List.length_cons] at hx;lia
    case st=>
      rintro x c st2 _ hx ⟨rfl,R2,hp⟩
      refine wpS_bind (wpS_get ?_)
      by_cases c1:(pendingOf st2).size≤1
      · rw[if_pos c1]
        exact wpS_pure ⟨rfl,R2,c1⟩
      rw[if_neg c1]
      have hp':=hp.resolve_left c1
      generalize hb:(if (pendingOf st2).size - 2 > 0 then Option.map (fun x=>x.2.1) (pendingOf st2)[(pendingOf st2).size - 2 - 1]? else none)=bf
      obtain⟨i,hii⟩:∃i,i=(if Option.any (fun x=>decide (x < (pendingOf st2)[(pendingOf st2).size - 2 + 1]?.elim 0 fun x=>x.snd.fst)) bf=true then (pendingOf st2).size - 2 - 1 else (pendingOf st2).size - 2):=⟨_,rfl⟩
      have hi:i + 1 < (pendingOf st2).size:=by rw[hii];split <;> lia
      rw[←hii]
      clear hii
      have gi:=getElem?_pos (pendingOf st2) i (by lia)
      have gj:=getElem?_pos (pendingOf st2) (i + 1) (by lia)
      obtain⟨l1,l2,e1,e2,_⟩:=pend_at (c:=(0,0,0)) gi gj
      generalize (pendingOf st2)[i]=a at e1
      generalize (pendingOf st2)[i + 1]=b at e1
      obtain⟨sa,na,pa⟩:=a
      obtain⟨sb,nb,pb⟩:=b
      refine wpS_bind (t_mAt h0 R2.tb R2.hi e1 e2.symm R2.tl fun st4 hB4 hp4 ht4 hk4=>?_)
      simp only[Bool.not_true,Bool.false_eq_true,if_false]
      refine wpS_pure ⟨rfl,⟨hB4,R2.hi,ht4⟩,.inr ?_⟩
      have n1:(pendingOf st2).size=l1.length + (l2.length + 2):=by rw[←Array.length_toList,e1,List.length_append];rfl
      have n2:(pendingOf st4).size=l1.length + (l2.length + 1):=by rw[←Array.length_toList,hp4,List.length_append];rfl
      lia
    · have:=R.tl.le
      rw[Array.length_toList] at this
      lia
end
section
variable {prog:Program} {w:World} {A:Around} {E:Value→Shared→Prop} {s:Shared}
theorem t_sort {b:Addr} {us:List Value} {ks:List Int} {c:Nat} {P:Fin→Shared→Prop} (at0:s.heap.get? b=some (seqObj "list" us.toArray c)) (ii:IntsAre us ks) (two:2≤us.length) (few:us.length≤1000)
    (q:∀(o:Array Value) (ms:List Int),IntsAre o.toList ms→ms.Perm ks→ms.Pairwise (·≤·)→P (.done (.ret .none)) { s with heap:=sortedHeap s.heap b us o }):wpAny (model prog w) A (Builtin.«list.sort» ⟨[.ref b],[]⟩) P E s:=by
  obtain⟨u1,u2,r,rfl⟩:∃u1 u2 r,us=u1::u2::r:=by
    match us,two with
    | u1::u2::r,_=>exact⟨u1,u2,r,rfl⟩
    | [_],h=>exact absurd (show 2≤1 from h) (by decide)
    | [],h=>exact absurd h (by decide)
  have big:¬ (u1::u2::r).toArray.size < 2:=by simp
  have fit:(u1::u2::r).length≤sizeLine:=by rw[sizeLine_eq];lia
  have bl:=Heap.lt_size at0
  rw[list_sort_plain]
  refine wpAny_bind (listItems_at at0 rfl (wpAny_bind (listUpdate_at at0 rfl ?_ (hsz:=by simpa using fit))))
  obtain⟨c1,at1⟩:∃c1,(s.heap.update b (Obj.mapSeq fun _=>#[])).get? b=some (seqObj "list" #[] c1):=⟨_,get?_update_seq at0 (fun _=>#[])⟩
  refine wpAny_bind (seqEpoch_at at1 rfl (wpAny_bind (wpAny_newTuple (wpAny_bind (wpAny_newList (wpAny_holding ?_))) (by simpa using fit))))
  obtain⟨hp,ehp⟩:∃hp,hp=((s.heap.update b (Obj.mapSeq fun _=>#[])).push (seqObj "tuple" (u1::u2::r).toArray 0)).push (seqObj "list" #[] 0):=⟨_,rfl⟩
  have at6:hp.get? b=some (seqObj "list" #[] c1):=by
    rw[ehp]
    refine Eq.trans (Heap.get?_push_ne _ _ _ ?_) (Eq.trans (Heap.get?_push_ne _ _ _ ?_) at1)
    · rw[size_push',Heap.size_update];exact Nat.ne_of_lt (Nat.lt_succ_of_lt bl)
    · rw[Heap.size_update];exact Nat.ne_of_lt bl
  show wpAny (model prog w) A _ P E { s with heap:=((s.heap.update b (Obj.mapSeq fun _=>#[])).push (seqObj "tuple" (u1::u2::r).toArray 0)).push (seqObj "list" #[] 0) }
  have eh:∀o,sortedHeap s.heap b (u1::u2::r) o=hp.update b (Obj.mapSeq fun _=>o):=fun o=>by rw[ehp];rfl
  rw[←ehp]
  dsimp only
  rw[if_neg big,if_neg big,keyKind_ints ii]
  refine wpAny_bind (wpAny_pure (wpAny_bind (wpAny_mono (t_runs (a₀:=pairsOf (u1::u2::r)) (st:=SortSt.mk' oneType' ((u1::u2::r).toArray.zip (u1::u2::r).toArray) #[] 7 none)
    (Q:=fun _ z=>(arrOf z).Perm (pairsOf (u1::u2::r))∧failedOf z=none∧SortedTo (arrOf z) (pairsOf (u1::u2::r)).size) ii.intKeys ⟨Array.Perm.refl _,rfl,rfl⟩ rfl fun z a1 a2 a3=>⟨a1,a2,a3⟩) ?_ fun _ _ e=>e)))
  rintro ⟨⟨⟩,z⟩ s' ⟨rfl,zp,zf,zs⟩
  dsimp only
  refine wpAny_bind (seqEpoch_at at6 rfl (wpAny_bind (listUpdate_at at6 rfl ?_ (hsz2:=?_))))
  · rw[zf]
    simp only[bne_self_eq_false,Bool.false_eq_true,if_false]
    obtain⟨ms,m1,m2,m3⟩:=sorted_out ii zp zs
    have:=q _ ms m1 m2 m3
    rw[eh] at this
    exact wpAny_pure this
  · have:=zp.size_eq
    rw[pairsOf_size] at this
    rw[Array.size_map,this];lia
theorem t_sorted {l:Addr} {us:List Value} {ks:List Int} {Q:Value→Shared→Prop} (hl:s.heap.IsList l us.toArray) (ii:IntsAre us ks) (few:us.length≤1000)
    (q:∀(o:Array Value) (ms:List Int),IntsAre o.toList ms→ms.Perm ks→ms.Pairwise (·≤·)→Q (.ref (s.heap.objs.size + 1)) { s with heap:=sortedAll s.heap us o }):wpAny (model prog w) A (call (.builtin "sorted") [.ref l]) Q E s:=by
  by_cases c:us.length < 64
  · exact sorted_ints hl ii c q
  have fit:us.length≤sizeLine:=by rw[sizeLine_eq];lia
  refine Calls.call_function_entry kind_sorted plain_sorted entry_sorted (args_sorted1 _) ?_
  unfold Builtin.«sorted»
  refine wpAny_bind (m:=checkCount "sorted" 1 1 _) (wpAny_pure (wpAny_bind (collect_list hl (wpAny_bind (wpAny_newList ?_ fit)) fit)))
  obtain⟨g,eg⟩:∃g,g=(s.heap.push (seqObj "list" #[] 0)).update s.heap.objs.size (Obj.mapSeq (·++us.toArray)):=⟨_,rfl⟩
  have gs:g.objs.size=s.heap.objs.size + 1:=by rw[eg,Heap.size_update,size_push']
  have at0:(g.push (seqObj "list" us.toArray 0)).get? (s.heap.objs.size + 1)=some (seqObj "list" us.toArray 0):=by rw[←gs];exact Heap.get?_push_size _ rfl
  have es:∀o,sortedAll s.heap us o=sortedHeap (g.push (seqObj "list" us.toArray 0)) (s.heap.objs.size + 1) us o:=fun o=>by rw[eg];rfl
  show wpAny _ _ _ _ _ { s with heap:=((s.heap.push (seqObj "list" #[] 0)).update s.heap.objs.size (Obj.mapSeq (·++us.toArray))).push (seqObj "list" us.toArray 0) }
  rw[←eg,gs]
  refine wpAny_bind (wpAny_holding (wpAny_call_entry slot_list_sort ⟨_,at0,rfl⟩ entry_list_sort (t_sort at0 ii (by lia) few fun o ms m1 m2 m3=>⟨_,rfl,?_⟩) (args_list_sort _)))
  have:=q o ms m1 m2 m3
  rw[es] at this
  exact wpAny_pure ⟨_,rfl,this⟩
end
section
variable {X:Cx}
theorem call_sortedL (_:X.calm=true):CallR X (.builtin "sorted") (fun xs H Q=>∃(p:Addr) (ns:List Int),xs=[.ref p]∧SqL X.K H p (ns.map V.int)∧ns.length≤1000∧∀(l:Addr) (ms:List Int),H l=none→ms.Perm ns→ms.Pairwise (·≤·)→Q (.ref l) (upd H l (.lst (ms.map V.int)))):=by
  intro pins s σ H xs us Q I r h
  obtain⟨p,ns,rfl,hq,hn,q⟩:=h
  obtain⟨u,rfl,rx⟩:=vals1 r
  cases rx
  obtain⟨its,rv,pl,hz⟩:=I.list hq
  have hl:its.length≤1000:=by rw[←rv.length,List.length_map];exact hn
  refine t_sorted pl.isList (intsAre_of rv) hl fun out ms a1 a2 a3=>?_
  obtain⟨e,he⟩:=sortedAll_at s.heap its out
  have hk:∀b o,s.heap.get? b=some o→(sortedAll s.heap its out).get? b=some o:=fun _ _ z=>sortedAll_old z
  have hv:Vals (ms.map V.int) out.toList:=vals_ints a1
  refine⟨.ref (s.heap.objs.size + 1),_,I.laid (t':=s.toks) hk (Nat.le_succ _) (show ObjOk X.prog X.w _ _ _ (.lst (ms.map V.int)) from ⟨?_,out.toList,e,hv,by simpa [seqObj] using he⟩),rfl,q _ ms (I.hok.fresh (Nat.le_succ _)) a2 a3⟩
  rw[List.length_map,a2.length_eq,sizeLine_eq]
  lia
end
end L2
namespace My
open PySem L2
section
variable {X:Cx} {C:DC} {e:Expr} {ta:DE}
def dSortL (ta:DE)  (ρ:List Sl) (Q:List PyData→List Sl→Prop):Prop:=ta ρ fun a ρ'=>∃ns:List Int,a=.list (ns.map PyData.int)∧ns.length≤1000∧∀ms:List Int,ms.Perm ns→ms.Pairwise (·≤·)→Q (ms.map PyData.int) ρ'
theorem pf_sortL {K:PySem.W.Frag} (h:PE X e (tCB (fun xs H Q=>∃(p:Addr) (ns:List Int),xs=[.ref p]∧SqL K H p (ns.map V.int)∧ns.length≤1000∧∀(l:Addr) (ms:List Int),H l=none→ms.Perm ns→ms.Pairwise (·≤·)→Q (.ref l) (upd H l (.lst (ms.map V.int)))) (tCons (eOf C ta) tNil))):PE X e (fOf C (dSortL ta)):=PE.wk h fun _ _ _ ⟨ρ,P,_,R,ht,k⟩=>⟨ρ,P,_,R,ht,fun v d ρ' H' ⟨col,r⟩ q=>by
  obtain⟨ns,rfl,hn,q⟩:=q
  have t:ThV (Z col) H' v (.list (ns.map PyData.int)):=r.pd _ List.mem_cons_self
  cases t with
  | lst _ e t=>
    cases ints_of_th t
    exact⟨_,ns,rfl,SqL.of e,hn,fun l ms hl hp hw=>k _ _ _ _ _ ⟨col,r.sub fun _ h=>List.mem_cons_of_mem _ h,th_ints ms⟩ hl (q ms hp hw)⟩⟩
end
theorem us_c {us:List Value} {n:Nat} (h:us.length=n + 1):∃a r,us=a::r∧r.length=n:=by
  cases us with
  | nil=>cases h
  | cons a r=>exact⟨a,r,rfl,Nat.succ.inj h⟩
theorem usl0 {us:List Value} (h:us.length=0):us=[]:=by
  cases List.eq_nil_of_length_eq_zero h
  exact rfl
theorem usl1 {us:List Value} (h:us.length=1):∃a0,us=[a0]:=by
  obtain⟨a0,u0,rfl,h0⟩:=us_c h
  cases List.eq_nil_of_length_eq_zero h0
  exact⟨a0,rfl⟩
theorem usl2 {us:List Value} (h:us.length=2):∃a0 a1,us=[a0,a1]:=by
  obtain⟨a0,u0,rfl,h0⟩:=us_c h
  obtain⟨a1,u1,rfl,h1⟩:=us_c h0
  cases List.eq_nil_of_length_eq_zero h1
  exact⟨a0,a1,rfl⟩
theorem usl3 {us:List Value} (h:us.length=3):∃a0 a1 a2,us=[a0,a1,a2]:=by
  obtain⟨a0,u0,rfl,h0⟩:=us_c h
  obtain⟨a1,u1,rfl,h1⟩:=us_c h0
  obtain⟨a2,u2,rfl,h2⟩:=us_c h1
  cases List.eq_nil_of_length_eq_zero h2
  exact⟨a0,a1,a2,rfl⟩
theorem usl4 {us:List Value} (h:us.length=4):∃a0 a1 a2 a3,us=[a0,a1,a2,a3]:=by
  obtain⟨a0,u0,rfl,h0⟩:=us_c h
  obtain⟨a1,u1,rfl,h1⟩:=us_c h0
  obtain⟨a2,u2,rfl,h2⟩:=us_c h1
  obtain⟨a3,u3,rfl,h3⟩:=us_c h2
  cases List.eq_nil_of_length_eq_zero h3
  exact⟨a0,a1,a2,a3,rfl⟩
theorem usl5 {us:List Value} (h:us.length=5):∃a0 a1 a2 a3 a4,us=[a0,a1,a2,a3,a4]:=by
  obtain⟨a0,u0,rfl,h0⟩:=us_c h
  obtain⟨a1,u1,rfl,h1⟩:=us_c h0
  obtain⟨a2,u2,rfl,h2⟩:=us_c h1
  obtain⟨a3,u3,rfl,h3⟩:=us_c h2
  obtain⟨a4,u4,rfl,h4⟩:=us_c h3
  cases List.eq_nil_of_length_eq_zero h4
  exact⟨a0,a1,a2,a3,a4,rfl⟩
theorem usl6 {us:List Value} (h:us.length=6):∃a0 a1 a2 a3 a4 a5,us=[a0,a1,a2,a3,a4,a5]:=by
  obtain⟨a0,u0,rfl,h0⟩:=us_c h
  obtain⟨a1,u1,rfl,h1⟩:=us_c h0
  obtain⟨a2,u2,rfl,h2⟩:=us_c h1
  obtain⟨a3,u3,rfl,h3⟩:=us_c h2
  obtain⟨a4,u4,rfl,h4⟩:=us_c h3
  obtain⟨a5,u5,rfl,h5⟩:=us_c h4
  cases List.eq_nil_of_length_eq_zero h5
  exact⟨a0,a1,a2,a3,a4,a5,rfl⟩
theorem usl7 {us:List Value} (h:us.length=7):∃a0 a1 a2 a3 a4 a5 a6,us=[a0,a1,a2,a3,a4,a5,a6]:=by
  obtain⟨a0,u0,rfl,h0⟩:=us_c h
  obtain⟨a1,u1,rfl,h1⟩:=us_c h0
  obtain⟨a2,u2,rfl,h2⟩:=us_c h1
  obtain⟨a3,u3,rfl,h3⟩:=us_c h2
  obtain⟨a4,u4,rfl,h4⟩:=us_c h3
  obtain⟨a5,u5,rfl,h5⟩:=us_c h4
  obtain⟨a6,u6,rfl,h6⟩:=us_c h5
  cases List.eq_nil_of_length_eq_zero h6
  exact⟨a0,a1,a2,a3,a4,a5,a6,rfl⟩
theorem usl8 {us:List Value} (h:us.length=8):∃a0 a1 a2 a3 a4 a5 a6 a7,us=[a0,a1,a2,a3,a4,a5,a6,a7]:=by
  obtain⟨a0,u0,rfl,h0⟩:=us_c h
  obtain⟨a1,u1,rfl,h1⟩:=us_c h0
  obtain⟨a2,u2,rfl,h2⟩:=us_c h1
  obtain⟨a3,u3,rfl,h3⟩:=us_c h2
  obtain⟨a4,u4,rfl,h4⟩:=us_c h3
  obtain⟨a5,u5,rfl,h5⟩:=us_c h4
  obtain⟨a6,u6,rfl,h6⟩:=us_c h5
  obtain⟨a7,u7,rfl,h7⟩:=us_c h6
  cases List.eq_nil_of_length_eq_zero h7
  exact⟨a0,a1,a2,a3,a4,a5,a6,a7,rfl⟩
def top (i:Nat):Stmt:=PySem.Challenge.pw_trudge_k85_needs_small.main.body.getD i (.Pass ⟨0,0,0,0⟩)
abbrev s_is_whole:Stmt:=top 4
abbrev s_stepped:Stmt:=top 5
abbrev s_levels_along:Stmt:=top 6
abbrev s_is_place:Stmt:=top 13
abbrev s_changes_of:Stmt:=top 14
abbrev s_base_at:Stmt:=top 18
abbrev s_has_enough:Stmt:=top 19
abbrev s_effect_of_none:Stmt:=top 24
abbrev s_effect_of_one:Stmt:=top 25
abbrev s_effect_of:Stmt:=top 26
abbrev s_passed:Stmt:=top 27
abbrev s_joined:Stmt:=top 28
abbrev s_is_more:Stmt:=top 30
abbrev s_behind_way:Stmt:=top 31
abbrev s_first_row:Stmt:=top 37
abbrev s_row_behind:Stmt:=top 38
abbrev s_walk_to:Stmt:=top 39
abbrev s_behind_ways:Stmt:=top 43
abbrev s_behind_part:Stmt:=top 44
abbrev s_end_of:Stmt:=top 45
abbrev s_rows_from:Stmt:=top 47
abbrev s_still_rises:Stmt:=top 48
abbrev s_rising_walk:Stmt:=top 49
abbrev s_parted_at_round:Stmt:=top 50
abbrev s_parts_by:Stmt:=top 51
abbrev s_filling_parts:Stmt:=top 52
abbrev s_settled:Stmt:=top 53
abbrev s_highest:Stmt:=top 54
abbrev s_alone:Stmt:=top 58
abbrev s_numbers_in:Stmt:=top 59
abbrev s_level_by_spring:Stmt:=top 60
abbrev s_base_by:Stmt:=top 61
abbrev s_highest_by:Stmt:=top 62
abbrev s_is_part:Stmt:=top 66
abbrev s_needs_of:Stmt:=top 67
abbrev s_hand:Stmt:=top 69
abbrev s_next:Stmt:=top 70
abbrev s_take:Stmt:=top 71
abbrev s_draw:Stmt:=top 72
abbrev s_change:Stmt:=top 73
abbrev s_land:Stmt:=top 74
abbrev s_springs:Stmt:=top 76
abbrev s_by_sets:Stmt:=top 77
abbrev s_needs:Stmt:=top 78
abbrev s_walker:Stmt:=top 79
abbrev s_law_is_whole:Stmt:=top 80
abbrev s_are_needs:Stmt:=top 81
abbrev s_law:Stmt:=top 82
structure FT (K:PySem.W.Frag) (mg:Str→Option Value) (nm:Str) (st:Stmt) (ps:List Str) where
  a:Addr
  d:FuncData
  F:Fun K nm nm st a d
  m:mg nm=some (.ref a)
  b:Binds K d ps []
def FH (K:PySem.W.Frag) (nm:Str) (st:Stmt):Prop:=∃f,PySem.W.nsIn K mainGlobals nm=some (some (.ref f))∧∃fd,Fun K nm nm st f fd
theorem FT.of {K:PySem.W.Frag} {mg:Str→Option Value} {nm:Str} {st:Stmt} {ps:List Str} {h:Heap} (X:K.In h) (G:h.Ns mainGlobals mg) (H:FH K nm st) (hb:∀(kV doc pm:Value) (an:Option Addr) (cdv ct:Value) (us:List Value),us.length=ps.length→bindArgs (PySem.W.fnOf nm nm (defArgs st) (defBody st) (defScope st) .none kV doc pm an cdv ct) ⟨us,[]⟩=pure (ps.zip us)):Nonempty (FT K mg nm st ps):=by
  obtain⟨f,a,fd,F⟩:=H
  exact⟨⟨f,fd,F,PySem.W.mg_of X G a,F.binds hb⟩⟩
set_option genInjectivity false in
set_option genSizeOf false in
structure Txt (K:PySem.W.Frag) (mg:Str→Option Value) where
  n_abs:mg "abs" = none
  n_all:mg "all" = none
  n_any:mg "any" = none
  n_bool:mg "bool" = none
  n_enumerate:mg "enumerate" = none
  n_int:mg "int" = none
  n_isinstance:mg "isinstance" = none
  n_len:mg "len" = none
  n_list:mg "list" = none
  n_max:mg "max" = none
  n_min:mg "min" = none
  n_range:mg "range" = none
  n_reversed:mg "reversed" = none
  n_sorted:mg "sorted" = none
  t_MANY:Tok
  mg_MANY:mg "MANY" = some (.int 0 t_MANY)
  t_WAYS:Tok
  mg_WAYS:mg "WAYS" = some (.int 1 t_WAYS)
  t_START:Tok
  mg_START:mg "START" = some (.int 0 t_START)
  t_END:Tok
  mg_END:mg "END" = some (.int 1 t_END)
  t_CHANGE:Tok
  mg_CHANGE:mg "CHANGE" = some (.int 2 t_CHANGE)
  t_PLACE_spots:Tok
  mg_PLACE_spots:mg "PLACE_spots" = some (.int 0 t_PLACE_spots)
  t_LEVEL:Tok
  mg_LEVEL:mg "LEVEL" = some (.int 1 t_LEVEL)
  t_LEAST:Tok
  mg_LEAST:mg "LEAST" = some (.int 0 t_LEAST)
  t_GAIN:Tok
  mg_GAIN:mg "GAIN" = some (.int 1 t_GAIN)
  t_TOP:Tok
  mg_TOP:mg "TOP" = some (.int 2 t_TOP)
  t_TABLE:Tok
  mg_TABLE:mg "TABLE" = some (.int 0 t_TABLE)
  t_RISEN:Tok
  mg_RISEN:mg "RISEN" = some (.int 1 t_RISEN)
  t_FROM:Tok
  mg_FROM:mg "FROM" = some (.int 0 t_FROM)
  t_BY:Tok
  mg_BY:mg "BY" = some (.int 1 t_BY)
  t_NUMBERS:Tok
  mg_NUMBERS:mg "NUMBERS" = some (.int 0 t_NUMBERS)
  t_TIMES:Tok
  mg_TIMES:mg "TIMES" = some (.int 1 t_TIMES)
  t_PLACE_springs:Tok
  mg_PLACE_springs:mg "PLACE_springs" = some (.int 0 t_PLACE_springs)
  t_GIFT:Tok
  mg_GIFT:mg "GIFT" = some (.int 1 t_GIFT)
  t_BEGIN:Tok
  mg_BEGIN:mg "BEGIN" = some (.int 0 t_BEGIN)
  t_GOAL:Tok
  mg_GOAL:mg "GOAL" = some (.int 1 t_GOAL)
  f_is_whole:FT K mg "is_whole" s_is_whole ["thing"]
  f_stepped:FT K mg "stepped" s_stepped ["store", "level", "change"]
  f_levels_along:FT K mg "levels_along" s_levels_along ["store", "level", "changes"]
  f_is_place:FT K mg "is_place" s_is_place ["many", "thing"]
  f_changes_of:FT K mg "changes_of" s_changes_of ["land", "numbers"]
  f_base_at:FT K mg "base_at" s_base_at ["many", "spot"]
  f_has_enough:FT K mg "has_enough" s_has_enough ["table", "goal"]
  f_effect_of_none:FT K mg "effect_of_none" s_effect_of_none ["store"]
  f_effect_of_one:FT K mg "effect_of_one" s_effect_of_one ["store", "change"]
  f_effect_of:FT K mg "effect_of" s_effect_of ["store", "changes"]
  f_passed:FT K mg "passed" s_passed ["effect", "level"]
  f_joined:FT K mg "joined" s_joined ["one", "other"]
  f_is_more:FT K mg "is_more" s_is_more ["one", "other"]
  f_behind_way:FT K mg "behind_way" s_behind_way ["store", "table", "way"]
  f_first_row:FT K mg "first_row" s_first_row ["table"]
  f_row_behind:FT K mg "row_behind" s_row_behind ["land", "store", "table", "stayed"]
  f_walk_to:FT K mg "walk_to" s_walk_to ["land", "rows", "place"]
  f_behind_ways:FT K mg "behind_ways" s_behind_ways ["land", "place", "numbers"]
  f_behind_part:FT K mg "behind_part" s_behind_part ["land", "place", "part"]
  f_end_of:FT K mg "end_of" s_end_of ["land", "place", "trip"]
  f_rows_from:FT K mg "rows_from" s_rows_from ["land", "store", "table"]
  f_still_rises:FT K mg "still_rises" s_still_rises ["land", "rows"]
  f_rising_walk:FT K mg "rising_walk" s_rising_walk ["land", "rows"]
  f_parted_at_round:FT K mg "parted_at_round" s_parted_at_round ["land", "walk"]
  f_parts_by:FT K mg "parts_by" s_parts_by ["numbers"]
  f_filling_parts:FT K mg "filling_parts" s_filling_parts ["land", "store", "level", "walk"]
  f_settled:FT K mg "settled" s_settled ["land", "store", "base"]
  f_highest:FT K mg "highest" s_highest ["land", "store", "base"]
  f_alone:FT K mg "alone" s_alone ["number"]
  f_numbers_in:FT K mg "numbers_in" s_numbers_in ["springs", "some"]
  f_level_by_spring:FT K mg "level_by_spring" s_level_by_spring ["store", "springs", "tables", "some", "number"]
  f_base_by:FT K mg "base_by" s_base_by ["store", "springs", "tables", "base", "some"]
  f_highest_by:FT K mg "highest_by" s_highest_by ["land", "store", "springs", "base"]
  f_is_part:FT K mg "is_part" s_is_part ["one", "other"]
  f_needs_of:FT K mg "needs_of" s_needs_of ["land", "store", "springs", "walker"]
  f_hand:FT K mg "_law_hand" s_hand ["_law_script"]
  f_next:FT K mg "_law_next" s_next ["_law_hand_here"]
  f_take:FT K mg "_law_take" s_take ["_law_hand_here"]
  f_draw:FT K mg "_law_draw" s_draw ["_law_hand_here", "_law_many"]
  f_change:FT K mg "_law_change" s_change ["_law_hand_here", "_law_scale"]
  f_land:FT K mg "_law_land" s_land ["_law_hand_here", "_law_places", "_law_ways", "_law_scale"]
  f_springs:FT K mg "_law_springs" s_springs ["_law_hand_here", "_law_many", "_law_store", "_law_most"]
  f_by_sets:FT K mg "_law_by_sets" s_by_sets ["_law_land_here", "_law_store", "_law_springs_here", "_law_base"]
  f_needs:FT K mg "_law_needs" s_needs ["_law_land_here", "_law_store", "_law_springs_here", "_law_walker_here"]
  f_walker:FT K mg "_law_walker" s_walker ["_law_hand_here", "_law_many", "_law_store"]
  f_law_is_whole:FT K mg "_law_is_whole" s_law_is_whole ["_law_thing"]
  f_are_needs:FT K mg "_law_are_needs" s_are_needs ["_law_thing"]
  f_law:FT K mg "law" s_law ["_law_script"]
theorem sc_is_whole:FnScope ["thing"] ["thing"] (defScope s_is_whole):=⟨rfl,rfl,rfl,by decide +kernel,rfl,by decide +kernel,by decide +kernel⟩
theorem sc_stepped:FnScope ["store", "level", "change", "behind"] ["store", "level", "change"] (defScope s_stepped):=⟨rfl,rfl,rfl,by decide +kernel,rfl,by decide +kernel,by decide +kernel⟩
theorem sc_levels_along:FnScope ["store", "level", "changes", "levels", "change", "behind"] ["store", "level", "changes"] (defScope s_levels_along):=⟨rfl,rfl,rfl,by decide +kernel,rfl,by decide +kernel,by decide +kernel⟩
theorem sc_is_place:FnScope ["many", "thing"] ["many", "thing"] (defScope s_is_place):=⟨rfl,rfl,rfl,by decide +kernel,rfl,by decide +kernel,by decide +kernel⟩
theorem sc_changes_of:FnScope ["land", "numbers"] ["land", "numbers"] (defScope s_changes_of):=⟨rfl,rfl,rfl,by decide +kernel,rfl,by decide +kernel,by decide +kernel⟩
theorem sc_base_at:FnScope ["many", "spot", "base"] ["many", "spot"] (defScope s_base_at):=⟨rfl,rfl,rfl,by decide +kernel,rfl,by decide +kernel,by decide +kernel⟩
theorem sc_has_enough:FnScope ["table", "goal", "level"] ["table", "goal"] (defScope s_has_enough):=⟨rfl,rfl,rfl,by decide +kernel,rfl,by decide +kernel,by decide +kernel⟩
theorem sc_effect_of_none:FnScope ["store"] ["store"] (defScope s_effect_of_none):=⟨rfl,rfl,rfl,by decide +kernel,rfl,by decide +kernel,by decide +kernel⟩
theorem sc_effect_of_one:FnScope ["store", "change"] ["store", "change"] (defScope s_effect_of_one):=⟨rfl,rfl,rfl,by decide +kernel,rfl,by decide +kernel,by decide +kernel⟩
theorem sc_effect_of:FnScope ["store", "changes", "whole", "change"] ["store", "changes"] (defScope s_effect_of):=⟨rfl,rfl,rfl,by decide +kernel,rfl,by decide +kernel,by decide +kernel⟩
theorem sc_passed:FnScope ["effect", "level"] ["effect", "level"] (defScope s_passed):=⟨rfl,rfl,rfl,by decide +kernel,rfl,by decide +kernel,by decide +kernel⟩
theorem sc_joined:FnScope ["one", "other", "least"] ["one", "other"] (defScope s_joined):=⟨rfl,rfl,rfl,by decide +kernel,rfl,by decide +kernel,by decide +kernel⟩
theorem sc_is_more:FnScope ["one", "other"] ["one", "other"] (defScope s_is_more):=⟨rfl,rfl,rfl,by decide +kernel,rfl,by decide +kernel,by decide +kernel⟩
theorem sc_behind_way:FnScope ["store", "table", "way", "level"] ["store", "table", "way"] (defScope s_behind_way):=⟨rfl,rfl,rfl,by decide +kernel,rfl,by decide +kernel,by decide +kernel⟩
theorem sc_first_row:FnScope ["table"] ["table"] (defScope s_first_row):=⟨rfl,rfl,rfl,by decide +kernel,rfl,by decide +kernel,by decide +kernel⟩
theorem sc_row_behind:FnScope ["land", "store", "table", "stayed", "higher", "risen", "number", "way", "level"] ["land", "store", "table", "stayed"] (defScope s_row_behind):=⟨rfl,rfl,rfl,by decide +kernel,rfl,by decide +kernel,by decide +kernel⟩
theorem sc_walk_to:FnScope ["land", "rows", "place", "here", "numbers", "row", "number"] ["land", "rows", "place"] (defScope s_walk_to):=⟨rfl,rfl,rfl,by decide +kernel,rfl,by decide +kernel,by decide +kernel⟩
theorem sc_behind_ways:FnScope ["land", "place", "numbers", "here", "number"] ["land", "place", "numbers"] (defScope s_behind_ways):=⟨rfl,rfl,rfl,by decide +kernel,rfl,by decide +kernel,by decide +kernel⟩
theorem sc_behind_part:FnScope ["land", "place", "part", "behind"] ["land", "place", "part"] (defScope s_behind_part):=⟨rfl,rfl,rfl,by decide +kernel,rfl,by decide +kernel,by decide +kernel⟩
theorem sc_end_of:FnScope ["land", "place", "trip", "here", "at", "part"] ["land", "place", "trip"] (defScope s_end_of):=⟨rfl,rfl,rfl,by decide +kernel,rfl,by decide +kernel,by decide +kernel⟩
theorem sc_rows_from:FnScope ["land", "store", "table", "rows", "row"] ["land", "store", "table"] (defScope s_rows_from):=⟨rfl,rfl,rfl,by decide +kernel,rfl,by decide +kernel,by decide +kernel⟩
theorem sc_still_rises:FnScope ["land", "rows"] ["land", "rows"] (defScope s_still_rises):=⟨rfl,rfl,rfl,by decide +kernel,rfl,by decide +kernel,by decide +kernel⟩
theorem sc_rising_walk:FnScope ["land", "rows", "last"] ["land", "rows"] (defScope s_rising_walk):=⟨rfl,rfl,rfl,by decide +kernel,rfl,by decide +kernel,by decide +kernel⟩
theorem sc_parted_at_round:FnScope ["land", "walk", "places", "end", "begin"] ["land", "walk"] (defScope s_parted_at_round):=⟨rfl,rfl,rfl,by decide +kernel,rfl,by decide +kernel,by decide +kernel⟩
theorem sc_parts_by:FnScope ["numbers"] ["numbers"] (defScope s_parts_by):=⟨rfl,rfl,rfl,by decide +kernel,rfl,by decide +kernel,by decide +kernel⟩
theorem sc_filling_parts:FnScope ["land", "store", "level", "walk", "parted", "ahead", "turn", "effect", "missing", "times", "levels"] ["land", "store", "level", "walk"] (defScope s_filling_parts):=⟨rfl,rfl,rfl,by decide +kernel,rfl,by decide +kernel,by decide +kernel⟩
theorem sc_settled:FnScope ["land", "store", "base", "table", "roads", "rows", "walk", "parts", "full", "road"] ["land", "store", "base"] (defScope s_settled):=⟨rfl,rfl,rfl,by decide +kernel,rfl,by decide +kernel,by decide +kernel⟩
theorem sc_highest:FnScope ["land", "store", "base"] ["land", "store", "base"] (defScope s_highest):=⟨rfl,rfl,rfl,by decide +kernel,rfl,by decide +kernel,by decide +kernel⟩
theorem sc_alone:FnScope ["number"] ["number"] (defScope s_alone):=⟨rfl,rfl,rfl,by decide +kernel,rfl,by decide +kernel,by decide +kernel⟩
theorem sc_numbers_in:FnScope ["springs", "some"] ["springs", "some"] (defScope s_numbers_in):=⟨rfl,rfl,rfl,by decide +kernel,rfl,by decide +kernel,by decide +kernel⟩
theorem sc_level_by_spring:FnScope ["store", "springs", "tables", "some", "number", "level"] ["store", "springs", "tables", "some", "number"] (defScope s_level_by_spring):=⟨rfl,rfl,rfl,by decide +kernel,rfl,by decide +kernel,by decide +kernel⟩
theorem sc_base_by:FnScope ["store", "springs", "tables", "base", "some", "there", "number", "level"] ["store", "springs", "tables", "base", "some"] (defScope s_base_by):=⟨rfl,rfl,rfl,by decide +kernel,rfl,by decide +kernel,by decide +kernel⟩
theorem sc_highest_by:FnScope ["land", "store", "springs", "base", "tables", "some"] ["land", "store", "springs", "base"] (defScope s_highest_by):=⟨rfl,rfl,rfl,by decide +kernel,rfl,by decide +kernel,by decide +kernel⟩
theorem sc_is_part:FnScope ["one", "other"] ["one", "other"] (defScope s_is_part):=⟨rfl,rfl,rfl,by decide +kernel,rfl,by decide +kernel,by decide +kernel⟩
theorem sc_needs_of:FnScope ["land", "store", "springs", "walker", "needs", "some", "table"] ["land", "store", "springs", "walker"] (defScope s_needs_of):=⟨rfl,rfl,rfl,by decide +kernel,rfl,by decide +kernel,by decide +kernel⟩
theorem sc_hand:FnScope ["_law_script"] ["_law_script"] (defScope s_hand):=⟨rfl,rfl,rfl,by decide +kernel,rfl,by decide +kernel,by decide +kernel⟩
theorem sc_next:FnScope ["_law_hand_here"] ["_law_hand_here"] (defScope s_next):=⟨rfl,rfl,rfl,by decide +kernel,rfl,by decide +kernel,by decide +kernel⟩
theorem sc_take:FnScope ["_law_hand_here", "_law_cell"] ["_law_hand_here"] (defScope s_take):=⟨rfl,rfl,rfl,by decide +kernel,rfl,by decide +kernel,by decide +kernel⟩
theorem sc_draw:FnScope ["_law_hand_here", "_law_many", "_law_got", "_law_value", "_law_size"] ["_law_hand_here", "_law_many"] (defScope s_draw):=⟨rfl,rfl,rfl,by decide +kernel,rfl,by decide +kernel,by decide +kernel⟩
theorem sc_change:FnScope ["_law_hand_here", "_law_scale"] ["_law_hand_here", "_law_scale"] (defScope s_change):=⟨rfl,rfl,rfl,by decide +kernel,rfl,by decide +kernel,by decide +kernel⟩
theorem sc_land:FnScope ["_law_hand_here", "_law_places", "_law_ways", "_law_scale", "_law_many", "_law_rows", "_law_k", "_law_start", "_law_end"] ["_law_hand_here", "_law_places", "_law_ways", "_law_scale"] (defScope s_land):=⟨rfl,rfl,rfl,by decide +kernel,rfl,by decide +kernel,by decide +kernel⟩
theorem sc_springs:FnScope ["_law_hand_here", "_law_many", "_law_store", "_law_most", "_law_springs_here", "_law_k", "_law_gift"] ["_law_hand_here", "_law_many", "_law_store", "_law_most"] (defScope s_springs):=⟨rfl,rfl,rfl,by decide +kernel,rfl,by decide +kernel,by decide +kernel⟩
theorem sc_by_sets:FnScope ["_law_land_here", "_law_store", "_law_springs_here", "_law_base", "_law_found", "_law_todo", "_law_spot", "_law_place", "_law_level", "_law_some", "_law_start", "_law_end", "_law_change_here", "_law_k"] ["_law_land_here", "_law_store", "_law_springs_here", "_law_base"] (defScope s_by_sets):=⟨rfl,rfl,rfl,by decide +kernel,rfl,by decide +kernel,by decide +kernel⟩
theorem sc_needs:FnScope ["_law_land_here", "_law_store", "_law_springs_here", "_law_walker_here", "_law_begin", "_law_goal", "_law_base", "_law_found", "_law_through", "_law_needs_here", "_law_some"] ["_law_land_here", "_law_store", "_law_springs_here", "_law_walker_here"] (defScope s_needs):=⟨rfl,rfl,rfl,by decide +kernel,rfl,by decide +kernel,by decide +kernel⟩
theorem sc_walker:FnScope ["_law_hand_here", "_law_many", "_law_store", "_law_most", "_law_begin", "_law_goal"] ["_law_hand_here", "_law_many", "_law_store"] (defScope s_walker):=⟨rfl,rfl,rfl,by decide +kernel,rfl,by decide +kernel,by decide +kernel⟩
theorem sc_law_is_whole:FnScope ["_law_thing"] ["_law_thing"] (defScope s_law_is_whole):=⟨rfl,rfl,rfl,by decide +kernel,rfl,by decide +kernel,by decide +kernel⟩
theorem sc_are_needs:FnScope ["_law_thing"] ["_law_thing"] (defScope s_are_needs):=⟨rfl,rfl,rfl,by decide +kernel,rfl,by decide +kernel,by decide +kernel⟩
theorem sc_law:FnScope ["_law_script", "_law_hand_here", "_law_store", "_law_land_here", "_law_springs_here", "_law_walkers", "_law_handed", "_law_k", "_law_told"] ["_law_script"] (defScope s_law):=⟨rfl,rfl,rfl,by decide +kernel,rfl,by decide +kernel,by decide +kernel⟩
section
variable {P:Program} {w:World} {K:PySem.W.Frag} {mg:Str→Option Value} {base:Heap}
theorem ok_hand (T:Txt K mg):FnOk P w K mg base CX0 1 T.f_hand.a T.f_hand.d ["_law_script"] (spHand K):=by
  refine T.f_hand.F.ok sc_hand (fun vs H Q E h=>?_) (fun cdv A outer s H vs Q E hr h=>?_)
  · obtain⟨a,ns,rfl,_⟩:=h
    rfl
  · obtain⟨a,ns,rfl,hS,k⟩:=h
    refine⟨_,(pss_one (ps_ret (pe_lst (pa_cons (pe_callTy call_list_of rfl T.n_list bt_list (pa_cons (pe_slice sl_list (pv 0) po_none (po_some pe_int)) pa_nil se_Subscript) (he:=se_Subscript) (hpl:=np_nil)) (pa_cons pe_int (pa_cons pe_int (pa_cons pe_int (pa_cons pe_int (pa_cons pe_int pa_nil se_Constant) se_Constant) se_Constant) se_Constant) se_Constant) se_Call)))),?_⟩
    refine⟨_,rfl,_,rfl,a,_,rfl,hS,fun p1 h1=>⟨p1,_,rfl,.inl (SqL.of upd_same),fun l hl=>⟨(by show 6≤sizeLine;decide),fun p hp=>?_⟩⟩⟩
    have n1:p≠p1:=(ne_of_none (H:=upd (upd H p1 _) l _) (by rw[upd_ne (ne_of_none upd_same hl)];exact upd_same) hp).symm
    have n2:p≠l:=(ne_of_none (H:=upd (upd H p1 _) l _) upd_same hp).symm
    have hp0:H p=none:=by rw[upd_ne n2,upd_ne n1] at hp;exact hp
    have hl0:H l=none:=by
      have nl:l≠p1:=(ne_of_none upd_same hl).symm
      rw[upd_ne nl] at hl;exact hl
    refine k p l _ hp0 hl0 ⟨(ns.drop (HT.sIx (ns.map V.int).length 0 none)).take (HT.sIx (ns.map V.int).length (ns.map V.int).length (some 63) - HT.sIx (ns.map V.int).length 0 none),0,0,0,20011,40009,?_,Int.le_refl _,upd_same⟩ (((Same.refl H).lay h1).lay hl |>.lay hp)
    rw[upd_ne n2.symm,upd_same]
    unfold cutV
    rw[List.map_take,List.map_drop]
theorem ok_next (T:Txt K mg):FnOk P w K mg base CX0 1 T.f_next.a T.f_next.d ["_law_hand_here"] spNext:=by
  refine T.f_next.F.ok sc_next (fun vs H Q E h=>?_) (fun cdv A outer s H vs Q E hr h=>?_)
  · obtain⟨a,l,rfl,_⟩:=h
    rfl
  · obtain⟨a,l,rfl,⟨ns,p,b,c,u,v,hl,hp,ha⟩,k⟩:=h
    have ne:=ne_hand hl ha
    refine⟨_,(pss_cons (ps_asg (pe_op op_mod (pe_op op_mul (pe_ix ix_list (pv 0) pe_int (fun _ _=>rfl)) pe_int) pe_int) (pg_sub (pv 0) pe_int set_list))
      (pss_cons (ps_asg (pe_op op_mod (pe_op op_mul (pe_ix ix_list (pv 0) pe_int (fun _ _=>rfl)) pe_int) pe_int) (pg_sub (pv 0) pe_int set_list))
      (pss_one (ps_ret (pe_op op_add (pe_ix ix_list (pv 0) pe_int (fun _ _=>rfl)) (pe_ix ix_list (pv 0) pe_int (fun _ _=>rfl))))))),?_⟩
    refine⟨_,rfl,a,_,_,_,rfl,rfl,SqL.of ha,rfl,_,_,rfl,rfl,.inr ⟨by decide,by decide⟩,_,_,rfl,rfl,(by first | decide | (dsimp only;decide)),_,rfl,a,_,_,_,rfl,rfl,ha,rfl,?_⟩
    refine⟨_,rfl,a,_,_,_,rfl,rfl,SqL.of upd_same,rfl,_,_,rfl,rfl,.inr ⟨by decide,by decide⟩,_,_,rfl,rfl,(by first | decide | (dsimp only;decide)),_,rfl,a,_,_,_,rfl,rfl,upd_same,rfl,?_⟩
    refine⟨_,rfl,a,_,_,_,rfl,rfl,SqL.of upd_same,rfl,_,rfl,a,_,_,_,rfl,rfl,SqL.of upd_same,rfl,_,_,rfl,rfl,?_⟩
    exact k _ _ ⟨ns,p,b,c,_,_,by rw[upd_ne ne,upd_ne ne];exact hl,hp,upd_same⟩ fun b o e nb=>by rw[upd_ne nb,upd_ne nb];exact e
theorem ok_take (T:Txt K mg):FnOk P w K mg base CX0 2 T.f_take.a T.f_take.d ["_law_hand_here"] spTake:=by
  have G_next:=@ok_next P w K mg base T
  have b_next:=T.f_next.b
  refine T.f_take.F.ok sc_take (fun vs H Q E h=>?_) (fun cdv A outer s H vs Q E hr h=>?_)
  · obtain⟨a,l,rfl,_⟩:=h
    rfl
  · obtain⟨a,l,rfl,⟨ns,p,b,c,u,v,hl,hp,ha⟩,k⟩:=h
    have ne:=ne_hand hl ha
    refine⟨_,(pss_cons (ps_set (i:=1) sc_take.nd rfl (Or.inl rfl) pe_int)
      (pss_cons (ps_mid (ps_if (pt_cmpR op_lt (pe_ix ix_list (pv 0) pe_int (fun _ _=>rfl)) (pe_callB call_len_seq rfl T.n_len bt_len (pa_cons (pe_ix ix_list (pv 0) pe_int (fun _ _=>rfl)) pa_nil se_Subscript) (he:=se_Subscript) (hpl:=np_nil)) (nomark _))
      (pss_one (ps_set (i:=1) sc_take.nd rfl (Or.inl rfl) (pe_callB call_abs rfl T.n_abs bt_abs (pa_cons (pe_ix ix_list (pe_ix ix_list (pv 0) pe_int (fun _ _=>rfl)) (pe_ix ix_list (pv 0) pe_int (fun _ _=>rfl)) (fun _ _=>rfl)) pa_nil se_Subscript) (he:=se_Subscript) (hpl:=np_nil))))
      pss_nil))
      (pss_cons (ps_augS (pv 0) pe_int get_list pe_int ip_add set_list)
      (pss_cons (ps_mid (ps_if (pt_cmpR op_ge (pv 1) (pe_op op_pow pe_int pe_int) (nomark _))
      (pss_one (ps_asg (pv 1) (pg_sub (pv 0) pe_int set_list)))
      (pss_one (ps_asg pe_int (pg_sub (pv 0) pe_int set_list)))))
      (pss_cons (ps_asg (pe_op op_add (pe_op op_mod (pe_op op_add (pe_ix ix_list (pv 0) pe_int (fun _ _=>rfl)) (pe_op op_mod (pv 1) pe_int)) pe_int) pe_int) (pg_sub (pv 0) pe_int set_list))
      (pss_cons (ps_asg (pe_op op_add (pe_op op_mod (pe_op op_add (pe_op op_mul (pe_ix ix_list (pv 0) pe_int (fun _ _=>rfl)) pe_int) (pe_op op_mod (pv 1) pe_int)) pe_int) pe_int) (pg_sub (pv 0) pe_int set_list))
      (pss_cons (ps_expr (pe_call G_next (hr.mono (by decide)) rfl T.f_next.m T.f_next.F.kp b_next .nil pass0 (pa_cons (pv 0) pa_nil se_Name) (he:=se_Name) (hpl:=np_nil)))
      (pss_one (ps_expr (pe_call G_next (hr.mono (by decide)) rfl T.f_next.m T.f_next.F.kp b_next .nil pass0 (pa_cons (pv 0) pa_nil se_Name) (he:=se_Name) (hpl:=np_nil))))))))))),?_⟩
    refine⟨fun σ H1=>H=H1∧∃z:Int,σ=[some (.ref a),some (.int z)],?_,?_⟩
    · refine⟨_,rfl,a,_,_,_,rfl,rfl,SqL.of ha,rfl,_,rfl,a,_,_,_,rfl,rfl,SqL.of ha,rfl,l,_,rfl,.inl (SqL.of hl),_,_,rfl,rfl,_,rfl,?_⟩
      refine ite2 (fun hlt=>?_) (fun _=>⟨rfl,_,rfl⟩)
      have hlt':p < (ns.length:Int):=by simpa using hlt
      obtain⟨z,hz⟩:=atI_ints hp hlt'
      exact⟨_,rfl,a,_,_,_,rfl,rfl,SqL.of ha,rfl,_,rfl,a,_,_,_,rfl,rfl,SqL.of ha,rfl,l,_,_,_,rfl,rfl,SqL.of hl,hz,_,rfl,rfl,_,rfl⟩
    · rintro σ H1 ⟨rfl,z,rfl⟩
      refine⟨_,rfl,a,_,_,_,rfl,rfl,(by first | decide | (dsimp only;decide)),SqL.of ha,rfl,_,_,rfl,rfl,a,_,_,_,rfl,rfl,ha,rfl,?_⟩
      refine⟨fun σ H1=>σ=[some (.ref a),some (.int z)]∧Hd H1 a l∧Kp a H H1,?_,?_⟩
      · refine⟨_,rfl,_,_,rfl,rfl,⟨by decide,by decide,by decide⟩,_,_,rfl,rfl,_,rfl,?_⟩
        refine ite2 (fun _=>?_) (fun _=>?_)
        · refine⟨_,rfl,_,rfl,a,_,_,_,rfl,rfl,upd_same,rfl,rfl,⟨ns,p + 1,_,_,_,_,by rw[upd_ne ne,upd_ne ne];exact hl,by omega,upd_same⟩,fun b o e nb=>by rw[upd_ne nb,upd_ne nb];exact e⟩
        · refine⟨_,rfl,a,_,_,_,rfl,rfl,upd_same,rfl,rfl,⟨ns,p + 1,_,_,_,_,by rw[upd_ne ne,upd_ne ne];exact hl,by omega,upd_same⟩,fun b o e nb=>by rw[upd_ne nb,upd_ne nb];exact e⟩
      · rintro σ H1 ⟨rfl,⟨ns,p,b,c,u,v,hl,hp,ha⟩,k1⟩
        have ne:=ne_hand hl ha
        refine⟨_,rfl,a,_,_,_,rfl,rfl,SqL.of ha,rfl,_,rfl,_,_,rfl,rfl,(by first | decide | (dsimp only;decide)),_,_,rfl,rfl,_,_,rfl,rfl,(by first | decide | (dsimp only;decide)),_,_,rfl,rfl,_,rfl,a,_,_,_,rfl,rfl,ha,rfl,?_⟩
        refine⟨_,rfl,a,_,_,_,rfl,rfl,SqL.of upd_same,rfl,_,_,rfl,rfl,.inr ⟨by decide,by decide⟩,_,rfl,_,_,rfl,rfl,(by first | decide | (dsimp only;decide)),_,_,rfl,rfl,_,_,rfl,rfl,(by first | decide | (dsimp only;decide)),_,_,rfl,rfl,_,rfl,a,_,_,_,rfl,rfl,upd_same,rfl,?_⟩
        refine⟨_,rfl,a,l,rfl,⟨ns,p,_,_,_,_,by rw[upd_ne ne,upd_ne ne];exact hl,hp,upd_same⟩,fun r H2 h2 k2=>?_⟩
        refine⟨_,rfl,a,l,rfl,h2,fun r H3 h3 k3=>?_⟩
        exact k H3 h3 (((k1.trans fun b o e nb=>by rw[upd_ne nb,upd_ne nb];exact e).trans k2).trans k3)
theorem ok_draw (T:Txt K mg):FnOk P w K mg base CX0 3 T.f_draw.a T.f_draw.d ["_law_hand_here", "_law_many"] spDraw:=by
  have G_next:=@ok_next P w K mg base T
  have G_take:=@ok_take P w K mg base T
  have b_next:=T.f_next.b
  have b_take:=T.f_take.b
  refine T.f_draw.F.ok sc_draw (fun vs H Q E h=>?_) (fun cdv A outer s H vs Q E hr h=>?_)
  · obtain⟨a,l,m,rfl,_⟩:=h
    rfl
  · obtain⟨a,l,m,rfl,hd,hm0,hm1,k⟩:=h
    refine⟨_,(pss_cons (ps_mid (ps_if (PW.pt (pw_and (pt_cmpR op_eq (pe_ix ix_list (pv 0) pe_int (fun _ _=>rfl)) pe_int (nomark _)) (pw_and1 (pt_cmpR op_eq (pe_ix ix_list (pv 0) pe_int (fun _ _=>rfl)) pe_int (nomark _)))))
      (pss_one (ps_expr (pe_call G_take (hr.mono (by decide)) rfl T.f_take.m T.f_take.F.kp b_take .nil pass0 (pa_cons (pv 0) pa_nil se_Name) (he:=se_Name) (hpl:=np_nil))))
      pss_nil))
      (pss_cons (ps_mid (ps_if (pt_cmpR op_gt (pe_ix ix_list (pv 0) pe_int (fun _ _=>rfl)) pe_int (nomark _))
      (pss_cons (ps_set (i:=2) sc_draw.nd rfl (Or.inl rfl) (pe_op op_mod (pe_ix ix_list (pv 0) pe_int (fun _ _=>rfl)) (pv 1)))
      (pss_cons (ps_asg (pe_op op_fdivB (pe_ix ix_list (pv 0) pe_int (fun _ _=>rfl)) (pv 1)) (pg_sub (pv 0) pe_int set_list))
      (pss_one (ps_ret (pv 2)))))
      pss_nil))
      (pss_cons (ps_augS (pv 0) pe_int get_list pe_int ip_sub set_list)
      (pss_cons (ps_set (i:=3) sc_draw.nd rfl (Or.inl rfl) (pe_call G_next (hr.mono (by decide)) rfl T.f_next.m T.f_next.F.kp b_next .nil pass0 (pa_cons (pv 0) pa_nil se_Name) (he:=se_Name) (hpl:=np_nil)))
      (pss_cons (ps_set (i:=4) sc_draw.nd rfl (Or.inl rfl) pe_int)
      (pss_cons (ps_while PassesOwn.never (pt_cmpR op_lt (pv 4) (pv 1) (nomark _))
      (pss_cons (ps_set (i:=3) sc_draw.nd rfl (Or.inl rfl) (pe_op op_add (pe_op op_mul (pv 3) pe_int) (pe_call G_next (hr.mono (by decide)) rfl T.f_next.m T.f_next.F.kp b_next .nil pass0 (pa_cons (pv 0) pa_nil se_Name) (he:=se_Name) (hpl:=np_nil))))
      (pss_one (ps_set (i:=4) sc_draw.nd rfl (Or.inl rfl) (pe_op op_mul (pv 4) pe_int)))))
      (pss_one (ps_ret (pe_op op_mod (pv 3) (pv 1)))))))))),?_⟩
    refine⟨fun σ H1=>σ=[some (.ref a),some (.int m),none,none,none]∧Hd H1 a l∧Kp a H H1,?_,?_⟩
    · obtain⟨ns,p,b,c,u,v,hl,hp,ha⟩:=id hd
      refine⟨_,rfl,a,_,_,_,rfl,rfl,SqL.of ha,rfl,rfl,_,rfl,?_⟩
      refine ite2 (fun _=>?_) (fun _=>iteF ⟨rfl,hd,.refl a H⟩)
      refine⟨_,rfl,a,_,_,_,rfl,rfl,SqL.of ha,rfl,rfl,_,rfl,?_⟩
      refine ite2 (fun _=>?_) (fun _=>⟨rfl,hd,.refl a H⟩)
      exact⟨_,rfl,a,l,rfl,hd,fun H1 h1 k1=>⟨rfl,h1,k1⟩⟩
    · rintro σ H1 ⟨rfl,⟨ns,p,b,c,u,v,hl,hp,ha⟩,k1⟩
      have ne:=ne_hand hl ha
      refine⟨fun σ H2=>H1=H2∧σ=[some (.ref a),some (.int m),none,none,none],?_,?_⟩
      · refine⟨_,rfl,a,_,_,_,rfl,rfl,SqL.of ha,rfl,_,_,rfl,rfl,_,rfl,?_⟩
        refine ite2 (fun _=>?_) (fun _=>⟨rfl,rfl⟩)
        refine⟨_,rfl,a,_,_,_,rfl,rfl,SqL.of ha,rfl,_,rfl,_,_,rfl,rfl,hm0,?_⟩
        refine⟨_,rfl,a,_,_,_,rfl,rfl,SqL.of ha,rfl,_,rfl,_,_,rfl,rfl,⟨hm0,hm1⟩,_,rfl,a,_,_,_,rfl,rfl,ha,rfl,?_⟩
        refine⟨_,rfl,?_⟩
        exact k _ _ (Int.emod_nonneg _ (by omega)) (Int.emod_lt_of_pos _ hm0) ⟨ns,p,_,_,_,_,by rw[upd_ne ne];exact hl,hp,upd_same⟩ (k1.trans fun b o e nb=>by rw[upd_ne nb];exact e)
      · rintro σ H2 ⟨rfl,rfl⟩
        refine⟨_,rfl,a,_,_,_,rfl,rfl,(by first | decide | (dsimp only;decide)),SqL.of ha,rfl,_,_,rfl,rfl,a,_,_,_,rfl,rfl,ha,rfl,?_⟩
        refine⟨_,rfl,a,l,rfl,⟨ns,p,_,_,_,_,by rw[upd_ne ne];exact hl,hp,upd_same⟩,fun r H3 h3 k3=>?_⟩
        have k3':Kp a H H3:=(k1.trans fun b o e nb=>by rw[upd_ne nb];exact e).trans k3
        refine while_by (fun σ H4=>∃(val sz:Int),σ=[some (.ref a),some (.int m),none,some (.int val),some (.int sz)]∧Hd H4 a l∧Kp a H H4∧0 < sz)
          (fun σ _=>match σ with | [_,_,_,_,some (.int sz)]=>(m - sz).toNat | _=>0) ⟨r,4294967296,rfl,h3,k3',by decide⟩ ?_ (fun σ H Q Q' f ⟨v,e1,u,e2,i,j,e3,e4,c,e5,q⟩=>⟨v,e1,u,e2,i,j,e3,e4,c,e5,f _ _ q⟩)
        rintro σ H4 ⟨val,sz,rfl,h4,k4,hsz⟩
        refine⟨_,rfl,_,rfl,_,_,rfl,rfl,_,rfl,?_⟩
        refine ite2 (fun hlt=>?_) (fun _=>?_)
        · have hlt':sz < m:=by simpa using hlt
          refine⟨_,rfl,_,_,rfl,rfl,.inr ⟨by decide,by decide⟩,_,rfl,a,l,rfl,h4,fun r H5 h5 k5=>⟨_,_,rfl,rfl,?_⟩⟩
          refine⟨_,rfl,_,_,rfl,rfl,.inr ⟨by decide,by decide⟩,?_⟩
          refine⟨⟨_,sz * 4294967296,rfl,h5,k4.trans k5,by omega⟩,?_⟩
          show (m - sz * 4294967296).toNat < (m - sz).toNat
          omega
        · refine⟨_,rfl,_,rfl,_,_,rfl,rfl,hm0,?_⟩
          exact k _ _ (Int.emod_nonneg _ (by omega)) (Int.emod_lt_of_pos _ hm0) h4 k4
end
def mqB:List Lean.Name:=[``dSeq,``dSeqG,``dSet,``dOwn,``dOp,``dVar,``dIfS,``dT,``dRet,``dDrop,``dCb,``dCons,``dNil,``dC,``dF,``dLst,``dTup,``dNeg,``dNot,``dAnd,``dOr,``dAndV,``dOrV,``dNotV,``dBV,``dIf,``dChain,``dIx,``dIxV,``dLenV,``dListV,``dList,``dSlV,``dSl,``dCat,``dRep,``dIsiV,``dIsi,``dCall,``aNil,``aV,``aS,``arsD,``arD,``isSl,``slotD,``bnd_some,``ixD,``lenD,``listD,``itemsD,``gI,``gI0,``gAdd,``gMns,``gMul,``gMod,``gDiv,``gPow,``gLt,``gLe,``gGt,``gGe,``gEq,``gIsN,``isN,``gLen,``gMin,``gMax,``gI2,``gAbs,``gInt,``gAll,``gAny,``dNext,``dLrev,``dApp,``dSetI,``dAsg,``gN,``gT2,``gT3,``gT5,``gInS,``strsD,``gMaxP,``dPopI,``dLrng,``dZip,``dCompT2,``dComp,``dCompT3,``dIndexV,``gIn,``gB2,``oN,``oS,``startN,``slOf,``a1_0,``a2_0,``a2_1,``a3_0,``a3_1,``a3_2,``isiD,``tyD,``List.tail_cons,``List.tail_nil,``List.getElem?_cons_zero,``List.getElem?_cons_succ,``List.set_cons_zero,``List.set_cons_succ,``List.length_cons,``List.length_nil,``Option.bind_some,``Option.map_some,``List.cons_append,``List.nil_append,``iteTT,``iteFF,``iteTB,``iteFB,``iteTI,``iteFI,``Bool.not_true,``Bool.not_false,``dEqV,``dCallD,``dSort,``dAppB,``dDict0,``dSortL,``dCompF,``dCompS,``dDNew,``dDPut,``dDIn,``dOwnN,``dIdc,``dPop0,``dClear,``roN,``dRet2,``gShl,``gAnd]
def mqT(s:List Lean.Name):Lean.MacroM (Lean.TSyntax `tactic):=do
 let a:=(s++mqB).toArray.map fun x=>Lean.mkCIdent x
 `(tactic|try dsimp only[$[$a:ident],*])
local macro_rules|`(tactic|decreasing_tactic)=>mqT []
local macro_rules|`(tactic|array_get_dec)=>mqT [``dFor,``dIl,``dIv,``dIt,``dRng1,``dRng2,``dEnum,``dIrev]
local macro_rules|`(tactic|sizeOf_list_dec)=>mqT [``Blk]
theorem units_of {k:Nat} {A:Around} (hr:Room k A):A.units + 64 < cLine:=hr.units
def spDrawD:DSp:=fun ds Q=>∃m:Int,ds=[.none,.int m]∧0 < m∧m < 100000000000000000000000000000000000000000000000000000000000000∧∀r:Int,0≤r→r < m→Q (.int r)
theorem hd_args {F:Addr→Prop} {hand:Option (Addr×Addr)} {H:Hp} {vs:List V} {ds:List PyData} {ms:List Md} (a:ArgsR F hand H (.hd::ms) vs ds):∃q vs' d ds',hand=some q∧vs=.ref q.1::vs'∧ds=d::ds'∧ArgsR F hand H ms vs' ds':=by
  cases a with
  | cons x t=>
    obtain⟨q,e,rfl⟩:=x
    exact⟨q,_,_,_,e,rfl,rfl,t⟩
section
variable {P:Program} {w:World} {K:PySem.W.Frag} {mg:Str→Option Value} {base:Heap}
theorem ok_drawD (T:Txt K mg):FnOk P w K mg base CX0 3 T.f_draw.a T.f_draw.d ["_law_hand_here", "_law_many"] (spD [.hd,.sh] spDrawD):=(ok_draw T).imp fun vs H Q E h=>by
  obtain⟨F,hand,ds,Qd,h1,h2,h3,a,⟨m,rfl,m0,m1,hr⟩,h5⟩:=h
  obtain⟨q,vs',d,ds',e,rfl,e2,a⟩:=hd_args a
  cases e2
  subst e
  cases a with
  | cons x t=>
    cases t
    cases (show ThV F H _ (.int m) from x)
    exact⟨q.1,q.2,m,rfl,h3 q rfl,m0,m1,fun r H' r0 r1 hd kp=>h5 _ _ _ (hr r r0 r1) (.int r) (fun b o eb n=>kp b o eb (n q rfl)) fun q' e'=>by cases e';exact hd⟩
end
def oD:Option Int→PyData
  | none=>.none
  | some i=>.int i
def onD:Option Nat→PyData
  | none=>.none
  | some n=>.int (n:Nat)
def intsL (ns:List Int):List PyData:=ns.map PyData.int
def tabL (t:Tb):List PyData:=t.map oD
def rnL (t:Rn):List PyData:=t.map onD
def rowD (r:Rw):PyData:=.tuple [.list (tabL r.1),.list (rnL r.2)]
def wayD (w:Wy):PyData:=.tuple [.int (w.1:Nat),.int (w.2.1:Nat),.int w.2.2]
def landD (m:Nat) (ws:List Wy):PyData:=.tuple [.int (m:Nat),.list (ws.map wayD)]
def effD:Ef→PyData
  | none=>.none
  | some (l,g,t)=>.tuple [.int l,.int g,.int t]
def numL (ns:List Nat):List PyData:=ns.map fun n=>.int (n:Nat)
def partD (p:List Nat×Int):PyData:=.tuple [.list (numL p.1),.int p.2]
local macro_rules|`(tactic|decreasing_trivial)=>mqT [``oD,``onD,``effD,``rowD,``landD,``wayD,``partD,``spotD]
local macro_rules|`(tactic|array_mem_dec)=>mqT [``dFor,``dIl,``dIv,``dIt,``dRng1,``dRng2,``dEnum,``dIrev,``oD,``onD,``effD,``rowD,``landD,``wayD,``partD,``spotD]
local macro_rules|`(tactic|decreasing_trivial_pre_omega)=>mqT [``Blk,``oD,``onD,``effD,``rowD,``landD,``wayD,``partD,``spotD]
theorem tab_at {t:Tb} {p:Nat} (h:p < t.length):atI (tabL t) ((p:Nat):Int)=some (oD (gt t p)):=atI_nat (by unfold tabL;rw[List.getElem?_map,gt_at h];rfl)
theorem rn_at {t:Rn} {p:Nat} (h:p < t.length):atI (rnL t) ((p:Nat):Int)=some (onD (gt t p)):=atI_nat (by unfold rnL;rw[List.getElem?_map,gt_at h];rfl)
theorem way_at {ws:List Wy} {n:Nat} {w:Wy} (h:ws[n]?=some w):atI (ws.map wayD) ((n:Nat):Int)=some (wayD w):=atI_nat (by rw[List.getElem?_map,h];rfl)
theorem ixN_nat {n j:Nat} (h:j < n):ixN n ((j:Nat):Int)=some j:=by
  unfold ixN
  rw[if_pos (by omega),if_pos (by omega)]
  simp
theorem atI_last1 {α:Type} {xs:List α} {x:α} (h:xs.getLast?=some x):atI xs (-1)=some x:=by
  obtain⟨ys,rfl⟩:=List.getLast?_eq_some_iff.mp h
  exact atI_last ys x
def spStepD:DSp:=fun ds Q=>∃st lv ch:Int,ds=[.int st,.int lv,.int ch]∧Q (oD (stepF st lv ch))
def spLevsD:DSp:=fun ds Q=>∃(st lv:Int) (cs:List Int),ds=[.int st,.int lv,.list (intsL cs)]∧cs.length≤900∧Q (.list (intsL (levF st lv cs)))
def spNoneD:DSp:=fun ds Q=>∃st:Int,ds=[.int st]∧Q (effD (some (0,0,st)))
def spOneD:DSp:=fun ds Q=>∃st c:Int,ds=[.int st,.int c]∧Q (effD (oneF st c))
def spPassedD:DSp:=fun ds Q=>∃(e:Ef) (x:Int),ds=[effD e,.int x]∧Q (oD (passF e x))
def spJoinedD:DSp:=fun ds Q=>∃a b:Ef,ds=[effD a,effD b]∧Q (effD (joinF a b))
def spFxD:DSp:=fun ds Q=>∃(st:Int) (cs:List Int),ds=[.int st,.list (intsL cs)]∧Q (effD (fxF st cs))
def wholeD (d:PyData):Bool:=isiD "int" d&&!isiD "bool" d
def spWholeD:DSp:=fun ds Q=>∃d,ds=[d]∧Q (.bool (wholeD d))
def spPlaceD:DSp:=fun ds Q=>∃(m:Int) (n:Int),ds=[.int m,.int n]∧Q (.bool (decide (0≤n∧n < m)))
def spMoreD:DSp:=fun ds Q=>∃a b:Option Int,ds=[oD a,oD b]∧Q (.bool (moreF a b))
def spBehD:DSp:=fun ds Q=>∃(st:Int) (t:Tb) (w:Wy),ds=[.int st,.list (tabL t),wayD w]∧w.1 < t.length∧Q (oD (behF st t w))
section
variable {P:Program} {w:World} {K:PySem.W.Frag} {mg:Str→Option Value} {base:Heap}
theorem ok_stepped (T:Txt K mg):FnOk P w K mg base CX0 1 T.f_stepped.a T.f_stepped.d ["store", "level", "change"] (spD [.sh,.sh,.sh] spStepD):=by
  refine fn_d T.f_stepped.F sc_stepped rfl (fun C cdv A outer s H E hr=>⟨_,(@dss_cons _ _ _ _ _ _ (ds_set (ps_set (i:=3) sc_stepped.nd rfl (Or.inl rfl) (pd_op op_add ok_add (pd_var (pv 1)) (pd_var (pv 2))))) (dss_cons (ds_if (pdt_cmp op_lt ok_lt (pd_var (pv 3)) pd_int (nomark _))
      (dss_one (ds_ret pd_non))
      dss_nil)
      (dss_one (ds_ret (pd_cb cb_min (pe_callB (call_min2 rfl) rfl T.n_min bt_min (dv_cons (pd_var (pv 3)) (dv_cons (pd_var (pv 0)) dv_nil se_Name) se_Name) (he:=se_Name) (hpl:=(np_cons se_Name np_nil)))))))),fun ds Q hl h=>?_⟩)
  obtain⟨st,lv,ch,rfl,q⟩:=h
  decreasing_tactic
  unfold stepF at q
  by_cases c:lv + ch < 0
  · rw[decide_eq_true c,if_pos rfl]
    rw[if_pos c] at q;exact q
  · rw[decide_eq_false c,if_neg Bool.false_ne_true]
    rw[if_neg c] at q;exact q
theorem ok_is_whole (T:Txt K mg):FnOk P w K mg base CX0 1 T.f_is_whole.a T.f_is_whole.d ["thing"] (spD [.sh] spWholeD):=by
  refine fn_d T.f_is_whole.F sc_is_whole rfl (fun C cdv A outer s H E hr=>⟨_,(@dss_one _ _ _ _ (@ds_ret _ _ _ _ _ (@pd_and _ _ _ _ _ _ _ _ (pd_isiv ty_int (pe_callB call_isinst2 rfl T.n_isinstance bt_isinstance (pa_cons (pv 0) (pa_cons (pe_bltn (v:=V.ty "int") rfl T.n_int bt_int rfl) pa_nil se_Name) se_Name) (he:=se_Name) (hpl:=(np_cons se_Name np_nil)))) (pd_one (pd_not (pd_isiv ty_bool (pe_callB call_isinst2 rfl T.n_isinstance bt_isinstance (pa_cons (pv 0) (pa_cons (pe_bltn (v:=V.ty "bool") rfl T.n_bool bt_bool rfl) pa_nil se_Name) se_Name) (he:=se_Name) (hpl:=(np_cons se_Name np_nil))))))))),fun ds Q hl h=>?_⟩)
  obtain⟨d,rfl,q⟩:=h
  decreasing_tactic
  unfold wholeD at q
  cases d <;> exact q
theorem ok_is_place (T:Txt K mg):FnOk P w K mg base CX0 2 T.f_is_place.a T.f_is_place.d ["many", "thing"] (spD [.sh,.sh] spPlaceD):=by
  have G_is_whole:=@ok_is_whole P w K mg base T
  have b_is_whole:=T.f_is_whole.b
  refine fn_d T.f_is_place.F sc_is_place rfl (fun C cdv A outer s H E hr=>⟨_,(dss_one (ds_ret (pd_and (pd_call (pe_call G_is_whole (hr.mono (by decide)) rfl T.f_is_whole.m T.f_is_whole.F.kp b_is_whole .nil pass0 (da_v (pd_var (pv 1)) da_nil se_Name) (he:=se_Name) (hpl:=np_nil))) (pd_one (pd_chain op_le op_lt pd_int (pd_var (pv 1)) (pd_var (pv 0))))))),fun ds Q hl h=>?_⟩)
  obtain⟨m,n,rfl,q⟩:=h
  decreasing_tactic
  refine⟨_,rfl,?_⟩
  decreasing_tactic
  by_cases c:0≤n
  · by_cases c2:n < m
    · simpa [c,c2,wholeD,isiD,tyD,spWholeD] using q
    · simpa [c,c2,wholeD,isiD,tyD] using q
  · simpa [c,wholeD,isiD,tyD] using q
theorem ok_is_more (T:Txt K mg):FnOk P w K mg base CX0 1 T.f_is_more.a T.f_is_more.d ["one", "other"] (spD [.sh,.sh] spMoreD):=by
  refine fn_d T.f_is_more.F sc_is_more rfl (fun C cdv A outer s H E hr=>⟨_,(dss_one (ds_ret (pd_and (pd_cmp op_notN ok_notN (pd_var (pv 0)) pd_non (nomark _)) (pd_one (pd_or (pd_cmp op_isN ok_isN (pd_var (pv 1)) pd_non (nomark _)) (pd_one (pd_cmp op_gt ok_gt (pd_var (pv 0)) (pd_var (pv 1)) (nomark _)))))))),fun ds Q hl h=>?_⟩)
  obtain⟨a,b,rfl,q⟩:=h
  cases a with
  | none=>
    decreasing_tactic
    exact q
  | some x=>
    cases b with
    | none=>
      decreasing_tactic
      exact q
    | some y=>
      decreasing_tactic
      exact q
theorem ok_behind_way (T:Txt K mg):FnOk P w K mg base CX0 2 T.f_behind_way.a T.f_behind_way.d ["store", "table", "way"] (spD [.sh,.sh,.sh] spBehD):=by
  have G_stepped:=@ok_stepped P w K mg base T
  have b_stepped:=T.f_stepped.b
  refine fn_d T.f_behind_way.F sc_behind_way rfl (fun C cdv A outer s H E hr=>⟨_,(@dss_cons _ _ _ _ _ _ (ds_set (ps_set (i:=3) sc_behind_way.nd rfl (Or.inl rfl) (pd_ixv (pv 1) (pd_ixv (pv 2) (pd_gi (pe_glob (v:=V.int 0) rfl T.mg_START ⟨_,rfl⟩)) (fun _ _=>rfl)) (fun _ _=>rfl)))) (@dss_cons _ _ _ _ _ _ (ds_if (pdt_cmp op_isN ok_isN (pd_var (pv 3)) pd_non (nomark _))
      (dss_one (ds_ret pd_non))
      dss_nil) (dss_one (ds_ret (pd_call (pe_call G_stepped (hr.mono (by decide)) rfl T.f_stepped.m T.f_stepped.F.kp b_stepped .nil pass0 (da_v (pd_var (pv 0)) (da_v (pd_var (pv 3)) (da_v (pd_ixv (pv 2) (pd_gi (pe_glob (v:=V.int 2) rfl T.mg_CHANGE ⟨_,rfl⟩)) (fun _ _=>rfl)) da_nil se_Subscript) se_Name) se_Name) (he:=se_Name) (hpl:=(np_cons se_Name (np_cons se_Subscript np_nil))))))))),fun ds Q hl h=>?_⟩)
  obtain⟨st,t,w,rfl,hw,q⟩:=h
  decreasing_trivial
  rw[tab_at hw]
  unfold behF at q
  cases e:gt t w.1 with
  | none=>
    rw[e] at q
    decreasing_trivial
    exact q
  | some l=>
    rw[e] at q
    decreasing_trivial
    exact⟨_,_,_,rfl,q⟩
theorem ok_passed (T:Txt K mg):FnOk P w K mg base CX0 1 T.f_passed.a T.f_passed.d ["effect", "level"] (spD [.sh,.sh] spPassedD):=by
  refine fn_d T.f_passed.F sc_passed rfl (fun C cdv A outer s H E hr=>⟨_,(@dss_cons _ _ _ _ _ _ (ds_if (PW.pt (pwd_or (pdt_cmp op_isN ok_isN (pd_var (pv 0)) pd_non (nomark _)) (pwd_or1 (pdt_cmp op_lt ok_lt (pd_var (pv 1)) (pd_ixv (pv 0) (pd_gi (pe_glob (v:=V.int 0) rfl T.mg_LEAST ⟨_,rfl⟩)) (fun _ _=>rfl)) (nomark _)))))
      (dss_one (ds_ret pd_non))
      dss_nil) (dss_one (ds_ret (pd_cb cb_min (pe_callB (call_min2 rfl) rfl T.n_min bt_min (dv_cons (pd_op op_add ok_add (pd_var (pv 1)) (pd_ixv (pv 0) (pd_gi (pe_glob (v:=V.int 1) rfl T.mg_GAIN ⟨_,rfl⟩)) (fun _ _=>rfl))) (dv_cons (pd_ixv (pv 0) (pd_gi (pe_glob (v:=V.int 2) rfl T.mg_TOP ⟨_,rfl⟩)) (fun _ _=>rfl)) dv_nil se_Subscript) se_BinOp) (he:=se_BinOp) (hpl:=(np_cons se_Subscript np_nil))))))),fun ds Q hl h=>?_⟩)
  obtain⟨e,x,rfl,q⟩:=h
  rcases e with _ | ⟨l,g,t⟩
  · decreasing_trivial
    exact q
  · unfold passF at q
    dsimp only at q
    decreasing_trivial
    by_cases c:x < l
    · rw[if_pos c] at q
      simp only[c,decide_true,if_true]
      exact q
    · rw[if_neg c] at q
      simp only[c,decide_false,Bool.false_eq_true,if_false]
      exact q
theorem ok_joined (T:Txt K mg):FnOk P w K mg base CX0 2 T.f_joined.a T.f_joined.d ["one", "other"] (spD [.sh,.sh] spJoinedD):=by
  have G_passed:=@ok_passed P w K mg base T
  have b_passed:=T.f_passed.b
  refine fn_d T.f_joined.F sc_joined rfl (fun C cdv A outer s H E hr=>⟨_,(@dss_cons _ _ _ _ _ _ (@ds_if _ _ _ _ _ _ _ _ _ (PW.pt (pwd_or (pdt_cmp op_isN ok_isN (pd_var (pv 0)) pd_non (nomark _)) (pwd_or (pdt_cmp op_isN ok_isN (pd_var (pv 1)) pd_non (nomark _)) (pwd_or1 (pdt_cmp op_lt ok_lt (pd_ixv (pv 0) (pd_gi (pe_glob (v:=V.int 2) rfl T.mg_TOP ⟨_,rfl⟩)) (fun _ _=>rfl)) (pd_ixv (pv 1) (pd_gi (pe_glob (v:=V.int 0) rfl T.mg_LEAST ⟨_,rfl⟩)) (fun _ _=>rfl)) (nomark _)))))) (dss_one (ds_ret pd_non)) dss_nil) (@dss_cons _ _ _ _ _ _ (@ds_set _ _ _ _ _ (@ps_set _ _ 2 _ _ _ _ sc_joined.nd rfl (Or.inl rfl) (@pd_cb _ _ _ _ _ _ cb_max (@pe_callB _ _ _ _ _ _ _ _ _ (call_max2 rfl) rfl T.n_max bt_max (dv_cons (pd_ixv (pv 0) (pd_gi (pe_glob (v:=V.int 0) rfl T.mg_LEAST ⟨_,rfl⟩)) (fun _ _=>rfl)) (dv_cons (pd_op op_sub ok_sub (pd_ixv (pv 1) (pd_gi (pe_glob (v:=V.int 0) rfl T.mg_LEAST ⟨_,rfl⟩)) (fun _ _=>rfl)) (pd_ixv (pv 0) (pd_gi (pe_glob (v:=V.int 1) rfl T.mg_GAIN ⟨_,rfl⟩)) (fun _ _=>rfl))) dv_nil se_BinOp) se_Subscript) (by decide) (by decide) se_Subscript ((np_cons se_BinOp np_nil)))) (by rfl) (by first | exact .inl rfl | exact .inr rfl | assumption))) (@dss_one _ _ _ _ (@ds_ret _ _ _ _ _ (@pd_tup _ _ _ _ _ _ (@dv_cons _ _ _ _ _ _ (pd_var (pv 2)) (@dv_cons _ _ _ _ _ _ (pd_op op_add ok_add (pd_ixv (pv 0) (pd_gi (pe_glob (v:=V.int 1) rfl T.mg_GAIN ⟨_,rfl⟩)) (fun _ _=>rfl)) (pd_ixv (pv 1) (pd_gi (pe_glob (v:=V.int 1) rfl T.mg_GAIN ⟨_,rfl⟩)) (fun _ _=>rfl))) (dv_cons (pd_call (pe_call G_passed (hr.mono (by decide)) rfl T.f_passed.m T.f_passed.F.kp b_passed .nil pass0 (da_v (pd_var (pv 1)) (da_v (pd_ixv (pv 0) (pd_gi (pe_glob (v:=V.int 2) rfl T.mg_TOP ⟨_,rfl⟩)) (fun _ _=>rfl)) da_nil se_Subscript) se_Name) (he:=se_Name) (hpl:=(np_cons se_Subscript np_nil)))) dv_nil se_Call) se_BinOp) se_Name)))))),fun ds Q hl h=>?_⟩)
  obtain⟨a,b,rfl,q⟩:=h
  rcases a with _ | ⟨l1,g1,t1⟩
  · decreasing_trivial
    exact q
  · rcases b with _ | ⟨l2,g2,t2⟩
    · decreasing_trivial
      exact q
    · decreasing_trivial
      by_cases c:t1 < l2
      · rw[join_none (a:=(l1,g1,t1)) (b:=(l2,g2,t2)) c] at q
        simp only[c,decide_true,if_true]
        exact q
      · rw[join_eq (a:=(l1,g1,t1)) (b:=(l2,g2,t2)) c] at q
        simp only[c,decide_false,Bool.false_eq_true,if_false]
        refine⟨some (l2,g2,t2),t1,rfl,?_⟩
        have e:oD (passF (some (l2,g2,t2)) t1)=.int (if t2 < t1 + g2 then t2 else t1 + g2):=by
          unfold passF
          dsimp only
          rw[if_neg c]
          rfl
        rw[e]
        decreasing_tactic
        simp only[effD] at q
        exact⟨by decide,q⟩
theorem ok_effect_of_none (T:Txt K mg):FnOk P w K mg base CX0 1 T.f_effect_of_none.a T.f_effect_of_none.d ["store"] (spD [.sh] spNoneD):=by
  refine fn_d T.f_effect_of_none.F sc_effect_of_none rfl (fun C cdv A outer s H E hr=>⟨_,(dss_one (ds_ret (pd_tup (dv_cons pd_int (dv_cons pd_int (dv_cons (pd_var (pv 0)) dv_nil se_Name) se_Constant) se_Constant)))),fun ds Q hl h=>?_⟩)
  obtain⟨st,rfl,q⟩:=h
  decreasing_trivial
  exact⟨by decide,q⟩
theorem ok_effect_of_one (T:Txt K mg):FnOk P w K mg base CX0 1 T.f_effect_of_one.a T.f_effect_of_one.d ["store", "change"] (spD [.sh,.sh] spOneD):=by
  refine fn_d T.f_effect_of_one.F sc_effect_of_one rfl (fun C cdv A outer s H E hr=>⟨_,(@dss_cons _ _ _ _ _ _ (ds_if (pdt_cmp op_lt ok_lt (pd_op op_add ok_add (pd_var (pv 0)) (pd_var (pv 1))) pd_int (nomark _))
      (dss_one (ds_ret pd_non))
      dss_nil) (@dss_one _ _ _ _ (@ds_ret _ _ _ _ _ (@pd_tup _ _ _ _ _ _ (@dv_cons _ _ _ _ _ _ (pd_cb cb_max (pe_callB (call_max2 rfl) rfl T.n_max bt_max (dv_cons pd_int (dv_cons (pd_neg (pd_var (pv 1))) dv_nil se_UnaryOp) se_Constant) (he:=se_Constant) (hpl:=(np_cons se_UnaryOp np_nil)))) (dv_cons (pd_var (pv 1)) (dv_cons (pd_cb cb_min (pe_callB (call_min2 rfl) rfl T.n_min bt_min (dv_cons (pd_var (pv 0)) (dv_cons (pd_op op_add ok_add (pd_var (pv 0)) (pd_var (pv 1))) dv_nil se_BinOp) se_Name) (he:=se_Name) (hpl:=(np_cons se_BinOp np_nil)))) dv_nil se_Call) se_Name) se_Call))))),fun ds Q hl h=>?_⟩)
  obtain⟨st,c,rfl,q⟩:=h
  unfold oneF at q
  decreasing_trivial
  by_cases d:st + c < 0
  · rw[if_pos d] at q
    simp only[d,decide_true,if_true]
    exact q
  · rw[if_neg d] at q
    simp only[d,decide_false,Bool.false_eq_true,if_false]
    exact⟨by decide,q⟩
theorem ok_effect_of (T:Txt K mg):FnOk P w K mg base CX0 3 T.f_effect_of.a T.f_effect_of.d ["store", "changes"] (spD [.sh,.sh] spFxD):=by
  have G_effect_of_none:=@ok_effect_of_none P w K mg base T
  have b_effect_of_none:=T.f_effect_of_none.b
  have G_effect_of_one:=@ok_effect_of_one P w K mg base T
  have b_effect_of_one:=T.f_effect_of_one.b
  have G_joined:=@ok_joined P w K mg base T
  have b_joined:=T.f_joined.b
  refine fn_d T.f_effect_of.F sc_effect_of rfl (fun C cdv A outer s H E hr=>⟨_,(@dss_cons _ _ _ _ _ _ (ds_set (ps_set (i:=2) sc_effect_of.nd rfl (Or.inl rfl) (pd_call (pe_call G_effect_of_none (hr.mono (by decide)) rfl T.f_effect_of_none.m T.f_effect_of_none.F.kp b_effect_of_none .nil pass0 (da_v (pd_var (pv 0)) da_nil se_Name) (he:=se_Name) (hpl:=np_nil))))) (@dss_cons _ _ _ _ _ _ (@ds_for _ _ _ _ _ _ (@ps_for _ _ _ _ _ _ _ _ PassesOwn.never rfl (di_var (pv 1)) (dg_name (pg_name (i:=3) sc_effect_of.nd rfl (Or.inl rfl))) (@dss_one _ _ _ _ (@ds_set _ _ _ _ _ (@ps_set _ _ 2 _ _ _ _ sc_effect_of.nd rfl (Or.inl rfl) (@pd_call _ _ _ _ _ _ _ (@pe_call _ _ _ _ _ _ _ _ _ _ _ _ _ _ _ _ G_joined (hr.mono (by decide)) rfl T.f_joined.m T.f_joined.F.kp b_joined .nil pass0 (da_v (pd_var (pv 2)) (da_v (pd_call (pe_call G_effect_of_one (hr.mono (by decide)) rfl T.f_effect_of_one.m T.f_effect_of_one.F.kp b_effect_of_one .nil pass0 (da_v (pd_var (pv 0)) (da_v (pd_var (pv 3)) da_nil se_Name) se_Name) (he:=se_Name) (hpl:=(np_cons se_Name np_nil)))) da_nil se_Call) se_Name) (by decide) se_Name ((np_cons se_Call np_nil)))) (by rfl) (by first | exact .inl rfl | exact .inr rfl | assumption)))) (by intro _;rfl))) (dss_one (ds_ret (pd_var (pv 2)))))),fun ds Q hl h=>?_⟩)
  obtain⟨st,cs,rfl,q⟩:=h
  decreasing_tactic
  refine⟨st,rfl,?_⟩
  array_get_dec
  refine⟨fun r ρ=>∃(cs':List Int) (e:Ef) (z0 z:Sl),r=intsL cs'∧ρ=[Sl.sh (.int st),z0,Sl.sh (effD e),z]∧Q (effD (foF st e cs')),⟨cs,_,_,_,rfl,rfl,q⟩,?_,?_⟩
  · rintro x r ρ ⟨cs',e,z0,z,h1,rfl,q⟩
    cases cs' with
    | nil=>cases h1
    | cons c cs'=>
      cases (show x::r=PyData.int c::intsL cs' from h1)
      sizeOf_list_dec
      refine⟨_,_,rfl,?_⟩
      decreasing_tactic
      refine⟨_,_,rfl,?_⟩
      exact⟨cs',_,_,_,rfl,rfl,q⟩
  · rintro ρ ⟨cs',e,z0,z,h1,rfl,q⟩
    cases cs' with
    | nil=>
      decreasing_tactic
      exact q
    | cons c cs'=>cases h1
theorem ok_levels_along (T:Txt K mg):FnOk P w K mg base CX0 2 T.f_levels_along.a T.f_levels_along.d ["store", "level", "changes"] (spD [.sh,.sh,.sh] spLevsD):=by
  have G_stepped:=@ok_stepped P w K mg base T
  have b_stepped:=T.f_stepped.b
  refine fn_d T.f_levels_along.F sc_levels_along rfl (fun C cdv A outer s H E hr=>⟨_,(@dss_cons _ _ _ _ _ _ (ds_own (ps_set (i:=3) sc_levels_along.nd rfl (Or.inl rfl) (pf_lst (dv_cons (pd_var (pv 1)) dv_nil se_Name)))) (@dss_cons _ _ _ _ _ _ (@ds_for _ _ _ _ _ _ (@ps_for _ _ _ _ _ _ _ _ PassesOwn.never rfl (di_var (pv 2)) (dg_name (pg_name (i:=4) sc_levels_along.nd rfl (Or.inl rfl))) (@dss_cons _ _ _ _ _ _ (ds_set (ps_set (i:=5) sc_levels_along.nd rfl (Or.inl rfl) (pd_call (pe_call G_stepped (hr.mono (by decide)) rfl T.f_stepped.m T.f_stepped.F.kp b_stepped .nil pass0 (da_v (pd_var (pv 0)) (da_v (pd_ixv (pv 3) (pd_neg pd_int) (fun _ _=>rfl)) (da_v (pd_var (pv 4)) da_nil se_Name) se_Subscript) se_Name) (he:=se_Name) (hpl:=(np_cons se_Subscript (np_cons se_Name np_nil))))))) (dss_cons (ds_if (pdt_cmp op_isN ok_isN (pd_var (pv 5)) pd_non (nomark _))
      (dss_one (ds_ret (pd_var (pv 3))))
      dss_nil)
      (dss_one (ds_app (ps_expr (pe_bm PySem.F.plainAttrs_list PySem.F.slot_list_append PySem.F.type_list_append mt_append (pv 3) (pa_cons (pd_var (pv 5)) pa_nil se_Name))))))) (by intro _;rfl))) (dss_one (ds_ret (pd_var (pv 3)))))),fun ds Q hl h=>?_⟩)
  obtain⟨st,lv,cs,rfl,hn,q⟩:=h
  array_get_dec
  refine⟨by decide,fun r ρ=>∃(cs' ys:List Int) (l:Int) (z0 z1 z2:Sl),r=intsL cs'∧ρ=[Sl.sh (.int st),Sl.sh (.int lv),z0,Sl.ow (intsL (ys++[l])),z1,z2]∧ys.length + cs'.length=cs.length∧ys++levF st l cs'=levF st lv cs,⟨cs,[],lv,_,_,_,rfl,rfl,by simp,rfl⟩,?_,?_⟩
  · rintro x r ρ ⟨cs',ys,l,z0,z1,z2,h1,rfl,h2,h3⟩
    cases cs' with
    | nil=>cases h1
    | cons c cs'=>
      cases (show x::r=PyData.int c::intsL cs' from h1)
      have hlast:atI (intsL (ys++[l])) (-1)=some (.int l):=atI_last1 (by unfold intsL;simp)
      sizeOf_list_dec
      rw[hlast]
      decreasing_tactic
      refine⟨_,_,_,rfl,?_⟩
      cases e:stepF st l c with
      | none=>
        rw[levF_none e] at h3
        decreasing_trivial
        rw[h3]
        exact q
      | some v=>
        rw[levF_some e] at h3
        decreasing_trivial
        refine⟨by unfold intsL;rw[List.length_map,List.length_append];simp at h2 ⊢;omega,cs',ys++[l],v,z0,_,_,rfl,by rw[show intsL (ys++[l]++[v])=intsL (ys++[l])++[.int v] by unfold intsL;simp],by simp at h2 ⊢;omega,by rw[←h3];simp⟩
  · rintro ρ ⟨cs',ys,l,z0,z1,z2,h1,rfl,h2,h3⟩
    cases cs' with
    | nil=>
      decreasing_tactic
      have e:ys++[l]=levF st lv cs:=h3
      rw[e]
      exact q
    | cons c cs'=>cases h1
end
theorem len_tab {t:Tb}:(tabL t).length=t.length:=by unfold tabL;rw[List.length_map]
theorem len_rn {t:Rn}:(rnL t).length=t.length:=by unfold rnL;rw[List.length_map]
theorem len_num {t:List Nat}:(numL t).length=t.length:=by unfold numL;rw[List.length_map]
theorem set_tab {t:Tb} {i:Nat} {x:Option Int}:(tabL t).set i (oD x)=tabL (t.set i x):=by unfold tabL;rw[List.map_set]
theorem set_rn {t:Rn} {i n:Nat}:(rnL t).set i (.int (n:Nat))=rnL (t.set i (some n)):=by unfold rnL;rw[List.map_set];rfl
theorem rep_rn {n:Nat}:repD [PyData.none] n=rnL (List.replicate n none):=by
  unfold repD rnL
  induction n with
  | zero=>rfl
  | succ n ih=>rw[List.replicate_succ,List.replicate_succ,List.flatten_cons,List.map_cons,ih];rfl
theorem rep_tab {n:Nat}:repD [PyData.none] n=tabL (List.replicate n none):=by
  unfold repD tabL
  induction n with
  | zero=>rfl
  | succ n ih=>rw[List.replicate_succ,List.replicate_succ,List.flatten_cons,List.map_cons,ih];rfl
theorem enum_ways {ws:List Wy}:enumD (ws.map wayD)=ws.zipIdx.map fun p=>.tuple [.int (p.2:Nat),wayD p.1]:=by
  unfold enumD
  rw[List.zipIdx_map,List.map_map]
  rfl
def spChD:DSp:=fun ds Q=>∃(m:Nat) (ws:List Wy) (ns:List Nat),ds=[landD m ws,.list (numL ns)]∧(∀n∈ns,n < ws.length)∧ns.length≤900∧Q (.list (intsL (chs ws ns)))
def spFirstD:DSp:=fun ds Q=>∃t:Tb,ds=[.list (tabL t)]∧t.length≤900∧Q (rowD (t,List.replicate t.length none))
def spRowD:DSp:=fun ds Q=>∃(m:Nat) (ws:List Wy) (st:Int) (t s:Tb),ds=[landD m ws,.int st,.list (tabL t),.list (tabL s)]∧LandOk m ws∧t.length=m∧s.length=m∧Q (rowD (rowF m ws st t s))
def RowsOk (m:Nat) (ws:List Wy) (rs:List Rw):Prop:=∀r∈rs,r.2.length=m∧∀q n,gt r.2 q=some n→n < ws.length
def spWalkD:DSp:=fun ds Q=>∃(m:Nat) (ws:List Wy) (rs:List Rw) (p:Nat),ds=[landD m ws,.list (rs.map rowD),.int (p:Nat)]∧p < m∧LandOk m ws∧RowsOk m ws rs∧rs.length≤900∧Q (.tuple [.int ((wlk ws rs.reverse p).1:Nat),.list (numL (wlk ws rs.reverse p).2)])
section
variable {P:Program} {w:World} {K:PySem.W.Frag} {mg:Str→Option Value} {base:Heap}
theorem ok_changes_of (T:Txt K mg):FnOk P w K mg base CX0 1 T.f_changes_of.a T.f_changes_of.d ["land", "numbers"] (spD [.sh,.sh] spChD):=by
  refine fn_d T.f_changes_of.F sc_changes_of rfl (fun C cdv A outer s H E hr=>⟨_,(dss_one (ds_ret (pd_f (pf_comp rfl (pe_comp (CompSc.new (N:=["land", "numbers"]) (osc:=defScope s_changes_of) (by decide +kernel)) rfl (di_var (pv 1)) (fun _=>dts_nil) (fun _=>(pd_ix (pd_ix (pd_ixv (pv 0) (pd_gi (pe_glob (v:=V.int 1) rfl T.mg_WAYS ⟨_,rfl⟩)) (fun _ _=>rfl)) (pd_var (pv 2)) (fun _ _=>rfl)) (pd_gi (pe_glob (v:=V.int 2) rfl T.mg_CHANGE ⟨_,rfl⟩)) (fun _ _=>rfl)))))))),fun ds Q hl h=>?_⟩)
  obtain⟨m,ws,ns,rfl,hb,hn,q⟩:=h
  array_mem_dec
  refine⟨⟨rfl,by rw[len_num];omega⟩,?_⟩
  unfold numL
  refine compM (f:=fun n=>.int (wchN ws n)) (fun n hm Q' q'=>?_) ?_
  · obtain⟨w,hw⟩:∃w,ws[n]?=some w:=⟨_,List.getElem?_eq_getElem (hb n hm)⟩
    decreasing_trivial
    rw[way_at hw]
    decreasing_trivial
    have e:wchN ws n=w.2.2:=by unfold wchN;rw[hw]
    rw[e] at q'
    exact q'
  · unfold intsL chs at q
    rw[List.map_map] at q
    exact q
theorem ok_first_row (T:Txt K mg):FnOk P w K mg base CX0 1 T.f_first_row.a T.f_first_row.d ["table"] (spD [.bo] spFirstD):=by
  refine fn_d T.f_first_row.F sc_first_row rfl (fun C cdv A outer s H E hr=>⟨_,(dss_one (ds_ret (pd_tup (dv_cons (pd_f (pf_listv (pe_callTy call_list_of rfl T.n_list bt_list (pa_cons (pv 0) pa_nil se_Name) (he:=se_Name) (hpl:=np_nil)))) (dv_cons (pd_f (pf_rep (pd_f (pf_lst (dv_cons pd_non dv_nil se_Constant))) (pd_lenv (pe_callB call_len_seq rfl T.n_len bt_len (pa_cons (pv 0) pa_nil se_Name) (he:=se_Name) (hpl:=np_nil))))) dv_nil se_BinOp) se_Call)))),fun ds Q hl h=>?_⟩)
  obtain⟨t,rfl,hn,q⟩:=h
  decreasing_trivial
  refine⟨by decide,⟨by omega,by rw[len_tab];omega,by decide⟩,by decide,?_⟩
  unfold rowD at q
  rw[len_tab,show ((t.length:Nat):Int).toNat=t.length by simp,rep_rn]
  exact q
theorem ok_row_behind (T:Txt K mg):FnOk P w K mg base CX0 3 T.f_row_behind.a T.f_row_behind.d ["land", "store", "table", "stayed"] (spD [.sh,.sh,.sh,.sh] spRowD):=by
  have G_behind_way:=@ok_behind_way P w K mg base T
  have b_behind_way:=T.f_behind_way.b
  have G_is_more:=@ok_is_more P w K mg base T
  have b_is_more:=T.f_is_more.b
  refine fn_d T.f_row_behind.F sc_row_behind rfl (fun C cdv A outer s H E hr=>⟨_,(@dss_cons _ _ _ _ _ _ (ds_own (ps_set (i:=4) sc_row_behind.nd rfl (Or.inl rfl) (pf_listv (pe_callTy call_list_of rfl T.n_list bt_list (pa_cons (pv 3) pa_nil se_Name) (he:=se_Name) (hpl:=np_nil))))) (@dss_cons _ _ _ _ _ _ (ds_own (ps_set (i:=5) sc_row_behind.nd rfl (Or.inl rfl) (pf_rep (pd_f (pf_lst (dv_cons pd_non dv_nil se_Constant))) (pd_ixv (pv 0) (pd_gi (pe_glob (v:=V.int 0) rfl T.mg_MANY ⟨_,rfl⟩)) (fun _ _=>rfl))))) (@dss_cons _ _ _ _ _ _ (@ds_for _ _ _ _ _ _ (@ps_for _ _ _ _ _ _ _ _ PassesOwn.never rfl (di_enum (pi_enum rfl T.n_enumerate (pa_cons (pd_ixv (pv 0) (pd_gi (pe_glob (v:=V.int 1) rfl T.mg_WAYS ⟨_,rfl⟩)) (fun _ _=>rfl)) pa_nil se_Subscript))) (dg_t2 (pg_tup (n:=2) rfl (pgs_cons (pg_name (i:=6) sc_row_behind.nd rfl (Or.inl rfl)) (pgs_cons (pg_name (i:=7) sc_row_behind.nd rfl (Or.inl rfl)) pgs_nil)))) (@dss_cons _ _ _ _ _ _ (ds_set (ps_set (i:=8) sc_row_behind.nd rfl (Or.inl rfl) (pd_call (pe_call G_behind_way (hr.mono (by decide)) rfl T.f_behind_way.m T.f_behind_way.F.kp b_behind_way .nil pass0 (da_v (pd_var (pv 1)) (da_v (pd_var (pv 2)) (da_v (pd_var (pv 7)) da_nil se_Name) se_Name) se_Name) (he:=se_Name) (hpl:=(np_cons se_Name (np_cons se_Name np_nil))))))) (@dss_one _ _ _ _ (@ds_if _ _ _ _ _ _ _ _ _ (pdt_val (pd_call (pe_call G_is_more (hr.mono (by decide)) rfl T.f_is_more.m T.f_is_more.F.kp b_is_more .nil pass0 (da_v (pd_var (pv 8)) (da_v (pd_ixv (pv 4) (pd_ixv (pv 7) (pd_gi (pe_glob (v:=V.int 1) rfl T.mg_END ⟨_,rfl⟩)) (fun _ _=>rfl)) (fun _ _=>rfl)) da_nil se_Subscript) se_Name) (he:=se_Name) (hpl:=(np_cons se_Subscript np_nil))))) (dss_cons (ds_setI (ps_asg (pd_var (pv 8)) (pg_sub (pv 4) (pd_ixv (pv 7) (pd_gi (pe_glob (v:=V.int 1) rfl T.mg_END ⟨_,rfl⟩)) (fun _ _=>rfl)) set_list)))
      (dss_one (ds_setI (ps_asg (pd_var (pv 6)) (pg_sub (pv 5) (pd_ixv (pv 7) (pd_gi (pe_glob (v:=V.int 1) rfl T.mg_END ⟨_,rfl⟩)) (fun _ _=>rfl)) set_list))))) dss_nil))) (by intro _;rfl))) (dss_one (ds_ret (pd_tup (dv_cons (pd_var (pv 4)) (dv_cons (pd_var (pv 5)) dv_nil se_Name) se_Name))))))),fun ds Q hl h=>?_⟩)
  obtain⟨m,ws,st,t,s0,rfl,ok,ht,hs,q⟩:=h
  have m2:=ok.m2
  array_mem_dec
  refine⟨by decide,⟨by omega,by omega,by decide⟩,?_⟩
  rw[show ((m:Nat):Int).toNat=m by simp,rep_rn,enum_ways]
  refine⟨fun r ρ=>∃(R:List (Wy×Nat)) (acc:Tb×Rn) (z1 z2 z3:Sl),r=R.map (fun p=>.tuple [.int (p.2:Nat),wayD p.1])∧ρ=[Sl.sh (landD m ws),Sl.sh (.int st),Sl.sh (.list (tabL t)),Sl.sh (.list (tabL s0)),Sl.ow (tabL acc.1),Sl.ow (rnL acc.2),z1,z2,z3]∧acc.1.length=m∧acc.2.length=m∧(∀p∈R,p.1∈ws)∧R.foldl (rstep st t) acc=rowF m ws st t s0,
    ⟨ws.zipIdx,(s0,List.replicate m none),_,_,_,rfl,rfl,hs,by simp,fun p hp=>?_,rfl⟩,?_,?_⟩
  · obtain⟨w,n⟩:=p
    rw[List.mem_zipIdx_iff_getElem?] at hp
    exact List.mem_of_getElem? hp
  · rintro x r ρ ⟨R,acc,z1,z2,z3,h1,rfl,l1,l2,hR,hF⟩
    cases R with
    | nil=>cases h1
    | cons p R=>
      cases (show x::r=PyData.tuple [.int (p.2:Nat),wayD p.1]::R.map (fun p=>.tuple [.int (p.2:Nat),wayD p.1]) from h1)
      have hw:=hR p List.mem_cons_self
      have e1:=ok.en _ hw
      have hF':R.foldl (rstep st t) (rstep st t acc p)=rowF m ws st t s0:=hF
      sizeOf_list_dec
      refine⟨_,_,_,rfl,by rw[ht];exact ok.st _ hw,?_⟩
      unfold wayD
      decreasing_tactic
      rw[tab_at (by rw[l1];exact e1)]
      decreasing_tactic
      refine⟨_,_,rfl,?_⟩
      unfold rstep at hF'
      cases c:moreF (behF st t p.1) (gt acc.1 p.1.2.1) with
      | true=>
        rw[if_pos c] at hF'
        decreasing_tactic
        rw[ixN_nat (by rw[len_tab,l1];exact e1)]
        decreasing_tactic
        rw[ixN_nat (by rw[len_rn,l2];exact e1),set_tab]
        decreasing_tactic
        rw[set_rn]
        exact⟨R,_,_,_,_,rfl,rfl,by rw[List.length_set];exact l1,by rw[List.length_set];exact l2,fun p hp=>hR p (List.mem_cons_of_mem _ hp),hF'⟩
      | false=>
        rw[if_neg (by rw[c];exact Bool.false_ne_true)] at hF'
        decreasing_tactic
        exact⟨R,acc,_,_,_,rfl,rfl,l1,l2,fun p hp=>hR p (List.mem_cons_of_mem _ hp),hF'⟩
  · rintro ρ ⟨R,acc,z1,z2,z3,h1,rfl,l1,l2,hR,hF⟩
    cases R with
    | cons p R=>cases h1
    | nil=>
      decreasing_tactic
      refine⟨by decide,?_⟩
      have hF':acc=rowF m ws st t s0:=hF
      rw[←hF'] at q
      exact q
theorem ok_walk_to (T:Txt K mg):FnOk P w K mg base CX0 1 T.f_walk_to.a T.f_walk_to.d ["land", "rows", "place"] (spD [.sh,.sh,.sh] spWalkD):=by
  refine fn_d T.f_walk_to.F sc_walk_to rfl (fun C cdv A outer s H E hr=>⟨_,(@dss_cons _ _ _ _ _ _ (ds_set (ps_set (i:=3) sc_walk_to.nd rfl (Or.inl rfl) (pd_var (pv 2)))) (@dss_cons _ _ _ _ _ _ (ds_own (ps_set (i:=4) sc_walk_to.nd rfl (Or.inl rfl) (pf_lst dv_nil))) (@dss_cons _ _ _ _ _ _ (@ds_for _ _ _ _ _ _ (@ps_for _ _ _ _ _ _ _ _ PassesOwn.never rfl (di_rev (pi_rev rfl T.n_reversed (pa_cons (pd_var (pv 1)) pa_nil se_Name))) (dg_name (pg_name (i:=5) sc_walk_to.nd rfl (Or.inl rfl))) (@dss_cons _ _ _ _ _ _ (ds_set (ps_set (i:=6) sc_walk_to.nd rfl (Or.inl rfl) (pd_ix (pd_ixv (pv 5) (pd_gi (pe_glob (v:=V.int 1) rfl T.mg_RISEN ⟨_,rfl⟩)) (fun _ _=>rfl)) (pd_var (pv 3)) (fun _ _=>rfl)))) (@dss_one _ _ _ _ (@ds_if _ _ _ _ _ _ _ _ _ (pdt_cmp op_notN ok_notN (pd_var (pv 6)) pd_non (nomark _)) (@dss_cons _ _ _ _ _ _ (ds_app (ps_expr (pe_bm PySem.F.plainAttrs_list PySem.F.slot_list_append PySem.F.type_list_append mt_append (pv 4) (pa_cons (pd_var (pv 6)) pa_nil se_Name)))) (dss_one (ds_set (ps_set (i:=3) sc_walk_to.nd rfl (Or.inl rfl) (pd_ix (pd_ix (pd_ixv (pv 0) (pd_gi (pe_glob (v:=V.int 1) rfl T.mg_WAYS ⟨_,rfl⟩)) (fun _ _=>rfl)) (pd_var (pv 6)) (fun _ _=>rfl)) (pd_gi (pe_glob (v:=V.int 0) rfl T.mg_START ⟨_,rfl⟩)) (fun _ _=>rfl)))))) dss_nil))) (by intro _;rfl))) (dss_one (ds_ret (pd_tup (dv_cons (pd_var (pv 3)) (dv_cons (pd_f (pf_lrev (pe_lrev rfl T.n_list rfl T.n_reversed rfl (pa_cons (pd_var (pv 4)) pa_nil se_Name)))) dv_nil se_Call) se_Name))))))),fun ds Q hl h=>?_⟩)
  obtain⟨m,ws,rs,p,rfl,hp,ok,hr2,hn,q⟩:=h
  array_mem_dec
  refine⟨by decide,?_⟩
  refine⟨fun r ρ=>∃(R:List Rw) (here:Nat) (acc:List Nat) (z1 z2:Sl),r=R.map rowD∧ρ=[Sl.sh (landD m ws),Sl.sh (.list (rs.map rowD)),Sl.sh (.int (p:Nat)),Sl.sh (.int (here:Nat)),Sl.ow (numL acc),z1,z2]∧here < m∧RowsOk m ws R∧acc.length + R.length≤rs.length∧wlk ws rs.reverse p=((wlk ws R here).1,(wlk ws R here).2++acc.reverse),
    ⟨rs.reverse,p,[],_,_,by rw[List.map_reverse],rfl,hp,fun r hr=>hr2 r (List.mem_reverse.mp hr),by simp,by simp⟩,?_,?_⟩
  · rintro x r ρ ⟨R,here,acc,z1,z2,h1,rfl,hh,hR,hl2,hW⟩
    cases R with
    | nil=>cases h1
    | cons r0 R=>
      cases (show x::r=rowD r0::R.map rowD from h1)
      obtain⟨l0,b0⟩:=hR r0 List.mem_cons_self
      decreasing_trivial_pre_omega
      rw[rn_at (by rw[l0];exact hh)]
      cases c:gt r0.2 here with
      | none=>
        decreasing_trivial
        refine⟨R,here,acc,_,_,rfl,rfl,hh,fun r hr=>hR r (List.mem_cons_of_mem _ hr),by simp at hl2;omega,?_⟩
        rw[hW]
        have:wlk ws (r0::R) here=wlk ws R here:=by
          show (match gt r0.2 here with
            | none=>wlk ws R here
            | some n=>((wlk ws R (wstN ws n)).1,(wlk ws R (wstN ws n)).2++[n]))=_
          rw[c]
        rw[this]
      | some n=>
        have hn':=b0 here n c
        obtain⟨w,hw⟩:∃w,ws[n]?=some w:=⟨_,List.getElem?_eq_getElem hn'⟩
        decreasing_trivial
        refine⟨by rw[len_num];simp at hl2;omega,?_⟩
        rw[way_at hw]
        decreasing_trivial
        refine⟨R,w.1,acc++[n],_,_,rfl,by rw[show numL (acc++[n])=numL acc++[.int (n:Nat)] by unfold numL;simp],ok.st w (List.mem_of_getElem? hw),fun r hr=>hR r (List.mem_cons_of_mem _ hr),by simp at hl2 ⊢;omega,?_⟩
        · rw[hW]
          have:wlk ws (r0::R) here=((wlk ws R w.1).1,(wlk ws R w.1).2++[n]):=by
            show (match gt r0.2 here with
              | none=>wlk ws R here
              | some n=>((wlk ws R (wstN ws n)).1,(wlk ws R (wstN ws n)).2++[n]))=_
            rw[c]
            have e:wstN ws n=w.1:=by unfold wstN;rw[hw]
            show ((wlk ws R (wstN ws n)).1,(wlk ws R (wstN ws n)).2++[n])=_
            rw[e]
          rw[this]
          simp
  · rintro ρ ⟨R,here,acc,z1,z2,h1,rfl,hh,hR,hl2,hW⟩
    cases R with
    | cons p R=>cases h1
    | nil=>
      decreasing_tactic
      refine⟨by decide,?_⟩
      rw[hW] at q
      have e:(numL acc).reverse=numL acc.reverse:=by unfold numL;rw[List.map_reverse]
      rw[e]
      exact q
end
inductive Pth (ws:List Wy):Nat→List Nat→Nat→Prop
  | nil {p}:Pth ws p [] p
  | cons {n w ns q}:ws[n]?=some w→Pth ws w.2.1 ns q→Pth ws w.1 (n::ns) q
abbrev Pt:=List Nat×Int
inductive Trp (ws:List Wy):Nat→List Pt→Nat→Prop
  | nil {p}:Trp ws p [] p
  | cons {p q r pt ps}:Pth ws p pt.1 q→pt.1≠[]→1≤pt.2→pt.2≤1000000000000000000000000→(pt.2=1∨q=p)→Trp ws q ps r→Trp ws p (pt::ps) r
theorem Pth.app {ws:List Wy} {a b c:Nat} {xs ys:List Nat} (h1:Pth ws a xs b) (h2:Pth ws b ys c):Pth ws a (xs++ys) c:=by
  induction h1 with
  | nil=>exact h2
  | cons e _ ih=>exact .cons e (ih h2)
theorem Trp.app {ws:List Wy} {a b c:Nat} {xs ys:List Pt} (h1:Trp ws a xs b) (h2:Trp ws b ys c):Trp ws a (xs++ys) c:=by
  induction h1 with
  | nil=>exact h2
  | cons e1 e2 e3 e4 e5 _ ih=>exact .cons e1 e2 e3 e4 e5 (ih h2)
def prt (ns:List Nat):List Pt:=if ns.isEmpty then [] else [(ns,1)]
theorem prt_trp {ws:List Wy} {a b:Nat} {ns:List Nat} (h:Pth ws a ns b):Trp ws a (prt ns) b:=by
  cases h with
  | nil=>exact .nil
  | cons e t=>exact .cons (pt:=(_,1)) (.cons e t) (by simp) (show (1:Int)≤1 by decide) (show (1:Int)≤1000000000000000000000000 by decide) (.inl rfl) .nil
theorem Wk.pth {ws:List Wy} {st:Int} {b:Tb} {N:List Nat} {P:Nat→Nat} {L:Nat→Int} (W:Wk ws st b N P L) {i:Nat}:∀{j:Nat},i≤j→j≤N.length→Pth ws (P i) (My.seg N i j) (P j)
  | 0,h1,_=>by
    have:i=0:=by omega
    subst this
    rw[seg_nil];exact .nil
  | j + 1,h1,h2=>by
    by_cases e:i=j + 1
    · subst e
      rw[seg_nil];exact .nil
    · rw[seg_succ (by omega) (by omega)]
      obtain⟨w,hw,e1,e2,_⟩:=W.way j N[j] (List.getElem?_eq_getElem (by omega))
      refine (W.pth (i:=i) (j:=j) (by omega) (by omega)).app ?_
      rw[←e1,←e2]
      exact .cons hw .nil
theorem min0 (i j:Int):min (PyData.depth (.int i)) (PyData.depth (.int j))≤64:=by show min 0 0≤64;decide
theorem eqv_int (i j:Int):PyData.eqv (.int i) (.int j)=(i == j):=by rw[PyData.eqv]
def spBwD:DSp:=fun ds Q=>∃(m:Nat) (ws:List Wy) (p q:Nat) (ns:List Nat),ds=[landD m ws,.int (p:Nat),.list (numL ns)]∧Pth ws p ns q∧Q (.int (q:Nat))
def spBpD:DSp:=fun ds Q=>∃(m:Nat) (ws:List Wy) (p q:Nat) (pt:Pt),ds=[landD m ws,.int (p:Nat),partD pt]∧Pth ws p pt.1 q∧pt.1≠[]∧1≤pt.2∧pt.2≤1000000000000000000000000∧(pt.2=1∨q=p)∧Q (.int (q:Nat))
def spEndD:DSp:=fun ds Q=>∃(m:Nat) (ws:List Wy) (p q:Nat) (ps:List Pt),ds=[landD m ws,.int (p:Nat),.list (ps.map partD)]∧Trp ws p ps q∧Q (.int (q:Nat))
def spPartsD:DSp:=fun ds Q=>∃ns:List Nat,ds=[.list (numL ns)]∧Q (.list ((prt ns).map partD))
section
variable {P:Program} {w:World} {K:PySem.W.Frag} {mg:Str→Option Value} {base:Heap}
theorem ok_parts_by (T:Txt K mg):FnOk P w K mg base CX0 1 T.f_parts_by.a T.f_parts_by.d ["numbers"] (spD [.sh] spPartsD):=by
  refine fn_d T.f_parts_by.F sc_parts_by rfl (fun C cdv A outer s H E hr=>⟨_,(dss_one (ds_ret (pd_if (pdt_cmp op_gt ok_gt (pd_lenv (pe_callB call_len_seq rfl T.n_len bt_len (pa_cons (pv 0) pa_nil se_Name) (he:=se_Name) (hpl:=np_nil))) pd_int (nomark _)) (pd_f (pf_lst (dv_cons (pd_tup (dv_cons (pd_var (pv 0)) (dv_cons pd_int dv_nil se_Constant) se_Name)) dv_nil se_Tuple))) (pd_f (pf_lst dv_nil))))),fun ds Q hl h=>?_⟩)
  obtain⟨ns,rfl,q⟩:=h
  decreasing_trivial
  cases ns with
  | nil=>exact⟨by decide,q⟩
  | cons n ns=>
    have e:decide ((0:Int) < ((numL (n::ns)).length:Nat))=true:=by
      rw[len_num];exact decide_eq_true (by rw[List.length_cons];omega)
    rw[e]
    decreasing_trivial
    exact⟨by decide,by decide,q⟩
theorem ok_behind_ways (T:Txt K mg):FnOk P w K mg base CX0 3 T.f_behind_ways.a T.f_behind_ways.d ["land", "place", "numbers"] (spD [.sh,.sh,.sh] spBwD):=by
  have G_is_place:=@ok_is_place P w K mg base T
  have b_is_place:=T.f_is_place.b
  refine fn_d T.f_behind_ways.F sc_behind_ways rfl (fun C cdv A outer s H E hr=>⟨_,(@dss_cons _ _ _ _ _ _ (ds_set (ps_set (i:=3) sc_behind_ways.nd rfl (Or.inl rfl) (pd_var (pv 1)))) (@dss_cons _ _ _ _ _ _ (@ds_for _ _ _ _ _ _ (@ps_for _ _ _ _ _ _ _ _ PassesOwn.never rfl (di_var (pv 2)) (dg_name (pg_name (i:=4) sc_behind_ways.nd rfl (Or.inl rfl))) (@dss_cons _ _ _ _ _ _ (@ds_if _ _ _ _ _ _ _ _ _ (PW.pt (@pwd_or _ _ _ _ _ _ _ _ (@pdt_not _ _ _ _ _ (@pdt_val _ _ _ _ (@pd_call _ _ _ _ _ _ _ (@pe_call _ _ _ _ _ _ _ _ _ _ _ _ _ _ _ _ G_is_place (hr.mono (by decide)) rfl T.f_is_place.m T.f_is_place.F.kp b_is_place .nil pass0 (da_v (pd_cb cb_len (pe_callB call_len_seq rfl T.n_len bt_len (dv_cons (pd_ixv (pv 0) (pd_gi (pe_glob (v:=V.int 1) rfl T.mg_WAYS ⟨_,rfl⟩)) (fun _ _=>rfl)) dv_nil se_Subscript) (he:=se_Subscript) (hpl:=np_nil))) (da_v (pd_var (pv 4)) da_nil se_Name) se_Call) (by decide) se_Call ((np_cons se_Name np_nil)))) (by intro _;rfl))) (pwd_or1 (pdt_cmp (op_neD (units_of hr)) ok_eq (pd_ix (pd_ix (pd_ixv (pv 0) (pd_gi (pe_glob (v:=V.int 1) rfl T.mg_WAYS ⟨_,rfl⟩)) (fun _ _=>rfl)) (pd_var (pv 4)) (fun _ _=>rfl)) (pd_gi (pe_glob (v:=V.int 0) rfl T.mg_START ⟨_,rfl⟩)) (fun _ _=>rfl)) (pd_var (pv 3)) (nomark _))))) (dss_one (ds_ret pd_non)) dss_nil) (dss_one (ds_set (ps_set (i:=3) sc_behind_ways.nd rfl (Or.inl rfl) (pd_ix (pd_ix (pd_ixv (pv 0) (pd_gi (pe_glob (v:=V.int 1) rfl T.mg_WAYS ⟨_,rfl⟩)) (fun _ _=>rfl)) (pd_var (pv 4)) (fun _ _=>rfl)) (pd_gi (pe_glob (v:=V.int 1) rfl T.mg_END ⟨_,rfl⟩)) (fun _ _=>rfl)))))) (by intro _;rfl))) (dss_one (ds_ret (pd_var (pv 3)))))),fun ds Q hl h=>?_⟩)
  obtain⟨m,ws,p,q0,ns,rfl,hp,q⟩:=h
  array_mem_dec
  refine⟨fun r ρ=>∃(ns':List Nat) (p':Nat) (z:Sl),r=numL ns'∧ρ=[Sl.sh (landD m ws),Sl.sh (.int (p:Nat)),Sl.sh (.list (numL ns)),Sl.sh (.int (p':Nat)),z]∧Pth ws p' ns' q0,⟨ns,p,_,rfl,rfl,hp⟩,?_,?_⟩
  · rintro x r ρ ⟨ns',p',z,h1,rfl,hp'⟩
    cases hp' with
    | nil=>cases h1
    | @cons n w ns' _ hw hp'=>
      cases (show x::r=PyData.int (n:Nat)::numL ns' from h1)
      have hn:=(List.getElem?_eq_some_iff.mp hw).1
      decreasing_trivial_pre_omega
      refine⟨_,_,rfl,?_⟩
      rw[List.length_map,decide_eq_true (show (0:Int)≤((n:Nat):Int)∧((n:Nat):Int) < ((ws.length:Nat):Int) from ⟨by omega,by omega⟩)]
      decreasing_trivial_pre_omega
      rw[way_at hw]
      decreasing_trivial
      refine⟨rfl,rfl,min0 _ _,?_⟩
      rw[eqv_int,beq_self_eq_true]
      decreasing_trivial
      exact⟨ns',w.2.1,_,rfl,rfl,hp'⟩
  · rintro ρ ⟨ns',p',z,h1,rfl,hp'⟩
    cases hp' with
    | nil=>
      decreasing_tactic
      exact q
    | cons hw hp'=>cases h1
theorem ok_behind_part (T:Txt K mg):FnOk P w K mg base CX0 4 T.f_behind_part.a T.f_behind_part.d ["land", "place", "part"] (spD [.sh,.sh,.sh] spBpD):=by
  have G_behind_ways:=@ok_behind_ways P w K mg base T
  have b_behind_ways:=T.f_behind_ways.b
  refine fn_d T.f_behind_part.F sc_behind_part rfl (fun C cdv A outer s H E hr=>⟨_,(@dss_cons _ _ _ _ _ _ (@ds_if _ _ _ _ _ _ _ _ _ (PW.pt (@pwd_or _ _ _ _ _ _ _ _ (pdt_cmp (op_eqD (units_of hr)) ok_eq (pd_cb cb_len (pe_callB call_len_seq rfl T.n_len bt_len (dv_cons (pd_ixv (pv 2) (pd_gi (pe_glob (v:=V.int 0) rfl T.mg_NUMBERS ⟨_,rfl⟩)) (fun _ _=>rfl)) dv_nil se_Subscript) (he:=se_Subscript) (hpl:=np_nil))) pd_int (nomark _)) (pwd_or1 (pdt_not (pdt_chain op_le op_le pd_int (pd_ixv (pv 2) (pd_gi (pe_glob (v:=V.int 1) rfl T.mg_TIMES ⟨_,rfl⟩)) (fun _ _=>rfl)) (pd_op op_pow ok_pow pd_int pd_int)))))) (dss_one (ds_ret pd_non)) dss_nil) (@dss_cons _ _ _ _ _ _ (@ds_set _ _ _ _ _ (@ps_set _ _ 3 _ _ _ _ sc_behind_part.nd rfl (Or.inl rfl) (pd_call (pe_call G_behind_ways (hr.mono (by decide)) rfl T.f_behind_ways.m T.f_behind_ways.F.kp b_behind_ways .nil pass0 (da_v (pd_var (pv 0)) (da_v (pd_var (pv 1)) (da_v (pd_ixv (pv 2) (pd_gi (pe_glob (v:=V.int 0) rfl T.mg_NUMBERS ⟨_,rfl⟩)) (fun _ _=>rfl)) da_nil se_Subscript) se_Name) se_Name) (he:=se_Name) (hpl:=(np_cons se_Name (np_cons se_Subscript np_nil))))) (by rfl) (by first | exact .inl rfl | exact .inr rfl | assumption))) (dss_cons (ds_if (PW.pt (pwd_and (pdt_cmp op_gt ok_gt (pd_ixv (pv 2) (pd_gi (pe_glob (v:=V.int 1) rfl T.mg_TIMES ⟨_,rfl⟩)) (fun _ _=>rfl)) pd_int (nomark _)) (pwd_and1 (pdt_cmp (op_neD (units_of hr)) ok_eq (pd_var (pv 3)) (pd_var (pv 1)) (nomark _)))))
      (dss_one (ds_ret pd_non))
      dss_nil)
      (dss_one (ds_ret (pd_var (pv 3))))))),fun ds Q hl h=>?_⟩)
  obtain⟨m,ws,p,q0,⟨ns,t⟩,rfl,hp,hne,t1,t2,ht,q⟩:=h
  simp only at hp hne t1 t2 ht
  decreasing_trivial
  refine⟨rfl,rfl,min0 _ _,?_⟩
  have hl0:PyData.eqv (.int ((numL ns).length:Nat)) (.int 0)=false:=by
    rw[eqv_int,len_num]
    cases ns with
    | nil=>exact absurd rfl hne
    | cons n r=>exact beq_eq_false_iff_ne.mpr (by simp;omega)
  rw[hl0]
  decreasing_trivial
  rw[decide_eq_true (show (1:Int)≤t from t1)]
  decreasing_trivial
  refine⟨⟨by decide,by decide,by decide⟩,?_⟩
  rw[decide_eq_true (show t≤(10:Int) ^ (24:Int).toNat from t2)]
  decreasing_trivial
  refine⟨_,_,_,_,_,rfl,hp,?_⟩
  decreasing_trivial
  rcases ht with ht | ht
  · rw[decide_eq_false (show ¬ (1:Int) < t by omega)]
    decreasing_trivial
    exact q
  · subst ht
    by_cases c:(1:Int) < t
    · rw[decide_eq_true c]
      decreasing_trivial
      refine⟨rfl,rfl,min0 _ _,?_⟩
      rw[eqv_int,beq_self_eq_true]
      decreasing_trivial
      exact q
    · rw[decide_eq_false c]
      decreasing_trivial
      exact q
theorem ok_end_of (T:Txt K mg):FnOk P w K mg base CX0 5 T.f_end_of.a T.f_end_of.d ["land", "place", "trip"] (spD [.sh,.sh,.sh] spEndD):=by
  have G_behind_part:=@ok_behind_part P w K mg base T
  have b_behind_part:=T.f_behind_part.b
  refine fn_d T.f_end_of.F sc_end_of rfl (fun C cdv A outer s H E hr=>⟨_,(@dss_cons _ _ _ _ _ _ (ds_set (ps_set (i:=3) sc_end_of.nd rfl (Or.inl rfl) (pd_var (pv 1)))) (@dss_cons _ _ _ _ _ _ (@ds_for _ _ _ _ _ _ (@ps_for _ _ _ _ _ _ _ _ PassesOwn.never rfl (di_enum (pi_enum rfl T.n_enumerate (pa_cons (pd_var (pv 2)) pa_nil se_Name))) (dg_t2 (pg_tup (n:=2) rfl (pgs_cons (pg_name (i:=4) sc_end_of.nd rfl (Or.inl rfl)) (pgs_cons (pg_name (i:=5) sc_end_of.nd rfl (Or.inl rfl)) pgs_nil)))) (@dss_cons _ _ _ _ _ _ (ds_set (ps_set (i:=3) sc_end_of.nd rfl (Or.inl rfl) (pd_call (pe_call G_behind_part (hr.mono (by decide)) rfl T.f_behind_part.m T.f_behind_part.F.kp b_behind_part .nil pass0 (da_v (pd_var (pv 0)) (da_v (pd_var (pv 3)) (da_v (pd_var (pv 5)) da_nil se_Name) se_Name) se_Name) (he:=se_Name) (hpl:=(np_cons se_Name (np_cons se_Name np_nil))))))) (dss_one (ds_if (pdt_cmp op_isN ok_isN (pd_var (pv 3)) pd_non (nomark _))
      (dss_one ds_no)
      dss_nil))) (by intro _;rfl))) (dss_one (ds_ret (pd_var (pv 3)))))),fun ds Q hl h=>?_⟩)
  obtain⟨m,ws,p,q0,ps,rfl,hp,q⟩:=h
  array_mem_dec
  have e0:enumD (ps.map partD)=ps.zipIdx.map fun p=>.tuple [.int (p.2:Nat),partD p.1]:=by
    unfold enumD
    rw[List.zipIdx_map,List.map_map]
    rfl
  rw[e0]
  refine⟨fun r ρ=>∃(ps':List (Pt×Nat)) (p':Nat) (z1 z2:Sl),r=ps'.map (fun p=>.tuple [.int (p.2:Nat),partD p.1])∧ρ=[Sl.sh (landD m ws),Sl.sh (.int (p:Nat)),Sl.sh (.list (ps.map partD)),Sl.sh (.int (p':Nat)),z1,z2]∧Trp ws p' (ps'.map (·.1)) q0,⟨ps.zipIdx,p,_,_,rfl,rfl,by rw[show ps.zipIdx.map (·.1)=ps by simp];exact hp⟩,?_,?_⟩
  · rintro x r ρ ⟨ps',p',z1,z2,h1,rfl,hp'⟩
    cases ps' with
    | nil=>cases h1
    | cons a ps'=>
      cases (show x::r=PyData.tuple [.int (a.2:Nat),partD a.1]::ps'.map (fun p=>.tuple [.int (p.2:Nat),partD p.1]) from h1)
      have hp2:Trp ws p' (a.1::ps'.map (·.1)) q0:=hp'
      cases hp2 with
      | cons e1 e2 e3 e4 e5 e6=>
        sizeOf_list_dec
        refine⟨_,_,_,_,_,rfl,e1,e2,e3,e4,e5,?_⟩
        decreasing_tactic
        exact⟨ps',_,_,_,rfl,rfl,e6⟩
  · rintro ρ ⟨ps',p',z1,z2,h1,rfl,hp'⟩
    cases ps' with
    | cons a ps'=>cases h1
    | nil=>
      cases hp'
      decreasing_tactic
      exact q
end
theorem eqv_o (a b:Option Int):PyData.eqv (oD a) (oD b)=decide (a=b):=by
  cases a with
  | none=>cases b with
    | none=>rfl
    | some y=>rfl
  | some x=>cases b with
    | none=>rfl
    | some y=>
      show PyData.eqv (.int x) (.int y)=_
      rw[eqv_int]
      by_cases h:x=y
      · subst h;simp
      · simp [h]
theorem eqvAll_tab:∀a b:Tb,PyData.eqvAll (tabL a) (tabL b)=decide (a=b)
  | [],[]=>rfl
  | [],_::_=>rfl
  | _::_,[]=>rfl
  | x::a,y::b=>by
    show PyData.eqvAll (oD x::tabL a) (oD y::tabL b)=_
    rw[PyData.eqvAll,eqv_o,eqvAll_tab a b]
    by_cases h:x=y
    · subst h;simp
    · simp [h]
theorem eqv_tab (a b:Tb):PyData.eqv (.list (tabL a)) (.list (tabL b))=decide (a=b):=by rw[PyData.eqv];exact eqvAll_tab a b
theorem layAll_tab:∀t:Tb,PyData.canLayAll0 (tabL t)=true
  | []=>rfl
  | x::t=>by
    show (PyData.canLay0 (oD x)&&PyData.canLayAll0 (tabL t))=true
    rw[layAll_tab t]
    cases x <;> rfl
theorem lay_tab (t:Tb):PyData.canLay0 (.list (tabL t))=true:=by rw[PyData.canLay0];exact layAll_tab t
theorem depAll_tab:∀t:Tb,PyData.depthAll (tabL t)=0
  | []=>rfl
  | x::t=>by
    show max (PyData.depth (oD x)) (PyData.depthAll (tabL t))=0
    rw[depAll_tab t]
    cases x <;> rfl
theorem dep_tab (t:Tb):PyData.depth (.list (tabL t))=1:=by
  show PyData.depthAll (tabL t) + 1=1
  rw[depAll_tab]
def spRowsD:DSp:=fun ds Q=>∃(m:Nat) (ws:List Wy) (st:Int) (t:Tb),ds=[landD m ws,.int st,.list (tabL t)]∧LandOk m ws∧t.length=m∧Q (.list ((rowsF m ws st m (t,List.replicate m none)).map rowD))
def spStillD:DSp:=fun ds Q=>∃(m:Nat) (ws:List Wy) (rs:List Rw),ds=[landD m ws,.list (rs.map rowD)]∧Q (.bool (decide (m < rs.length)))
def spRiseD:DSp:=fun ds Q=>∃(m:Nat) (ws:List Wy) (rs:List Rw) (r:Rw),ds=[landD m ws,.list (rs.map rowD)]∧LandOk m ws∧RowsOk m ws rs∧rs.length≤900∧rs.getLast?=some r∧(∃p n,gt r.2 p=some n)∧
  ∀p n,p < m→gt r.2 p=some n→Q (.tuple [.int ((wlk ws rs.reverse p).1:Nat),.list (numL (wlk ws rs.reverse p).2)])
def walkD (p:Nat) (N:List Nat):PyData:=.tuple [.int (p:Nat),.list (numL N)]
def spPartedD:DSp:=fun ds Q=>∃(m:Nat) (ws:List Wy) (st:Int) (b:Tb) (N:List Nat) (P:Nat→Nat) (L:Nat→Int),ds=[landD m ws,walkD (P 0) N]∧LandOk m ws∧TabOk m st b∧Wk ws st b N P L∧N.length=m∧
  ∀i j,i < j→j≤m→P i=P j→Q (.tuple [.list (numL (seg N 0 i)),.list (numL (seg N i j))])
theorem last_map {α β:Type} {f:α→β} {xs:List α} {x:α} (h:xs.getLast?=some x):(xs.map f).getLast?=some (f x):=by
  obtain⟨ys,rfl⟩:=List.getLast?_eq_some_iff.mp h
  simp
theorem Wk.places {ws:List Wy} {st:Int} {b:Tb} {N:List Nat} {P:Nat→Nat} {L:Nat→Int} (W:Wk ws st b N P L):[P 0]++N.map (wenN ws)=(List.range (N.length + 1)).map P:=by
  apply List.ext_getElem?
  intro k
  cases k with
  | zero=>simp
  | succ k=>
    rw[List.getElem?_append_right (by simp),List.getElem?_map,List.getElem?_map]
    by_cases h:k < N.length
    · rw[List.getElem?_range (by omega)]
      show (N[k]?).map (wenN ws)=some (P (k + 1))
      obtain⟨w,hw,_,e,_⟩:=W.way k N[k] (List.getElem?_eq_getElem h)
      rw[List.getElem?_eq_getElem h]
      show some (wenN ws N[k])=_
      unfold wenN
      rw[hw,←e]
    · rw[List.getElem?_eq_none (l:=List.range _) (by rw[List.length_range];omega)]
      show (N[k]?).map (wenN ws)=none
      rw[List.getElem?_eq_none (by omega)]
      rfl
section
variable {P:Program} {w:World} {K:PySem.W.Frag} {mg:Str→Option Value} {base:Heap}
theorem ok_rows_from (T:Txt K mg):FnOk P w K mg base CX0 4 T.f_rows_from.a T.f_rows_from.d ["land", "store", "table"] (spD [.sh,.sh,.bo] spRowsD):=by
  have G_first_row:=@ok_first_row P w K mg base T
  have b_first_row:=T.f_first_row.b
  have G_row_behind:=@ok_row_behind P w K mg base T
  have b_row_behind:=T.f_row_behind.b
  refine fn_d T.f_rows_from.F sc_rows_from rfl (fun C cdv A outer s H E hr=>⟨_,(@dss_cons _ _ _ _ _ _ (ds_own (ps_set (i:=3) sc_rows_from.nd rfl (Or.inl rfl) (pf_lst dv_nil))) (@dss_cons _ _ _ _ _ _ (ds_set (ps_set (i:=4) sc_rows_from.nd rfl (Or.inl rfl) (pd_call (pe_call G_first_row (hr.mono (by decide)) rfl T.f_first_row.m T.f_first_row.F.kp b_first_row .nil pass0 (da_s (pv 2) da_nil se_Name) (he:=se_Name) (hpl:=np_nil))))) (@dss_cons _ _ _ _ _ _ (@ds_while _ _ _ _ _ (@ps_while _ _ _ _ _ _ PassesOwn.never (pdt_cmp op_lt ok_lt (pd_lenv (pe_callB call_len_seq rfl T.n_len bt_len (pa_cons (pv 3) pa_nil se_Name) (he:=se_Name) (hpl:=np_nil))) (pd_ixv (pv 0) (pd_gi (pe_glob (v:=V.int 0) rfl T.mg_MANY ⟨_,rfl⟩)) (fun _ _=>rfl)) (nomark _)) (@dss_cons _ _ _ _ _ _ (ds_app (ps_expr (pe_bm PySem.F.plainAttrs_list PySem.F.slot_list_append PySem.F.type_list_append mt_append (pv 3) (pa_cons (pd_var (pv 4)) pa_nil se_Name)))) (@dss_cons _ _ _ _ _ _ (@ds_set _ _ _ _ _ (@ps_set _ _ 4 _ _ _ _ sc_rows_from.nd rfl (Or.inl rfl) (@pd_call _ _ _ _ _ _ _ (@pe_call _ _ _ _ _ _ _ _ _ _ _ _ _ _ _ _ G_row_behind (hr.mono (by decide)) rfl T.f_row_behind.m T.f_row_behind.F.kp b_row_behind .nil pass0 (da_v (pd_var (pv 0)) (da_v (pd_var (pv 1)) (da_v (pd_ixv (pv 4) (pd_gi (pe_glob (v:=V.int 0) rfl T.mg_TABLE ⟨_,rfl⟩)) (fun _ _=>rfl)) (da_v (pd_ixv (pv 4) (pd_gi (pe_glob (v:=V.int 0) rfl T.mg_TABLE ⟨_,rfl⟩)) (fun _ _=>rfl)) da_nil se_Subscript) se_Subscript) se_Name) se_Name) (by decide) se_Name ((np_cons se_Name (np_cons se_Subscript (np_cons se_Subscript np_nil)))))) (by rfl) (by first | exact .inl rfl | exact .inr rfl | assumption))) (dss_one (ds_if (pdt_cmp (op_eqD (units_of hr)) ok_eq (pd_ixv (pv 4) (pd_gi (pe_glob (v:=V.int 0) rfl T.mg_TABLE ⟨_,rfl⟩)) (fun _ _=>rfl)) (pd_ix (pd_ixv (pv 3) (pd_neg pd_int) (fun _ _=>rfl)) (pd_gi (pe_glob (v:=V.int 0) rfl T.mg_TABLE ⟨_,rfl⟩)) (fun _ _=>rfl)) (nomark _))
      (dss_one (ds_ret (pd_var (pv 3))))
      dss_nil)))))) (dss_cons (ds_app (ps_expr (pe_bm PySem.F.plainAttrs_list PySem.F.slot_list_append PySem.F.type_list_append mt_append (pv 3) (pa_cons (pd_var (pv 4)) pa_nil se_Name))))
      (dss_one (ds_ret (pd_var (pv 3)))))))),fun ds Q hl h=>?_⟩)
  obtain⟨m,ws,st,t,rfl,ok,ht,q⟩:=h
  have m2:=ok.m2
  decreasing_tactic
  refine⟨by decide,rfl,t,rfl,by omega,?_⟩
  unfold dWhile
  refine⟨fun μ ρ=>∃(rs:List Rw) (r:Rw),ρ=[Sl.sh (landD m ws),Sl.sh (.int st),Sl.bo (tabL t),Sl.ow (rs.map rowD),Sl.sh (rowD r)]∧rs.length + μ=m∧r.1.length=m∧rs++rowsF m ws st μ r=rowsF m ws st m (t,List.replicate m none),⟨m,[],(t,List.replicate t.length none),rfl,by simp,ht,by rw[ht];rfl⟩,?_⟩
  rintro μ ρ ⟨rs,r,rfl,h1,h2,h3⟩
  decreasing_trivial
  rw[List.length_map]
  cases μ with
  | zero=>
    rw[decide_eq_false (by omega)]
    decreasing_trivial
    refine⟨by omega,?_⟩
    have e:rs++[r]=rowsF m ws st m (t,List.replicate m none):=h3
    rw[←e,List.map_append] at q
    exact q
  | succ μ=>
    rw[decide_eq_true (by omega)]
    decreasing_trivial_pre_omega
    refine⟨by rw[List.length_map];omega,?_⟩
    refine⟨m,ws,st,r.1,r.1,rfl,ok,h2,h2,?_⟩
    decreasing_trivial
    rw[show -(1:Int)=-1 from rfl,atI_last]
    decreasing_trivial
    refine⟨lay_tab _,lay_tab _,by rw[dep_tab,dep_tab];decide,?_⟩
    rw[eqv_tab]
    by_cases c:(rowF m ws st r.1 r.1).1=r.1
    · rw[decide_eq_true c]
      decreasing_trivial
      have e:rs++[r]=rowsF m ws st m (t,List.replicate m none):=by rw[←h3,rowsF,if_pos c]
      rw[←e,List.map_append] at q
      exact q
    · rw[decide_eq_false c]
      decreasing_trivial
      refine⟨μ,by omega,rs++[r],rowF m ws st r.1 r.1,by rw[List.map_append];rfl,by simp;omega,(row_ok (st:=st) (t:=r.1) ok h2).l1,?_⟩
      rw[←h3,rowsF,if_neg c]
      simp
theorem ok_still_rises (T:Txt K mg):FnOk P w K mg base CX0 1 T.f_still_rises.a T.f_still_rises.d ["land", "rows"] (spD [.sh,.sh] spStillD):=by
  refine fn_d T.f_still_rises.F sc_still_rises rfl (fun C cdv A outer s H E hr=>⟨_,(dss_one (ds_ret (pd_cmp op_gt ok_gt (pd_lenv (pe_callB call_len_seq rfl T.n_len bt_len (pa_cons (pv 1) pa_nil se_Name) (he:=se_Name) (hpl:=np_nil))) (pd_ixv (pv 0) (pd_gi (pe_glob (v:=V.int 0) rfl T.mg_MANY ⟨_,rfl⟩)) (fun _ _=>rfl)) (nomark _)))),fun ds Q hl h=>?_⟩)
  obtain⟨m,ws,rs,rfl,q⟩:=h
  decreasing_trivial
  rw[List.length_map]
  rw[show decide (((m:Nat):Int) < ((rs.length:Nat):Int))=decide (m < rs.length) by by_cases c:m < rs.length <;> simp [c]]
  exact q
theorem ok_rising_walk (T:Txt K mg):FnOk P w K mg base CX0 2 T.f_rising_walk.a T.f_rising_walk.d ["land", "rows"] (spD [.sh,.sh] spRiseD):=by
  have G_walk_to:=@ok_walk_to P w K mg base T
  have b_walk_to:=T.f_walk_to.b
  refine fn_d T.f_rising_walk.F sc_rising_walk rfl (fun C cdv A outer s H E hr=>⟨_,(@dss_cons _ _ _ _ _ _ (ds_set (ps_set (i:=2) sc_rising_walk.nd rfl (Or.inr rfl) (pd_ix (pd_ixv (pv 1) (pd_neg pd_int) (fun _ _=>rfl)) (pd_gi (pe_glob (v:=V.int 1) rfl T.mg_RISEN ⟨_,rfl⟩)) (fun _ _=>rfl)))) (@dss_one _ _ _ _ (@ds_ret _ _ _ _ _ (@pd_call _ _ _ _ _ _ _ (@pe_call _ _ _ _ _ _ _ _ _ _ _ _ _ _ _ _ G_walk_to (hr.mono (by decide)) rfl T.f_walk_to.m T.f_walk_to.F.kp b_walk_to .nil pass0 (@da_v _ _ _ _ _ _ (pd_var (pv 0)) (@da_v _ _ _ _ _ _ (pd_var (pv 1)) (@da_v _ _ _ _ _ _ (@pd_ix _ _ _ _ _ _ _ (@pd_f _ _ _ _ (@pf_comp _ _ _ _ _ _ _ _ rfl (pe_comp (CompSc.new (N:=["land", "rows", "last"]) (osc:=defScope s_rising_walk) (by decide +kernel)) rfl (di_rng1 (pi_range1 rfl T.n_range (dv_cons (pd_ixv (pv 0) (pd_gi (pe_glob (v:=V.int 0) rfl T.mg_MANY ⟨_,rfl⟩)) (fun _ _=>rfl)) dv_nil se_Subscript))) (fun _=>(pts_one (pdt_cmp op_notN ok_notN (pd_ixv (pv 2) (pd_var (pv 3)) (fun _ _=>rfl)) pd_non (nomark _)))) (fun _=>(pd_var (pv 3)))))) pd_int (fun _ _=>rfl)) da_nil se_Subscript) se_Name) se_Name) (by decide) se_Name ((np_cons se_Name (np_cons se_Subscript np_nil)))))))),fun ds Q hl h=>?_⟩)
  obtain⟨m,ws,rs,r,rfl,ok,hR,hn,hl2,⟨p0,n0,hp0⟩,q⟩:=h
  have m2:=ok.m2
  have hr0:=hR r (List.mem_of_getLast? hl2)
  array_mem_dec
  rw[show -(1:Int)=-1 from rfl,atI_last1 (last_map hl2)]
  array_mem_dec
  refine⟨⟨by omega,by omega⟩,⟨rfl,by unfold rngD;rw[List.length_map,List.length_range];omega⟩,?_⟩
  unfold rngD
  rw[show ((m:Nat):Int).toNat=m by simp]
  refine compF (p:=fun i=>(gt r.2 i).isSome) (f:=fun i=>.int (0 + ((i:Nat):Int))) (fun i hi Q' q'=>?_) (fun i hi _ Q' q'=>?_) ?_
  · decreasing_tactic
    rw[show (0:Int) + ((i:Nat):Int)=((i:Nat):Int) by omega] at q' ⊢
    rw[rn_at (by rw[hr0.1];exact List.mem_range.mp hi)]
    decreasing_tactic
    cases c:gt r.2 i with
    | none=>rw[c] at q';exact q'
    | some n=>rw[c] at q';exact q'
  · exact q'
  · have hp0m:p0 < m:=by
      by_cases h:p0 < m
      · exact h
      · rw[gt_out (by rw[hr0.1];omega)] at hp0;cases hp0
    have hmem:p0∈(List.range m).filter fun i=>(gt r.2 i).isSome:=List.mem_filter.mpr ⟨List.mem_range.mpr hp0m,by rw[hp0];rfl⟩
    cases hf:(List.range m).filter fun i=>(gt r.2 i).isSome with
    | nil=>rw[hf] at hmem;cases hmem
    | cons p ps=>
      have hpm:p∈(List.range m).filter fun i=>(gt r.2 i).isSome:=by rw[hf];exact List.mem_cons_self
      obtain⟨h1,h2⟩:=List.mem_filter.mp hpm
      obtain⟨n,hn'⟩:=Option.isSome_iff_exists.mp h2
      rw[List.nil_append,List.map_cons,atI_0]
      decreasing_tactic
      refine⟨m,ws,rs,p,by rw[show (0:Int) + ((p:Nat):Int)=((p:Nat):Int) by omega];rfl,List.mem_range.mp h1,ok,hR,hn,q p n (List.mem_range.mp h1) hn'⟩
end
theorem plist_nodup {P:Nat→Nat}:∀k:Nat,(∀i j,i < j→j < k→P i≠P j)→((List.range k).map P).Nodup
  | 0,_=>List.nodup_nil
  | k + 1,h=>by
    rw[List.range_succ,List.map_append,List.nodup_append]
    refine⟨plist_nodup k fun i j h1 h2=>h i j h1 (by omega),by simp,fun a ha b hb=>?_⟩
    obtain⟨i,hi,rfl⟩:=List.mem_map.mp ha
    have:b=P k:=by simpa using hb
    subst this
    exact h i k (List.mem_range.mp hi) (by omega)
def plI (P:Nat→Nat) (n:Nat):List Int:=((List.range n).map P).map fun p=>((p:Nat):Int)
theorem plI_mem {P:Nat→Nat} {n:Nat} {x:Nat}:((x:Nat):Int)∈plI P n↔∃i,i < n∧P i=x:=by
  unfold plI
  constructor
  · intro h
    obtain⟨y,hy,e⟩:=List.mem_map.mp h
    obtain⟨i,hi,rfl⟩:=List.mem_map.mp hy
    exact⟨i,List.mem_range.mp hi,by omega⟩
  · rintro ⟨i,hi,rfl⟩
    exact List.mem_map.mpr ⟨P i,List.mem_map.mpr ⟨i,List.mem_range.mpr hi,rfl⟩,rfl⟩
theorem num_plI {P:Nat→Nat} {n:Nat}:numL ((List.range n).map P)=(plI P n).map PyData.int:=by
  simp only[numL,plI,List.map_map]
  rfl
theorem plI_len {P:Nat→Nat} {n:Nat}:(plI P n).length=n:=by unfold plI;rw[List.length_map,List.length_map,List.length_range]
theorem plI_idx {P:Nat→Nat} {n:Nat} {x:Nat} (h:((x:Nat):Int)∈plI P n):(plI P n).idxOf ((x:Nat):Int) < n∧P ((plI P n).idxOf ((x:Nat):Int))=x:=by
  have h1:=List.idxOf_lt_length_iff.mpr h
  have h2:=List.getElem_idxOf h1
  rw[plI_len] at h1
  refine⟨h1,?_⟩
  have hx:∀i (h:i < (plI P n).length),(plI P n)[i]=((P i:Nat):Int):=fun i h=>by simp [plI]
  rw[hx] at h2
  omega
section
variable {P:Program} {w:World} {K:PySem.W.Frag} {mg:Str→Option Value} {base:Heap}
theorem ok_parted_at_round (T:Txt K mg):FnOk P w K mg base CX0 1 T.f_parted_at_round.a T.f_parted_at_round.d ["land", "walk"] (spD [.sh,.sh] spPartedD):=by
  refine fn_d T.f_parted_at_round.F sc_parted_at_round rfl (fun C cdv A outer s H E hr=>⟨_,(@dss_cons _ _ _ _ _ _ (@ds_set _ _ _ _ _ (@ps_set _ _ 2 _ _ _ _ sc_parted_at_round.nd rfl (Or.inl rfl) (@pd_f _ _ _ _ (@pf_cat _ _ _ _ _ _ _ (pd_f (pf_lst (dv_cons (pd_ixv (pv 1) (pd_gi (pe_glob (v:=V.int 0) rfl T.mg_FROM ⟨_,rfl⟩)) (fun _ _=>rfl)) dv_nil se_Subscript))) (@pd_f _ _ _ _ (@pf_comp _ _ _ _ _ _ _ _ rfl (@pe_comp _ _ _ _ _ _ _ _ _ _ _ _ _ _ _ (CompSc.new (N:=["land", "walk", "places", "end", "begin"]) (osc:=defScope s_parted_at_round) (by decide +kernel)) rfl (di_list (pd_ixv (pv 1) (pd_gi (pe_glob (v:=V.int 1) rfl T.mg_BY ⟨_,rfl⟩)) (fun _ _=>rfl))) (fun _=>dts_nil) (fun _=>(pd_ix (pd_ix (pd_ixv (pv 0) (pd_gi (pe_glob (v:=V.int 1) rfl T.mg_WAYS ⟨_,rfl⟩)) (fun _ _=>rfl)) (pd_var (pv 5)) (fun _ _=>rfl)) (pd_gi (pe_glob (v:=V.int 1) rfl T.mg_END ⟨_,rfl⟩)) (fun _ _=>rfl))) (by rfl) (by rfl) (by intro _;rfl)))))) (by rfl) (by first | exact .inl rfl | exact .inr rfl | assumption))) (@dss_cons _ _ _ _ _ _ (ds_set (ps_set (i:=3) sc_parted_at_round.nd rfl (Or.inl rfl) pd_int)) (@dss_cons _ _ _ _ _ _ (ds_while (ps_while PassesOwn.never (pdt_cmp op_notIn_seq ok_in (pd_ixv (pv 2) (pd_var (pv 3)) (fun _ _=>rfl)) (pd_f (pf_slv (pv 2) do_n (do_s (pd_var (pv 3))))) (by with_unfolding_all rfl))
      (dss_one (ds_set (ps_set (i:=3) sc_parted_at_round.nd rfl (Or.inl rfl) (pd_op op_add ok_add (pd_var (pv 3)) pd_int)))))) (@dss_cons _ _ _ _ _ _ (ds_set (ps_set (i:=4) sc_parted_at_round.nd rfl (Or.inl rfl) (pd_indexv (pe_bm PySem.F.plainAttrs_list PySem.F.slot_list_index PySem.F.type_list_index mt_index (pv 2) (pa_cons (pd_ixv (pv 2) (pd_var (pv 3)) (fun _ _=>rfl)) pa_nil se_Subscript))))) (dss_one (ds_ret (pd_tup (dv_cons (pd_f (pf_sl (pd_ixv (pv 1) (pd_gi (pe_glob (v:=V.int 1) rfl T.mg_BY ⟨_,rfl⟩)) (fun _ _=>rfl)) do_n (do_s (pd_var (pv 4))))) (dv_cons (pd_f (pf_sl (pd_ixv (pv 1) (pd_gi (pe_glob (v:=V.int 1) rfl T.mg_BY ⟨_,rfl⟩)) (fun _ _=>rfl)) (do_s (pd_var (pv 4))) (do_s (pd_var (pv 3))))) dv_nil se_Subscript) se_Subscript)))))))),fun ds Q hl h=>?_⟩)
  obtain⟨m,ws,st,b,N,PP,L,rfl,ok,hb,W,hN,q⟩:=h
  have m2:=ok.m2
  have hpl:∀k,k≤m→PP k < m:=fun k hk=>W.pl ok hb k (by omega)
  unfold walkD
  array_mem_dec
  refine⟨by decide,⟨rfl,by rw[len_num];omega⟩,?_⟩
  unfold numL
  refine compM (f:=fun n=>.int (wenN ws n:Nat)) (fun n hm Q' q'=>?_) ?_
  · obtain⟨k,hk,rfl⟩:=List.mem_iff_getElem.mp hm
    obtain⟨w,hw,_,e,_⟩:=W.way k N[k] (List.getElem?_eq_getElem hk)
    decreasing_trivial
    rw[way_at hw]
    decreasing_trivial
    have e2:wenN ws N[k]=w.2.1:=by unfold wenN;rw[hw]
    rw[e2] at q'
    exact q'
  · decreasing_tactic
    refine⟨by rw[List.length_map];omega,?_⟩
    have epl:PyData.int ((PP 0:Nat):Int)::N.map (fun n=>PyData.int ((wenN ws n:Nat):Int))=(plI PP (m + 1)).map PyData.int:=by
      have:=W.places
      rw[hN] at this
      rw[←num_plI,←this]
      unfold numL
      rw[List.map_append,List.map_map]
      rfl
    rw[epl]
    unfold dWhile
    refine⟨fun μ ρ=>∃(k:Nat) (z:Sl),ρ=[Sl.sh (landD m ws),Sl.sh (walkD (PP 0) N),Sl.sh (.list ((plI PP (m + 1)).map PyData.int)),Sl.sh (.int (k:Nat)),z]∧1≤k∧k≤m∧μ + k=m∧∀i j,i < j→j < k→PP i≠PP j,⟨m - 1,1,_,rfl,by omega,ok.m1,by have:=ok.m1;omega,fun i j h1 h2=>by omega⟩,?_⟩
    rintro μ ρ ⟨k,z,rfl,k1,k2,hμ,hd⟩
    decreasing_trivial
    have eat:atI ((plI PP (m + 1)).map PyData.int) ((k:Nat):Int)=some (.int ((PP k:Nat):Int)):=atI_nat (by
      unfold plI
      rw[List.map_map,List.getElem?_map,List.getElem?_map,List.getElem?_range (by omega)]
      rfl)
    have ecut:cutD ((plI PP (m + 1)).map PyData.int) none (some ((k:Nat):Int))=(plI PP k).map PyData.int:=by
      rw[cut_to,←List.map_take]
      congr 1
      unfold plI
      rw[←List.map_take,←List.map_take,List.take_range,Nat.min_eq_left (by omega)]
    rw[eat]
    decreasing_trivial
    rw[ecut,intsD_map]
    decreasing_trivial
    by_cases c:((PP k:Nat):Int)∈plI PP k
    · rw[show (!(plI PP k).contains ((PP k:Nat):Int))=false by simp [c]]
      decreasing_trivial
      rw[intsD_map]
      decreasing_trivial
      have hc2:((PP k:Nat):Int)∈plI PP (m + 1):=plI_mem.mpr ⟨k,by omega,rfl⟩
      refine⟨⟨hc2,by rw[plI_len];omega⟩,?_⟩
      obtain⟨i0,hi0,ei0⟩:=plI_mem.mp c
      obtain⟨hi1,hi2⟩:=plI_idx hc2
      have hik:(plI PP (m + 1)).idxOf ((PP k:Nat):Int) < k:=by
        by_cases h:(plI PP (m + 1)).idxOf ((PP k:Nat):Int) < k
        · exact h
        · exfalso
          have hmem:((PP k:Nat):Int)∈(plI PP (m + 1)).take k:=by
            have:(plI PP (m + 1)).take k=plI PP k:=by
              unfold plI
              rw[←List.map_take,←List.map_take,List.take_range,Nat.min_eq_left (by omega)]
            rw[this];exact c
          have h1:=List.idxOf_lt_length_iff.mpr hmem
          rw[List.length_take,plI_len] at h1
          have h2:(plI PP (m + 1)).idxOf ((PP k:Nat):Int)=((plI PP (m + 1)).take k).idxOf ((PP k:Nat):Int):=by
            conv=>lhs;rw[←List.take_append_drop k (plI PP (m + 1))]
            rw[List.idxOf_append,if_pos hmem]
          omega
      unfold walkD
      decreasing_trivial
      generalize (plI PP (m + 1)).idxOf ((PP k:Nat):Int)=i at hi1 hi2 hik
      refine⟨by decide,?_⟩
      have qq:=q i k hik k2 hi2
      have e1:cutD (numL N) none (some ((i:Nat):Int))=numL (seg N 0 i):=by
        rw[cut_to]
        unfold numL seg
        rw[←List.map_take,List.drop_zero,Nat.sub_zero]
      have e2:cutD (numL N) (some ((i:Nat):Int)) (some ((k:Nat):Int))=numL (seg N i k):=by
        rw[cut_fromto (by rw[len_num];omega) (by rw[len_num];omega)]
        unfold numL seg
        rw[List.map_take,List.map_drop]
      rw[e1,e2]
      exact qq
    · rw[show (!(plI PP k).contains ((PP k:Nat):Int))=true by simp [c]]
      decreasing_trivial_pre_omega
      have hd2:∀i j,i < j→j < k + 1→PP i≠PP j:=fun i j h1 h2 e=>by
        by_cases hj:j < k
        · exact hd i j h1 hj e
        · have:j=k:=by omega
          subst this
          exact c (plI_mem.mpr ⟨i,h1,e⟩)
      have hkm:k + 1≤m:=by
        have:=nodup_few m ((List.range (k + 1)).map PP) (plist_nodup (k + 1) hd2) fun x hx=>by
          obtain⟨i,hi,rfl⟩:=List.mem_map.mp hx
          exact hpl i (by have:=List.mem_range.mp hi;omega)
        rw[List.length_map,List.length_range] at this
        exact this
      exact⟨μ - 1,by omega,k + 1,_,rfl,by omega,hkm,by omega,hd2⟩
end
theorem Wk.nb {ws:List Wy} {st:Int} {b:Tb} {N:List Nat} {P:Nat→Nat} {L:Nat→Int} (W:Wk ws st b N P L):∀n∈N,n < ws.length:=fun n hn=>by
  obtain⟨k,hk,rfl⟩:=List.mem_iff_getElem.mp hn
  obtain⟨w,hw,_⟩:=W.way k N[k] (List.getElem?_eq_getElem hk)
  exact (List.getElem?_eq_some_iff.mp hw).1
theorem seg_sub {N:List Nat} {i j n:Nat} (h:n∈seg N i j):n∈N:=List.mem_of_mem_drop (List.mem_of_mem_take h)
theorem seg_few {N:List Nat} {i j:Nat}:(seg N i j).length≤N.length:=by
  unfold seg
  rw[List.length_take,List.length_drop]
  omega
theorem chs_hi {m:Nat} {ws:List Wy} (ok:LandOk m ws) (n:Nat):wchN ws n≤1000000000000000000:=by
  unfold wchN
  split
  · rename_i w hw;exact ok.hi w (List.mem_of_getElem? hw)
  · decide
theorem sum_hi {B:Int}:∀{cs:List Int},(∀c∈cs,c≤B)→cs.sum≤(cs.length:Int) * B
  | [],_=>by simp
  | c::cs,h=>by
    have:=sum_hi (cs:=cs) fun d hd=>h d (List.mem_cons_of_mem _ hd)
    have h1:=h c List.mem_cons_self
    rw[List.sum_cons,List.length_cons,Int.natCast_add,Int.add_mul]
    omega
theorem ceil_ok {x g:Int} (hx:0 < x) (hg:0 < g):1≤-(-x / g)∧-(-x / g)≤x:=by
  have e:=Int.mul_ediv_add_emod (-x) g
  have r0:=Int.emod_nonneg (-x) (show g≠0 by omega)
  have r1:=Int.emod_lt_of_pos (-x) hg
  generalize -x / g=d at e
  constructor
  · by_cases h:0≤d
    · have:=Int.mul_nonneg (Int.le_of_lt hg) h
      omega
    · omega
  · by_cases h:-x≤d
    · omega
    · exfalso
      have h1:g * d≤g * (-x - 1):=Int.mul_le_mul_of_nonneg_left (by omega) (by omega)
      have h2:g * (-x - 1)=-(g * x) - g:=by rw[Int.mul_sub,Int.mul_neg,Int.mul_one]
      have h3:1 * x≤g * x:=Int.mul_le_mul_of_nonneg_right (by omega) (by omega)
      omega
def partsF (N:List Nat) (i j k:Nat) (tm:Int):List Pt:=(prt (seg N 0 i)++[(seg N i j,tm)])++prt (seg N i (i + k))
def spFillD:DSp:=fun ds Q=>∃(m:Nat) (ws:List Wy) (st:Int) (b:Tb) (N:List Nat) (P:Nat→Nat) (L:Nat→Int),ds=[landD m ws,.int st,.int (L 0),walkD (P 0) N]∧LandOk m ws∧0≤st∧st≤1000000000000000000000∧TabOk m st b∧Wk ws st b N P L∧N.length=m∧
  ∀i j k le g tp tm,i < j→j≤m→P i=P j→le≤L i→Rnd st (chs ws (seg N i j)) (L i) le g tp k→1≤tm→tm≤1000000000000000000000000→Q (.list ((partsF N i j k tm).map partD))
theorem prt_len {ns:List Nat}:(prt ns).length≤1:=by unfold prt;split <;> simp
section
variable {P:Program} {w:World} {K:PySem.W.Frag} {mg:Str→Option Value} {base:Heap}
theorem ok_filling_parts (T:Txt K mg):FnOk P w K mg base CX0 6 T.f_filling_parts.a T.f_filling_parts.d ["land", "store", "level", "walk"] (spD [.sh,.sh,.sh,.sh] spFillD):=by
  have G_parted_at_round:=@ok_parted_at_round P w K mg base T
  have b_parted_at_round:=T.f_parted_at_round.b
  have G_effect_of:=@ok_effect_of P w K mg base T
  have b_effect_of:=T.f_effect_of.b
  have G_changes_of:=@ok_changes_of P w K mg base T
  have b_changes_of:=T.f_changes_of.b
  have G_levels_along:=@ok_levels_along P w K mg base T
  have b_levels_along:=T.f_levels_along.b
  have G_parts_by:=@ok_parts_by P w K mg base T
  have b_parts_by:=T.f_parts_by.b
  refine fn_d T.f_filling_parts.F sc_filling_parts rfl (fun C cdv A outer s H E hr=>⟨_,(@dss_consG _ _ _ _ _ _ (ds_set (ps_set (i:=4) sc_filling_parts.nd rfl (Or.inl rfl) (pd_call (pe_call G_parted_at_round (hr.mono (by decide)) rfl T.f_parted_at_round.m T.f_parted_at_round.F.kp b_parted_at_round .nil pass0 (da_v (pd_var (pv 0)) (da_v (pd_var (pv 3)) da_nil se_Name) se_Name) (he:=se_Name) (hpl:=(np_cons se_Name np_nil)))))) (@dss_consG _ _ _ _ _ _ (ds_set (ps_set (i:=5) sc_filling_parts.nd rfl (Or.inl rfl) (pd_ixv (pv 4) pd_int (fun _ _=>rfl)))) (@dss_consG _ _ _ _ _ _ (ds_set (ps_set (i:=6) sc_filling_parts.nd rfl (Or.inl rfl) (pd_ixv (pv 4) pd_int (fun _ _=>rfl)))) (@dss_consG _ _ _ _ _ _ (@ds_set _ _ _ _ _ (@ps_set _ _ 7 _ _ _ _ sc_filling_parts.nd rfl (Or.inl rfl) (@pd_call _ _ _ _ _ _ _ (@pe_call _ _ _ _ _ _ _ _ _ _ _ _ _ _ _ _ G_effect_of (hr.mono (by decide)) rfl T.f_effect_of.m T.f_effect_of.F.kp b_effect_of .nil pass0 (da_v (pd_var (pv 1)) (da_v (pd_call (pe_call G_changes_of (hr.mono (by decide)) rfl T.f_changes_of.m T.f_changes_of.F.kp b_changes_of .nil pass0 (da_v (pd_var (pv 0)) (da_v (pd_var (pv 6)) da_nil se_Name) se_Name) (he:=se_Name) (hpl:=(np_cons se_Name np_nil)))) da_nil se_Call) se_Name) (by decide) se_Name ((np_cons se_Call np_nil)))) (by rfl) (by first | exact .inl rfl | exact .inr rfl | assumption))) (@dss_consG _ _ _ _ _ _ (@ds_set _ _ _ _ _ (@ps_set _ _ 8 _ _ _ _ sc_filling_parts.nd rfl (Or.inl rfl) (@pd_op _ _ _ _ _ _ _ _ _ _ op_sub ok_sub (pd_ixv (pv 7) (pd_gi (pe_glob (v:=V.int 2) rfl T.mg_TOP ⟨_,rfl⟩)) (fun _ _=>rfl)) (@pd_ix _ _ _ _ _ _ _ (@pd_call _ _ _ _ _ _ _ (@pe_call _ _ _ _ _ _ _ _ _ _ _ _ _ _ _ _ G_levels_along (hr.mono (by decide)) rfl T.f_levels_along.m T.f_levels_along.F.kp b_levels_along .nil pass0 (da_v (pd_var (pv 1)) (da_v (pd_var (pv 2)) (da_v (pd_call (pe_call G_changes_of (hr.mono (by decide)) rfl T.f_changes_of.m T.f_changes_of.F.kp b_changes_of .nil pass0 (da_v (pd_var (pv 0)) (da_v (pd_var (pv 5)) da_nil se_Name) se_Name) (he:=se_Name) (hpl:=(np_cons se_Name np_nil)))) da_nil se_Call) se_Name) se_Name) (by decide) se_Name ((np_cons se_Name (np_cons se_Call np_nil))))) (pd_neg pd_int) (fun _ _=>rfl))) (by rfl) (by first | exact .inl rfl | exact .inr rfl | assumption))) (@dss_consG _ _ _ _ _ _ (ds_set (ps_set (i:=9) sc_filling_parts.nd rfl (Or.inl rfl) (pd_neg (pd_op op_fdivB ok_div (pd_neg (pd_var (pv 8))) (pd_ixv (pv 7) (pd_gi (pe_glob (v:=V.int 1) rfl T.mg_GAIN ⟨_,rfl⟩)) (fun _ _=>rfl)))))) (@dss_consG _ _ _ _ _ _ (@ds_set _ _ _ _ _ (@ps_set _ _ 10 _ _ _ _ sc_filling_parts.nd rfl (Or.inl rfl) (@pd_call _ _ _ _ _ _ _ (@pe_call _ _ _ _ _ _ _ _ _ _ _ _ _ _ _ _ G_levels_along (hr.mono (by decide)) rfl T.f_levels_along.m T.f_levels_along.F.kp b_levels_along .nil pass0 (da_v (pd_var (pv 1)) (da_v (pd_ixv (pv 7) (pd_gi (pe_glob (v:=V.int 2) rfl T.mg_TOP ⟨_,rfl⟩)) (fun _ _=>rfl)) (da_v (pd_call (pe_call G_changes_of (hr.mono (by decide)) rfl T.f_changes_of.m T.f_changes_of.F.kp b_changes_of .nil pass0 (da_v (pd_var (pv 0)) (da_v (pd_var (pv 6)) da_nil se_Name) se_Name) (he:=se_Name) (hpl:=(np_cons se_Name np_nil)))) da_nil se_Call) se_Subscript) se_Name) (by decide) se_Name ((np_cons se_Subscript (np_cons se_Call np_nil))))) (by rfl) (by first | exact .inl rfl | exact .inr rfl | assumption))) (@dss_one _ _ _ _ (@ds_ret _ _ _ _ _ (@pd_f _ _ _ _ (@pf_cat _ _ _ _ _ _ _ (pd_f (pf_cat (pd_call (pe_call G_parts_by (hr.mono (by decide)) rfl T.f_parts_by.m T.f_parts_by.F.kp b_parts_by .nil pass0 (da_v (pd_var (pv 5)) da_nil se_Name) (he:=se_Name) (hpl:=np_nil))) (pd_f (pf_lst (dv_cons (pd_tup (dv_cons (pd_var (pv 6)) (dv_cons (pd_var (pv 9)) dv_nil se_Name) se_Name)) dv_nil se_Tuple))))) (pd_call (pe_call G_parts_by (hr.mono (by decide)) rfl T.f_parts_by.m T.f_parts_by.F.kp b_parts_by .nil pass0 (da_v (pd_f (pf_slv (pv 6) do_n (do_s (pd_indexv (pe_bm PySem.F.plainAttrs_list PySem.F.slot_list_index PySem.F.type_list_index mt_index (pv 10) (pa_cons (pd_var (pv 1)) pa_nil se_Name)))))) da_nil se_Subscript) (he:=se_Subscript) (hpl:=np_nil)))))))))))))),fun ds Q hl h=>?_⟩)
  obtain⟨m,ws,st,b,N,PP,L,rfl,ok,h0,hst,hb,W,hN,q⟩:=h
  have m2:=ok.m2
  decreasing_tactic
  refine⟨m,ws,st,b,N,PP,L,rfl,ok,hb,W,hN,fun i j hij hj hp=>?_⟩
  have nb:∀a c n,n∈seg N a c→n < ws.length:=fun a c n hn=>W.nb n (seg_sub hn)
  have fw:∀a c,(seg N a c).length≤900:=fun a c=>by have:=@seg_few N a c;omega
  have fw2:∀a c,(chs ws (seg N a c)).length≤900:=fun a c=>by unfold chs;rw[List.length_map];exact fw a c
  obtain⟨b0,b1⟩:=W.bd h0 hb i (by omega)
  obtain⟨le,g,tp,k,R,hle⟩:=rnd_ok b0 b1 (W.seg (i:=i) (j:=j) (by omega) (by omega)) (W.strict i j hij (by omega) hp)
  have kl:k≤j - i:=by
    have:=R.kl
    unfold chs at this
    rw[List.length_map,seg_len (by omega)] at this
    exact this
  refine go ?_;decreasing_tactic
  refine go ?_;decreasing_tactic
  refine go ?_;decreasing_tactic
  refine⟨m,ws,seg N i j,rfl,nb i j,fw i j,?_⟩
  decreasing_tactic
  refine⟨st,_,rfl,?_⟩
  rw[R.fx]
  refine go ?_;decreasing_trivial
  refine⟨m,ws,seg N 0 i,rfl,nb 0 i,fw 0 i,?_⟩
  decreasing_tactic
  refine⟨st,L 0,_,rfl,fw2 0 i,?_⟩
  have w0:=W.seg (i:=0) (j:=i) (Nat.zero_le _) (by omega)
  have hlast:(levF st (L 0) (chs ws (seg N 0 i))).getLast?=some (L i):=by
    obtain⟨z,z1,z2⟩:=levF_get w0 (chs ws (seg N 0 i)).length (Nat.le_refl _)
    rw[List.take_of_length_le (Nat.le_refl _),w0] at z2
    cases z2
    rw[List.getLast?_eq_getElem?,levF_len w0]
    exact z1
  decreasing_tactic
  rw[show -(1:Int)=-1 from rfl,atI_last1 (xs:=intsL _) (last_map hlast)]
  decreasing_tactic
  refine go ?_;decreasing_tactic
  have hg:g < 100000000000000000000000000000000000000000000000000000000000000:=by
    rw[R.gs]
    have h1:=sum_hi (B:=1000000000000000000) (cs:=chs ws (seg N i j)) fun c hc=>by
      obtain⟨n,_,rfl⟩:=List.mem_map.mp hc
      exact chs_hi ok n
    have h2:=fw2 i j
    omega
  refine⟨⟨R.g0,hg⟩,?_⟩
  refine go ?_;decreasing_tactic
  refine⟨m,ws,seg N i j,rfl,nb i j,fw i j,?_⟩
  decreasing_tactic
  refine⟨st,tp,_,rfl,fw2 i j,?_⟩
  refine go ?_;decreasing_tactic
  refine⟨seg N 0 i,rfl,?_⟩
  decreasing_tactic
  have hp1:=@prt_len (seg N 0 i)
  refine⟨by decide,by decide,by rw[List.length_map];simp;omega,?_⟩
  unfold intsL
  rw[intsD_map]
  decreasing_tactic
  refine⟨⟨R.km,by rw[R.ll];have:=fw2 i j;omega⟩,?_⟩
  rw[R.ki]
  have ecut:cutD (numL (seg N i j)) none (some ((k:Nat):Int))=numL (seg N i (i + k)):=by
    rw[cut_to]
    unfold numL
    rw[←List.map_take,seg_take kl]
  rw[ecut]
  refine⟨_,rfl,?_⟩
  decreasing_tactic
  have hp2:=@prt_len (seg N i (i + k))
  refine⟨by simp;omega,?_⟩
  obtain⟨t1,t2⟩:=ceil_ok (x:=tp - L i) (g:=g) (by have:=R.xt;omega) R.g0
  have t3:=R.tst
  have qq:=q i j k le g tp (-(-(tp - L i) / g)) hij hj hp hle R t1 (by omega)
  unfold partsF at qq
  rw[List.map_append,List.map_append] at qq
  exact qq
end
theorem Rows.risen {m:Nat} {ws:List Wy} {st:Int} {b:Tb} (ok:LandOk m ws) (h0:0≤st) (hb:TabOk m st b) {r:Rw} {rs:List Rw} (h:Rows m ws st b (r::rs)) (hn:rs≠[]):∃p n,gt r.2 p=some n:=by
  cases h with
  | one=>exact absurd rfl hn
  | @more r0 rs0 h' c=>
    obtain⟨a1,_,_⟩:=h'.ok ok h0 hb
    have I:=row_ok (st:=st) (t:=r0.1) ok a1.len
    by_cases z:∃p n,gt (rowF m ws st r0.1 r0.1).2 p=some n
    · exact z
    · refine absurd (tab_ext (by rw[I.l1,a1.len]) fun p=>I.no p ?_) c
      cases e:gt (rowF m ws st r0.1 r0.1).2 p with
      | none=>rfl
      | some n=>exact absurd ⟨p,n,e⟩ z
theorem Rows.rok {m:Nat} {ws:List Wy} {st:Int} {b:Tb} (ok:LandOk m ws) (h0:0≤st) (hb:TabOk m st b):∀{rs:List Rw},Rows m ws st b rs→RowsOk m ws rs
  | _,.one=>fun r hr=>by
    have:r=(b,List.replicate m none):=by simpa using hr
    subst this
    exact⟨by simp,fun q n e=>by rw[gt_rep] at e;cases e⟩
  | _,.more (r:=r0) h c=>fun r hr=>by
    rcases List.mem_cons.mp hr with e | hr
    · subst e
      obtain⟨a1,_,_⟩:=h.ok ok h0 hb
      have I:=row_ok (st:=st) (t:=r0.1) ok a1.len
      refine⟨I.l2,fun q n e=>?_⟩
      obtain⟨w,hw,_⟩:=I.yes q n e
      exact (List.getElem?_eq_some_iff.mp hw).1
    · exact Rows.rok ok h0 hb h r hr
theorem rows_all {m:Nat} {ws:List Wy} {st:Int} {b:Tb} (ok:LandOk m ws) (h0:0≤st) (hb:TabOk m st b):∃r rs,(rowsF m ws st m (b,List.replicate m none)).reverse=r::rs∧(rowsF m ws st m (b,List.replicate m none)).getLast?=some r∧(rowsF m ws st m (b,List.replicate m none)).length=rs.length + 1∧rs.length≤m∧Rows m ws st b (r::rs)∧RowsOk m ws (rowsF m ws st m (b,List.replicate m none))∧
    ((rowsF m ws st m (b,List.replicate m none)).length≤m→Least m ws st b r.1):=by
  obtain⟨r,rs,e,h,z⟩:=rowsF_ok (m:=m) (ws:=ws) (st:=st) (b:=b) m (b,List.replicate m none) [] .one
  rw[List.reverse_nil,List.nil_append] at e
  have hl:(rowsF m ws st m (b,List.replicate m none)).length=rs.length + 1:=by
    rw[←List.length_reverse,e];rfl
  have hbd:∀(k:Nat) (q:Rw),(rowsF m ws st k q).length≤k + 1:=by
    intro k
    induction k with
    | zero=>intro q;exact Nat.le_refl _
    | succ k ih=>
      intro q
      unfold rowsF
      split
      · simp
      · have:=ih (rowF m ws st q.1 q.1);simp;omega
  have hb2:=hbd m (b,List.replicate m none)
  refine⟨r,rs,e,?_,hl,by omega,h,fun q hq=>h.rok ok h0 hb q (by rw[←e];exact List.mem_reverse.mpr hq),fun hm=>?_⟩
  · rw[←List.head?_reverse,e];rfl
  · rcases z with z | z
    · exact h.least ok h0 hb z
    · rw[List.length_cons] at z
      simp at z
      omega
def RoadD (B:Nat) (d:PyData):Prop:=∃q ps,d=.tuple [q,.list ps]∧ps.length≤B
def spSettledD:DSp:=fun ds Q=>∃(m:Nat) (ws:List Wy) (st:Int) (b0:Tb),ds=[landD m ws,.int st,.list (tabL b0)]∧LandOk m ws∧0≤st∧st≤1000000000000000000000∧TabOk m st b0∧
  ∀(rs:List Rw) (r:Rw) (rd:List PyData),rs.getLast?=some r→Least m ws st b0 r.1→Q (.tuple [.list (rs.map rowD),.list rd])
def spHighD:DSp:=fun ds Q=>∃(m:Nat) (ws:List Wy) (st:Int) (b0:Tb),ds=[landD m ws,.int st,.list (tabL b0)]∧LandOk m ws∧0≤st∧st≤1000000000000000000000∧TabOk m st b0∧∀t,Least m ws st b0 t→Q (.list (tabL t))
theorem lack_le {st:Int} {b:Tb}:lack st b≤b.length:=List.countP_le_length
theorem parts_len {N:List Nat} {i j k:Nat} {tm:Int}:(partsF N i j k tm).length≤3:=by
  unfold partsF
  have h1:=@prt_len (seg N 0 i)
  have h2:=@prt_len (seg N i (i + k))
  rw[List.length_append,List.length_append]
  simp
  omega
section
variable {P:Program} {w:World} {K:PySem.W.Frag} {mg:Str→Option Value} {base:Heap}
theorem ok_settled (T:Txt K mg):FnOk P w K mg base CX0 7 T.f_settled.a T.f_settled.d ["land", "store", "base"] (spD [.sh,.sh,.sh] spSettledD):=by
  have G_rows_from:=@ok_rows_from P w K mg base T
  have b_rows_from:=T.f_rows_from.b
  have G_still_rises:=@ok_still_rises P w K mg base T
  have b_still_rises:=T.f_still_rises.b
  have G_rising_walk:=@ok_rising_walk P w K mg base T
  have b_rising_walk:=T.f_rising_walk.b
  have G_filling_parts:=@ok_filling_parts P w K mg base T
  have b_filling_parts:=T.f_filling_parts.b
  have G_end_of:=@ok_end_of P w K mg base T
  have b_end_of:=T.f_end_of.b
  refine fn_d T.f_settled.F sc_settled rfl (fun C cdv A outer s H E hr=>⟨_,(@dss_consG _ _ _ _ _ _ (ds_own (ps_set (i:=3) sc_settled.nd rfl (Or.inl rfl) (pf_listv (pe_callTy call_list_of rfl T.n_list bt_list (pa_cons (pv 2) pa_nil se_Name) (he:=se_Name) (hpl:=np_nil))))) (@dss_consG _ _ _ _ _ _ (@ds_ownC _ _ _ _ _ _ _ _ _ rfl (@ps_setC _ _ _ _ _ _ _ _ _ _ _ _ _ 4 _ _ _ _ _ sc_settled.nd rfl (Or.inl rfl) (CompSc.new (N:=["land", "store", "base", "table", "roads", "rows", "walk", "parts", "full", "road"]) (osc:=defScope s_settled) (by decide +kernel)) rfl (di_rng1 (pi_range1 rfl T.n_range (dv_cons (pd_ixv (pv 0) (pd_gi (pe_glob (v:=V.int 0) rfl T.mg_MANY ⟨_,rfl⟩)) (fun _ _=>rfl)) dv_nil se_Subscript))) (fun _=>dts_nil) (fun _=>(pd_tup (dv_cons (pd_var (pv 10)) (dv_cons (pd_f (pf_lst dv_nil)) dv_nil se_List) se_Name))) (by rfl) (by first | exact .inl rfl | exact .inr rfl | assumption) (by rfl) (by rfl) (by intro _;rfl))) (@dss_consG _ _ _ _ _ _ (ds_set (ps_set (i:=5) sc_settled.nd rfl (Or.inl rfl) (pd_call (pe_call G_rows_from (hr.mono (by decide)) rfl T.f_rows_from.m T.f_rows_from.F.kp b_rows_from .nil pass0 (da_v (pd_var (pv 0)) (da_v (pd_var (pv 1)) (da_s (pv 3) da_nil se_Name) se_Name) se_Name) (he:=se_Name) (hpl:=(np_cons se_Name (np_cons se_Name np_nil))))))) (@dss_consG _ _ _ _ _ _ (@ds_while _ _ _ _ _ (@ps_while _ _ _ _ _ _ PassesOwn.never (pdt_val (pd_call (pe_call G_still_rises (hr.mono (by decide)) rfl T.f_still_rises.m T.f_still_rises.F.kp b_still_rises .nil pass0 (da_v (pd_var (pv 0)) (da_v (pd_var (pv 5)) da_nil se_Name) se_Name) (he:=se_Name) (hpl:=(np_cons se_Name np_nil))))) (@dss_consG _ _ _ _ _ _ (ds_set (ps_set (i:=6) sc_settled.nd rfl (Or.inl rfl) (pd_call (pe_call G_rising_walk (hr.mono (by decide)) rfl T.f_rising_walk.m T.f_rising_walk.F.kp b_rising_walk .nil pass0 (da_v (pd_var (pv 0)) (da_v (pd_var (pv 5)) da_nil se_Name) se_Name) (he:=se_Name) (hpl:=(np_cons se_Name np_nil)))))) (@dss_consG _ _ _ _ _ _ (@ds_set _ _ _ _ _ (@ps_set _ _ 7 _ _ _ _ sc_settled.nd rfl (Or.inl rfl) (@pd_call _ _ _ _ _ _ _ (@pe_call _ _ _ _ _ _ _ _ _ _ _ _ _ _ _ _ G_filling_parts (hr.mono (by decide)) rfl T.f_filling_parts.m T.f_filling_parts.F.kp b_filling_parts .nil pass0 (da_v (pd_var (pv 0)) (da_v (pd_var (pv 1)) (da_v (pd_ixv (pv 3) (pd_ixv (pv 6) (pd_gi (pe_glob (v:=V.int 0) rfl T.mg_FROM ⟨_,rfl⟩)) (fun _ _=>rfl)) (fun _ _=>rfl)) (da_v (pd_var (pv 6)) da_nil se_Name) se_Subscript) se_Name) se_Name) (by decide) se_Name ((np_cons se_Name (np_cons se_Subscript (np_cons se_Name np_nil)))))) (by rfl) (by first | exact .inl rfl | exact .inr rfl | assumption))) (@dss_consG _ _ _ _ _ _ (ds_set (ps_set (i:=8) sc_settled.nd rfl (Or.inl rfl) (pd_call (pe_call G_end_of (hr.mono (by decide)) rfl T.f_end_of.m T.f_end_of.F.kp b_end_of .nil pass0 (da_v (pd_var (pv 0)) (da_v (pd_ixv (pv 6) (pd_gi (pe_glob (v:=V.int 0) rfl T.mg_FROM ⟨_,rfl⟩)) (fun _ _=>rfl)) (da_v (pd_var (pv 7)) da_nil se_Name) se_Subscript) se_Name) (he:=se_Name) (hpl:=(np_cons se_Subscript (np_cons se_Name np_nil))))))) (@dss_consG _ _ _ _ _ _ (ds_set (ps_set (i:=9) sc_settled.nd rfl (Or.inl rfl) (pd_ixv (pv 4) (pd_ixv (pv 6) (pd_gi (pe_glob (v:=V.int 0) rfl T.mg_FROM ⟨_,rfl⟩)) (fun _ _=>rfl)) (fun _ _=>rfl)))) (@dss_consG _ _ _ _ _ _ (ds_setI (ps_asg (pd_tup (dv_cons (pd_ixv (pv 9) (pd_gi (pe_glob (v:=V.int 0) rfl T.mg_FROM ⟨_,rfl⟩)) (fun _ _=>rfl)) (dv_cons (pd_f (pf_cat (pd_ixv (pv 9) (pd_gi (pe_glob (v:=V.int 1) rfl T.mg_BY ⟨_,rfl⟩)) (fun _ _=>rfl)) (pd_var (pv 7)))) dv_nil se_BinOp) se_Subscript)) (pg_sub (pv 4) (pd_var (pv 8)) set_list))) (@dss_consG _ _ _ _ _ _ (ds_setI (ps_asg (pd_var (pv 1)) (pg_sub (pv 3) (pd_var (pv 8)) set_list))) (dss_one (ds_set (ps_set (i:=5) sc_settled.nd rfl (Or.inl rfl) (pd_call (pe_call G_rows_from (hr.mono (by decide)) rfl T.f_rows_from.m T.f_rows_from.F.kp b_rows_from .nil pass0 (da_v (pd_var (pv 0)) (da_v (pd_var (pv 1)) (da_s (pv 3) da_nil se_Name) se_Name) se_Name) (he:=se_Name) (hpl:=(np_cons se_Name (np_cons se_Name np_nil)))))))))))))))) (dss_one (ds_ret (pd_tup (dv_cons (pd_var (pv 5)) (dv_cons (pd_var (pv 4)) dv_nil se_Name) se_Name)))))))),fun ds Q hl h=>?_⟩)
  obtain⟨m,ws,st,b0,rfl,ok,h0,hst,hb0,q⟩:=h
  have m2:=ok.m2
  decreasing_tactic
  refine go ?_;array_mem_dec
  refine⟨⟨by omega,by omega⟩,⟨rfl,by unfold rngD;rw[List.length_map,List.length_range];omega⟩,?_⟩
  unfold rngD
  rw[show ((m:Nat):Int).toNat=m by simp]
  refine compM (f:=fun i=>.tuple [.int (0 + ((i:Nat):Int)),.list []]) (fun i hi Q' q'=>?_) ?_
  · decreasing_tactic
    exact⟨by decide,by decide,q'⟩
  decreasing_tactic
  refine go ?_;decreasing_tactic
  refine⟨rfl,m,ws,st,b0,rfl,ok,hb0.len,?_⟩
  decreasing_tactic
  refine go ?_
  unfold dSeqG dWhile
  refine⟨fun μ ρ=>∃(b:Tb) (rd:List PyData) (z6 z7 z8 z9:Sl),ρ=[Sl.sh (landD m ws),Sl.sh (.int st),Sl.sh (.list (tabL b0)),Sl.ow (tabL b),Sl.ow rd,Sl.sh (.list ((rowsF m ws st m (b,List.replicate m none)).map rowD)),z6,z7,z8,z9]∧TabOk m st b∧lack st b=μ∧(∀t,Least m ws st b t→Least m ws st b0 t)∧rd.length=m∧∀d∈rd,RoadD (3 * (m - μ)) d,
    ⟨lack st b0,b0,_,_,_,_,_,rfl,hb0,rfl,fun t h=>h,by simp,fun d hd=>?_⟩,?_⟩
  · have hd':d∈(List.range m).map fun i=>PyData.tuple [.int (0 + ((i:Nat):Int)),.list []]:=hd
    obtain⟨i,_,rfl⟩:=List.mem_map.mp hd'
    exact⟨_,[],rfl,Nat.zero_le _⟩
  rintro μ ρ ⟨b,rd,z6,z7,z8,z9,rfl,hb,hμ,hle,hrl,hrd⟩
  obtain⟨r,rs,e1,e2,e3,e4,hR,hok,hfin⟩:=rows_all ok h0 hb
  decreasing_tactic
  refine⟨m,ws,_,rfl,?_⟩
  by_cases c:m < (rowsF m ws st m (b,List.replicate m none)).length
  · rw[decide_eq_true c]
    sizeOf_list_dec
    have hne:rs≠[]:=fun z=>by rw[z] at e3;have:=ok.m1;simp at e3;omega
    refine⟨m,ws,_,r,rfl,ok,hok,by omega,e2,hR.risen ok h0 hb hne,fun p n hp hn=>?_⟩
    obtain⟨N,PP,L,f1,f2,f3,f4,W,f6⟩:=wlk_ok ok h0 hb hR p (.inr ⟨n,hn⟩)
    have hN:N.length=m:=by omega
    rw[e1,f1]
    have hbeg:gt b (PP 0)=some (L 0):=W.beg
    have hP0:PP 0 < m:=W.pl ok hb 0 (Nat.zero_le _)
    refine go ?_;decreasing_tactic
    rw[tab_at (by rw[hb.len];exact hP0),hbeg]
    decreasing_trivial
    refine⟨m,ws,st,b,N,PP,L,rfl,ok,h0,hst,hb,W,hN,fun i j k le g tp tm hij hj hpp hle2 R t1 t2=>?_⟩
    have kl:k≤j - i:=by
      have:=R.kl
      unfold chs at this
      rw[List.length_map,seg_len (by omega)] at this
      exact this
    have hfull:PP (i + k) < m:=W.pl ok hb (i + k) (by omega)
    have htrp:Trp ws (PP 0) (partsF N i j k tm) (PP (i + k)):=by
      unfold partsF
      refine ((prt_trp (W.pth (i:=0) (j:=i) (Nat.zero_le _) (by omega))).app ?_).app (prt_trp (W.pth (i:=i) (j:=i + k) (by omega) (by omega)))
      have hs:=W.pth (i:=i) (j:=j) (by omega) (by omega)
      rw[←hpp] at hs
      exact .cons hs (fun z=>by have:=congrArg List.length z;rw[seg_len (by omega)] at this;simp at this;omega) t1 t2 (.inr rfl) .nil
    refine go ?_;decreasing_tactic
    refine⟨m,ws,PP 0,PP (i + k),_,rfl,htrp,?_⟩
    obtain⟨d0,hd0⟩:∃d,rd[PP 0]?=some d:=⟨_,List.getElem?_eq_getElem (by omega)⟩
    obtain⟨q0,ps0,rfl,hps⟩:=hrd d0 (List.mem_of_getElem? hd0)
    refine go ?_;decreasing_tactic
    rw[atI_nat hd0]
    decreasing_tactic
    refine go ?_;decreasing_tactic
    have h3:=@parts_len N i j k tm
    have hlk:=lack_set st b (PP (i + k)) (by rw[hb.len];exact hfull) (fill_new W h0 hb hij (by omega) hpp (by omega))
    have hlm:=@lack_le st b
    rw[hb.len] at hlm
    refine⟨by rw[List.length_map];omega,by decide,?_⟩
    rw[ixN_nat (by rw[hrl];exact hfull)]
    decreasing_tactic
    refine go ?_;decreasing_tactic
    rw[ixN_nat (by rw[len_tab,hb.len];exact hfull)]
    decreasing_tactic
    rw[show (tabL b).set (PP (i + k)) (PyData.int st)=tabL (b.set (PP (i + k)) (some st)) from set_tab (x:=some st)]
    refine go ?_;decreasing_tactic
    have hb':=fill_tab h0 hb hfull
    refine⟨rfl,m,ws,st,_,rfl,ok,hb'.len,?_⟩
    decreasing_tactic
    refine⟨lack st (b.set (PP (i + k)) (some st)),by omega,b.set (PP (i + k)) (some st),_,_,_,_,_,rfl,hb',rfl,fun t h=>hle t (h.fill hb hfull fun T hT h1 h2=>fill_lid W hij (by omega) hpp hle2 R hT h1 h2),by rw[List.length_set];exact hrl,fun d hd=>?_⟩
    rcases List.mem_or_eq_of_mem_set hd with hd | hd
    · obtain⟨q1,ps1,e,h5⟩:=hrd d hd
      exact⟨q1,ps1,e,by omega⟩
    · exact⟨_,_,hd,by rw[List.length_append,List.length_map];omega⟩
  · rw[decide_eq_false c]
    decreasing_tactic
    refine go ?_
    decreasing_tactic
    refine⟨by decide,?_⟩
    exact q _ r rd e2 (hle _ (hfin (by omega)))
theorem ok_highest (T:Txt K mg):FnOk P w K mg base CX0 8 T.f_highest.a T.f_highest.d ["land", "store", "base"] (spD [.sh,.sh,.sh] spHighD):=by
  have G_settled:=@ok_settled P w K mg base T
  have b_settled:=T.f_settled.b
  refine fn_d T.f_highest.F sc_highest rfl (fun C cdv A outer s H E hr=>⟨_,(@dss_one _ _ _ _ (@ds_ret _ _ _ _ _ (@pd_ix _ _ _ _ _ _ _ (pd_ix (pd_ix (pd_call (pe_call G_settled (hr.mono (by decide)) rfl T.f_settled.m T.f_settled.F.kp b_settled .nil pass0 (da_v (pd_var (pv 0)) (da_v (pd_var (pv 1)) (da_v (pd_var (pv 2)) da_nil se_Name) se_Name) se_Name) (he:=se_Name) (hpl:=(np_cons se_Name (np_cons se_Name np_nil))))) pd_int (fun _ _=>rfl)) (pd_neg pd_int) (fun _ _=>rfl)) (pd_gi (pe_glob (v:=V.int 0) rfl T.mg_TABLE ⟨_,rfl⟩)) (fun _ _=>rfl)))),fun ds Q hl h=>?_⟩)
  obtain⟨m,ws,st,b0,rfl,ok,h0,hst,hb0,q⟩:=h
  decreasing_tactic
  refine⟨m,ws,st,b0,rfl,ok,h0,hst,hb0,fun rs r rd hl hL=>?_⟩
  decreasing_tactic
  rw[show -(1:Int)=-1 from rfl,atI_last1 (last_map hl)]
  decreasing_trivial
  exact q _ hL
end
def spChangeD:DSp:=fun ds Q=>∃(d:PyData) (sc:Int),ds=[d,.int sc]∧0≤sc∧sc≤1000000000000000000∧∀r:Int,-sc≤r→r≤sc→Q (.int r)
theorem lt2 {r:Int} (h0:0≤r) (h1:r < 2):r=0∨r=1:=by omega
section
variable {P:Program} {w:World} {K:PySem.W.Frag} {mg:Str→Option Value} {base:Heap}
theorem ok_change (T:Txt K mg):FnOk P w K mg base CX0 4 T.f_change.a T.f_change.d ["_law_hand_here", "_law_scale"] (spD [.hd,.sh] spChangeD):=by
  have G_draw:=@ok_drawD P w K mg base T
  have b_draw:=T.f_draw.b
  refine fn_d T.f_change.F sc_change rfl (fun C cdv A outer s H E hr=>⟨_,(dss_one (ds_ret (pd_op op_sub ok_sub (pd_call (pe_call G_draw (hr.mono (by decide)) rfl T.f_draw.m T.f_draw.F.kp b_draw .nil pass0 (da_s (pv 0) (da_v (pd_op op_add ok_add (pd_op op_mul ok_mul pd_int (pd_var (pv 1))) pd_int) da_nil se_BinOp) se_Name) (he:=se_Name) (hpl:=(np_cons se_BinOp np_nil)))) (pd_var (pv 1))))),fun ds Q hl h=>?_⟩)
  obtain⟨d,sc,rfl,s0,s1,q⟩:=h
  decreasing_tactic
  refine⟨rfl,.inl ⟨by decide,by decide⟩,2 * sc + 1,rfl,by omega,by omega,fun r r0 r1=>?_⟩
  decreasing_tactic
  exact q _ (by omega) (by omega)
end
def spLandB:DSp:=fun ds Q=>∃(d:PyData) (pl wn:Nat) (sc:Int),ds=[d,.int (pl:Nat),.int (wn:Nat),.int sc]∧1≤pl∧pl≤12∧wn≤40∧1≤sc∧sc≤1000000000000000000∧∀m ws,LandOk m ws→m≤pl→ws.length≤wn→(∀w∈ws,-sc≤w.2.2∧w.2.2≤sc)→Q (landD m ws)
def WyB (m:Nat) (sc:Int) (w:Wy):Prop:=w.1 < m∧w.2.1 < m∧-sc≤w.2.2∧w.2.2≤sc
theorem toNat_lt {r:Int} {m:Nat} (h0:0≤r) (h1:r < ((m:Nat):Int)):∃n:Nat,r=((n:Nat):Int)∧n < m:=⟨r.toNat,by omega,by omega⟩
section
variable {P:Program} {w:World} {K:PySem.W.Frag} {mg:Str→Option Value} {base:Heap}
theorem ok_land (T:Txt K mg):FnOk P w K mg base CX0 5 T.f_land.a T.f_land.d ["_law_hand_here", "_law_places", "_law_ways", "_law_scale"] (spD [.hd,.sh,.sh,.sh] spLandB):=by
  have G_draw:=@ok_drawD P w K mg base T
  have b_draw:=T.f_draw.b
  have G_change:=@ok_change P w K mg base T
  have b_change:=T.f_change.b
  refine fn_d T.f_land.F sc_land rfl (fun C cdv A outer s H E hr=>⟨_,(@dss_consG _ _ _ _ _ _ (ds_set (ps_set (i:=4) sc_land.nd rfl (Or.inl rfl) (pd_op op_add ok_add pd_int (pd_call (pe_call G_draw (hr.mono (by decide)) rfl T.f_draw.m T.f_draw.F.kp b_draw .nil pass0 (da_s (pv 0) (da_v (pd_var (pv 1)) da_nil se_Name) se_Name) (he:=se_Name) (hpl:=(np_cons se_Name np_nil))))))) (@dss_consG _ _ _ _ _ _ (ds_own (ps_set (i:=5) sc_land.nd rfl (Or.inl rfl) (pf_lst dv_nil))) (@dss_consG _ _ _ _ _ _ (@ds_for _ _ _ _ _ _ (@ps_for _ _ _ _ _ _ _ _ PassesOwn.never rfl (di_rng1 (pi_range1 rfl T.n_range (dv_cons (pd_call (pe_call G_draw (hr.mono (by decide)) rfl T.f_draw.m T.f_draw.F.kp b_draw .nil pass0 (da_s (pv 0) (da_v (pd_op op_add ok_add (pd_var (pv 2)) pd_int) da_nil se_BinOp) se_Name) (he:=se_Name) (hpl:=(np_cons se_BinOp np_nil)))) dv_nil se_Call))) (dg_name (pg_name (i:=6) sc_land.nd rfl (Or.inl rfl))) (@dss_consG _ _ _ _ _ _ (ds_set (ps_set (i:=7) sc_land.nd rfl (Or.inl rfl) (pd_call (pe_call G_draw (hr.mono (by decide)) rfl T.f_draw.m T.f_draw.F.kp b_draw .nil pass0 (da_s (pv 0) (da_v (pd_var (pv 4)) da_nil se_Name) se_Name) (he:=se_Name) (hpl:=(np_cons se_Name np_nil)))))) (@dss_consG _ _ _ _ _ _ (ds_set (ps_set (i:=8) sc_land.nd rfl (Or.inl rfl) (pd_call (pe_call G_draw (hr.mono (by decide)) rfl T.f_draw.m T.f_draw.F.kp b_draw .nil pass0 (da_s (pv 0) (da_v (pd_var (pv 4)) da_nil se_Name) se_Name) (he:=se_Name) (hpl:=(np_cons se_Name np_nil)))))) (@dss_consG _ _ _ _ _ _ (@ds_mid _ _ _ _ (@ds_if _ _ _ _ _ _ _ _ _ (pdt_cmp (op_eqD (units_of hr)) ok_eq (pd_call (pe_call G_draw (hr.mono (by decide)) rfl T.f_draw.m T.f_draw.F.kp b_draw .nil pass0 (da_s (pv 0) (da_v pd_int da_nil se_Constant) se_Name) (he:=se_Name) (hpl:=(np_cons se_Constant np_nil)))) pd_int (nomark _)) (dss_one (ds_set (ps_set (i:=8) sc_land.nd rfl (Or.inl rfl) (pd_op op_mod ok_mod (pd_op op_add ok_add (pd_var (pv 7)) pd_int) (pd_var (pv 4)))))) dss_nil)) (@dss_one _ _ _ _ (@ds_app _ _ _ _ _ _ (@ps_expr _ _ _ _ (@pe_bm _ _ _ _ _ _ _ _ _ _ _ _ PySem.F.plainAttrs_list PySem.F.slot_list_append PySem.F.type_list_append mt_append (pv 5) (@pa_cons _ _ _ _ _ (@pd_tup _ _ _ _ _ _ (@dv_cons _ _ _ _ _ _ (pd_var (pv 7)) (@dv_cons _ _ _ _ _ _ (pd_var (pv 8)) (@dv_cons _ _ _ _ _ _ (@pd_call _ _ _ _ _ _ _ (@pe_call _ _ _ _ _ _ _ _ _ _ _ _ _ _ _ _ G_change (hr.mono (by decide)) rfl T.f_change.m T.f_change.F.kp b_change .nil pass0 (da_s (pv 0) (da_v (pd_ix (pd_f (pf_lst (dv_cons (pd_var (pv 3)) (dv_cons (pd_var (pv 3)) (dv_cons pd_int dv_nil se_Constant) se_Name) se_Name))) (pd_call (pe_call G_draw (hr.mono (by decide)) rfl T.f_draw.m T.f_draw.F.kp b_draw .nil pass0 (da_s (pv 0) (da_v pd_int da_nil se_Constant) se_Name) (he:=se_Name) (hpl:=(np_cons se_Constant np_nil)))) (fun _ _=>rfl)) da_nil se_Subscript) se_Name) (by decide) se_Name ((np_cons se_Subscript np_nil)))) dv_nil se_Call) se_Name) se_Name)) pa_nil se_Tuple) (by rfl) (by rfl) (by rfl) (by rfl) (by rfl)) (by rfl))))))) (by intro _;rfl))) (dss_one (ds_ret (pd_tup (dv_cons (pd_var (pv 4)) (dv_cons (pd_var (pv 5)) dv_nil se_Name) se_Name))))))),fun ds Q hl h=>?_⟩)
  obtain⟨d,pl,wn,sc,rfl,p1,p2,w2,s0,s1,q⟩:=h
  decreasing_tactic
  refine⟨rfl,_,rfl,by omega,by omega,fun r r0 r1=>?_⟩
  decreasing_tactic
  obtain⟨m,hm,mp,m1⟩:∃m:Nat,1 + r=((m:Nat):Int)∧m≤pl∧1≤m∧m≤12:=⟨(1 + r).toNat,by omega,by omega,by omega,by omega⟩
  rw[hm]
  refine go ?_;decreasing_tactic
  refine⟨by decide,?_⟩
  refine go ?_;array_mem_dec
  refine⟨rfl,_,rfl,by omega,by omega,fun c c0 c1=>?_⟩
  array_mem_dec
  refine⟨⟨by omega,by omega⟩,fun r ρ=>∃(ws:List Wy) (z6 z7 z8:Sl),ρ=[Sl.hd,Sl.sh (.int (pl:Nat)),Sl.sh (.int (wn:Nat)),Sl.sh (.int sc),Sl.sh (.int (m:Nat)),Sl.ow (ws.map wayD),z6,z7,z8]∧r.length + ws.length≤wn∧∀w∈ws,WyB m sc w,⟨[],_,_,_,rfl,by unfold rngD;simp;omega,fun w hw=>nomatch hw⟩,?_,?_⟩
  · rintro x r ρ ⟨ws,z6,z7,z8,rfl,hl2,hw⟩
    sizeOf_list_dec
    refine⟨rfl,_,rfl,by omega,by omega,fun a a0 a1=>?_⟩
    refine go ?_;decreasing_tactic
    refine⟨rfl,_,rfl,by omega,by omega,fun b b0 b1=>?_⟩
    refine go ?_
    unfold dSeqG
    obtain⟨a',rfl,ha⟩:=toNat_lt a0 a1
    obtain⟨b',rfl,hb⟩:=toNat_lt b0 b1
    refine⟨fun ρ=>∃e:Nat,e < m∧ρ=[Sl.hd,Sl.sh (.int (pl:Nat)),Sl.sh (.int (wn:Nat)),Sl.sh (.int sc),Sl.sh (.int (m:Nat)),Sl.ow (ws.map wayD),Sl.sh x,Sl.sh (.int (a':Nat)),Sl.sh (.int (e:Nat))],?_,?_⟩
    · decreasing_tactic
      refine⟨rfl,_,rfl,by decide,by decide,fun u u0 u1=>?_⟩
      decreasing_tactic
      refine⟨rfl,rfl,min0 _ _,?_⟩
      rw[eqv_int]
      cases (u == 0) with
      | true=>
        decreasing_tactic
        refine⟨by omega,?_⟩
        obtain⟨e,he,hem⟩:=toNat_lt (r:=(((a':Nat):Int) + 1) % ((m:Nat):Int)) (m:=m) (Int.emod_nonneg _ (by omega)) (Int.emod_lt_of_pos _ (by omega))
        rw[he]
        exact⟨e,hem,rfl⟩
      | false=>
        decreasing_tactic
        exact⟨b',hb,rfl⟩
    · rintro ρ ⟨e,he,rfl⟩
      refine go ?_;decreasing_tactic
      refine⟨rfl,by show 3≤1000;decide,rfl,_,rfl,by decide,by decide,fun u u0 u1=>?_⟩
      decreasing_tactic
      obtain⟨sc',hsc,hs0,hs1⟩:∃sc':Int,atI [PyData.int sc,.int sc,.int 1] u=some (.int sc')∧0≤sc'∧sc'≤sc:=by
        have hu:u=0∨u=1∨u=2:=by omega
        rcases hu with rfl | rfl | rfl
        · exact⟨sc,rfl,by omega,by omega⟩
        · exact⟨sc,rfl,by omega,by omega⟩
        · exact⟨1,rfl,by decide,by omega⟩
      rw[hsc]
      decreasing_tactic
      refine⟨_,sc',rfl,hs0,by omega,fun v v0 v1=>?_⟩
      decreasing_tactic
      refine⟨by decide,by rw[List.length_map];simp at hl2;omega,ws++[(a',e,v)],_,_,_,by rw[List.map_append];rfl,by simp at hl2 ⊢;omega,fun w hw'=>?_⟩
      rcases List.mem_append.mp hw' with z | z
      · exact hw w z
      · have:w=(a',e,v):=by simpa using z
        subst this
        exact⟨ha,he,show -sc≤v by omega,show v≤sc by omega⟩
  · rintro ρ ⟨ws,z6,z7,z8,rfl,hl2,hw⟩
    refine go ?_;decreasing_tactic
    refine⟨by decide,?_⟩
    exact q m ws ⟨m1.1,m1.2,by simp at hl2;omega,fun w h=>(hw w h).1,fun w h=>(hw w h).2.1,fun w h=>by have:=(hw w h).2.2.1;omega,fun w h=>by have:=(hw w h).2.2.2;omega⟩ mp (by simp at hl2;omega) fun w h=>(hw w h).2.2
end
theorem rng0 (n:Nat):rngD 0 n=(List.range n).map fun k=>PyData.int ((k:Nat):Int):=by
  unfold rngD
  congr 1
  funext i
  rw[Int.zero_add]
def LayN (n:Nat) (d:PyData):Prop:=d.canLay0=true∧d.depth≤n
theorem LayN.all {n:Nat}:∀{ds:List PyData},(∀d∈ds,LayN n d)→PyData.canLayAll0 ds=true∧PyData.depthAll ds≤n
  | [],_=>⟨rfl,Nat.zero_le _⟩
  | d::ds,h=>by
    obtain⟨a,b⟩:=LayN.all fun x hx=>h x (List.mem_cons_of_mem _ hx)
    obtain⟨a1,b1⟩:=h d List.mem_cons_self
    constructor
    · show (PyData.canLay0 d&&PyData.canLayAll0 ds)=true
      rw[a,a1];rfl
    · show max (PyData.depth d) (PyData.depthAll ds)≤n
      omega
theorem LayN.lst {n:Nat} {ds:List PyData} (h:∀d∈ds,LayN n d):LayN (n + 1) (.list ds):=by
  obtain⟨a,b⟩:=LayN.all h
  refine⟨by rw[PyData.canLay0];exact a,?_⟩
  show PyData.depthAll ds + 1≤n + 1
  omega
theorem LayN.tup {n:Nat} {ds:List PyData} (h:∀d∈ds,LayN n d):LayN (n + 1) (.tuple ds):=by
  obtain⟨a,b⟩:=LayN.all h
  refine⟨by rw[PyData.canLay0];exact a,?_⟩
  show PyData.depthAll ds + 1≤n + 1
  omega
theorem LayN.mono {n k:Nat} {d:PyData} (h:LayN n d) (l:n≤k):LayN k d:=⟨h.1,Nat.le_trans h.2 l⟩
theorem LayN.int {n:Nat} (i:Int):LayN n (.int i):=⟨rfl,Nat.zero_le _⟩
theorem LayN.way (w:Wy):LayN 1 (wayD w):=LayN.tup fun d hd=>by
  rcases List.mem_cons.mp hd with rfl | hd
  · exact .int _
  rcases List.mem_cons.mp hd with rfl | hd
  · exact .int _
  rw[List.mem_singleton.mp hd];exact .int _
theorem LayN.land (m:Nat) (ws:List Wy):LayN 3 (landD m ws):=LayN.tup fun d hd=>by
  rcases List.mem_cons.mp hd with rfl | hd
  · exact .int _
  rw[List.mem_singleton.mp hd]
  exact LayN.lst fun d hd=>by
    obtain⟨w,_,rfl⟩:=List.mem_map.mp hd
    exact .way w
theorem LayN.two {n:Nat} {a b:PyData} (ha:LayN n a) (hb:LayN n b):∀d∈[a,b],LayN n d:=fun d hd=>by
  rcases List.mem_cons.mp hd with rfl | hd
  · exact ha
  rw[List.mem_singleton.mp hd];exact hb
theorem LayN.dep {n:Nat} {a:PyData} (h:LayN n a) (l:n≤64) (b:PyData):min a.depth b.depth≤64:=by have:=h.2;omega
theorem LayN.same {n:Nat} {a:PyData} (h:LayN n a):PyData.eqv a a=true:=PySem.SeqAt.eqv_refl _ h.1
def tbsL (ts:List Tb):List PyData:=ts.map fun t=>.list (tabL t)
theorem rng_cons {N k:Nat} {x:PyData} {r:List PyData} (h:x::r=(rngD 0 N).drop k):x=.int (k:Nat)∧r=(rngD 0 N).drop (k + 1)∧k < N:=by
  have hk:k < (rngD 0 N).length:=by
    rcases Nat.lt_or_ge k (rngD 0 N).length with c | c
    · exact c
    · rw[List.drop_of_length_le c] at h;cases h
  rw[List.drop_eq_getElem_cons hk] at h
  injection h with h1 h2
  obtain⟨hk',e⟩:=rngD_get (List.getElem?_eq_getElem hk)
  exact⟨by rw[h1,e,Int.zero_add],h2,hk'⟩
theorem rng_nil {N k:Nat} (h:[]=(rngD 0 N).drop k):N≤k:=by
  have:=congrArg List.length h
  unfold rngD at this
  simp at this
  omega
section
variable {P:Program} {w:World} {K:PySem.W.Frag} {mg:Str→Option Value} {base:Heap}
end
def sprD (q:Sp2):PyData:=.tuple [.int (q.1:Nat),.int q.2]
def sIn (s k:Nat):Bool:=decide (s / 2 ^ k % 2=1)
def tbs (ts:List Tb) (s:Nat):Tb:=(ts[s]?).getD []
def lvG (st:Int) (ts:List Tb) (r:Nat) (q:Sp2):Option Int:=(gt (tbs ts r) q.1).bind fun x=>stepF st x q.2
def numsF (n s:Nat):List Nat:=(List.range n).filter (sIn s)
structure SprOk (m:Nat) (sp:List Sp2):Prop where
  few:sp.length≤4
  pl:∀q∈sp,q.1 < m
  gf:∀q∈sp,0≤q.2
structure Bas (m:Nat) (st:Int) (sp:List Sp2) (ts:List Tb) (s:Nat) (ks:List Nat) (c:Tb):Prop where
  tab:TabOk m st c
  up:∀k∈ks,∀q,sp[k]?=some q→leO (lvG st ts (s - 2 ^ k) q) (gt c q.1)
  le:∀L:Tb,(∀k∈ks,∀q,sp[k]?=some q→leO (lvG st ts (s - 2 ^ k) q) (gt L q.1))→leT c L
def BasO (m:Nat) (st:Int) (sp:List Sp2) (ts:List Tb) (b:Tb) (s:Nat) (c:Tb):Prop:=(s=0∧c=b)∨(0 < s∧Bas m st sp ts s (numsF sp.length s) c)
theorem tab_nones {m:Nat} {st:Int}:TabOk m st (List.replicate m none):=⟨List.length_replicate,fun p x e=>by rw[gt_rep] at e;cases e⟩
theorem Bas.nil {m:Nat} {st:Int} {sp:List Sp2} {ts:List Tb} {s:Nat}:Bas m st sp ts s [] (List.replicate m none):=
  ⟨tab_nones,fun k hk=>(nomatch hk),fun L _ p=>by rw[gt_rep];exact leO_none⟩
theorem lv_bd {st:Int} {ts:List Tb} {r:Nat} {q:Sp2} {x:Int} (h0:0≤st) (h:lvG st ts r q=some x):0≤x∧x≤st:=by
  unfold lvG at h
  cases e:gt (tbs ts r) q.1 with
  | none=>rw[e] at h;cases h
  | some l=>rw[e] at h;exact step_bd h0 h
theorem Bas.put {m:Nat} {st:Int} {sp:List Sp2} {ts:List Tb} {s:Nat} {ks:List Nat} {c:Tb} {k:Nat} {q:Sp2} (h0:0≤st) (B:Bas m st sp ts s ks c) (hq:sp[k]?=some q) (hm:q.1 < m) (h:moreF (lvG st ts (s - 2 ^ k) q) (gt c q.1)=true):Bas m st sp ts s (ks++[k]) (c.set q.1 (lvG st ts (s - 2 ^ k) q)):=by
  have hl:q.1 < c.length:=by rw[B.tab.len];exact hm
  have hle:leT c (c.set q.1 (lvG st ts (s - 2 ^ k) q)):=fun p=>by
    rw[gt_set hl]
    split
    · rename_i e;cases e;exact more_le h
    · exact leO_refl _
  refine⟨⟨by rw[List.length_set];exact B.tab.len,fun p x e=>?_⟩,fun j hj r hr=>?_,fun L hL p=>?_⟩
  · rw[gt_set hl] at e
    split at e
    · exact lv_bd h0 e
    · exact B.tab.bd p x e
  · rcases List.mem_append.mp hj with z | z
    · exact leO_trans (B.up j z r hr) (hle _)
    · have:j=k:=by simpa using z
      subst this
      rw[hq] at hr
      cases hr
      rw[gt_set hl,if_pos rfl]
      exact leO_refl _
  · rw[gt_set hl]
    split
    · rename_i e
      cases e
      exact hL k (List.mem_append_right _ List.mem_cons_self) q hq
    · exact B.le L (fun j hj=>hL j (List.mem_append_left _ hj)) p
theorem Bas.keep {m:Nat} {st:Int} {sp:List Sp2} {ts:List Tb} {s:Nat} {ks:List Nat} {c:Tb} {k:Nat} {q:Sp2} (B:Bas m st sp ts s ks c) (hq:sp[k]?=some q) (h:leO (lvG st ts (s - 2 ^ k) q) (gt c q.1)):Bas m st sp ts s (ks++[k]) c:=by
  refine⟨B.tab,fun j hj r hr=>?_,fun L hL=>B.le L fun j hj=>hL j (List.mem_append_left _ hj)⟩
  rcases List.mem_append.mp hj with z | z
  · exact B.up j z r hr
  · have:j=k:=by simpa using z
    subst this
    rw[hq] at hr
    cases hr
    exact h
theorem sIn_le {s k:Nat} (h:sIn s k=true):2 ^ k≤s:=by
  have h1:s / 2 ^ k % 2=1:=of_decide_eq_true h
  rcases Nat.lt_or_ge s (2 ^ k) with c | c
  · rw[Nat.div_eq_of_lt c] at h1;cases h1
  · exact c
theorem nums_in {n s k:Nat} (h:k∈numsF n s):k < n∧sIn s k=true:=by
  obtain⟨h1,h2⟩:=List.mem_filter.mp h
  exact⟨List.mem_range.mp h1,h2⟩
theorem Bas.cong {m:Nat} {st:Int} {sp:List Sp2} {ts us:List Tb} {s n:Nat} {c:Tb} (h:∀r,r < s→tbs ts r=tbs us r) (B:Bas m st sp ts s (numsF n s) c):Bas m st sp us s (numsF n s) c:=by
  have e:∀k∈numsF n s,∀q,lvG st ts (s - 2 ^ k) q=lvG st us (s - 2 ^ k) q:=fun k hk q=>by
    have h2:=sIn_le (nums_in hk).2
    have h3:0 < 2 ^ k:=Nat.pos_of_ne_zero (by simp)
    unfold lvG
    rw[h (s - 2 ^ k) (by omega)]
  exact⟨B.tab,fun k hk q hq=>by rw[←e k hk];exact B.up k hk q hq,fun L hL=>B.le L fun k hk q hq=>by rw[e k hk];exact hL k hk q hq⟩
theorem BasO.cong {m:Nat} {st:Int} {sp:List Sp2} {ts us:List Tb} {s:Nat} {b c:Tb} (h:∀r,r < s→tbs ts r=tbs us r) (B:BasO m st sp ts b s c):BasO m st sp us b s c:=by
  rcases B with z | ⟨z,B⟩
  · exact .inl z
  · exact .inr ⟨z,B.cong h⟩
theorem BasO.tab {m:Nat} {st:Int} {sp:List Sp2} {ts:List Tb} {s:Nat} {b c:Tb} (hb:TabOk m st b) (B:BasO m st sp ts b s c):TabOk m st c:=by
  rcases B with ⟨_,rfl⟩ | ⟨_,B⟩
  · exact hb
  · exact B.tab
def SprP (m:Nat) (ws:List Wy) (st:Int) (sp:List Sp2) (b:Tb) (ts:List Tb):Prop:=∀s,s < ts.length→∃c,BasO m st sp ts b s c∧Least m ws st c (tbs ts s)
structure SprT (m:Nat) (ws:List Wy) (st:Int) (sp:List Sp2) (b:Tb) (ts:List Tb):Prop where
  len:ts.length=2 ^ sp.length
  all:SprP m ws st sp b ts
theorem tbs_app {ts us:List Tb} {r:Nat} (h:r < ts.length):tbs (ts++us) r=tbs ts r:=by
  unfold tbs
  rw[List.getElem?_append_left h]
theorem tbs_at {ts:List Tb} {r:Nat} (h:r < ts.length):ts[r]?=some (tbs ts r):=by
  unfold tbs
  rw[List.getElem?_eq_getElem h]
  rfl
theorem tbs_mem {ts:List Tb} {t:Tb} (h:t∈ts):∃s,s < ts.length∧tbs ts s=t:=by
  obtain⟨p,hp,e⟩:=List.mem_iff_getElem.mp h
  exact⟨p,hp,by unfold tbs;rw[List.getElem?_eq_getElem hp,e];rfl⟩
theorem mem_tbs {ts:List Tb} {s:Nat} (h:s < ts.length):tbs ts s∈ts:=List.mem_of_getElem? (tbs_at h)
theorem SprP.snoc {m:Nat} {ws:List Wy} {st:Int} {sp:List Sp2} {b:Tb} {ts:List Tb} {c t:Tb} (h:SprP m ws st sp b ts) (B:BasO m st sp ts b ts.length c) (L:Least m ws st c t):SprP m ws st sp b (ts++[t]):=fun s hs=>by
  rw[List.length_append,List.length_singleton] at hs
  rcases Nat.lt_or_ge s ts.length with z | z
  · obtain⟨c,B',L'⟩:=h s z
    exact⟨c,B'.cong fun r hr=>(tbs_app (by omega)).symm,by rw[tbs_app z];exact L'⟩
  · have:s=ts.length:=by omega
    subst this
    refine⟨c,B.cong fun r hr=>(tbs_app hr).symm,?_⟩
    have e:tbs (ts++[t]) ts.length=t:=by unfold tbs;simp
    rw[e]
    exact L
structure SLid (m:Nat) (ws:List Wy) (st:Int) (sp:List Sp2) (b:Tb) (ts:List Tb):Prop where
  len:ts.length=2 ^ sp.length
  tab:∀t∈ts,TabOk m st t
  cl:∀t∈ts,Closed ws st t
  b0:leT b (tbs ts 0)
  use:∀s,s < ts.length→∀k q,sp[k]?=some q→sIn s k=true→leO (lvG st ts (s - 2 ^ k) q) (gt (tbs ts s) q.1)
theorem pw_pos (n:Nat):0 < 2 ^ n:=Nat.pos_of_ne_zero (by simp)
theorem at_lt {sp:List Sp2} {k:Nat} {q:Sp2} (h:sp[k]?=some q):k < sp.length:=by
  rcases Nat.lt_or_ge k sp.length with c | c
  · exact c
  · rw[List.getElem?_eq_none c] at h;cases h
theorem nums_mem {n s k:Nat} (h:k < n) (h2:sIn s k=true):k∈numsF n s:=List.mem_filter.mpr ⟨List.mem_range.mpr h,h2⟩
theorem sIn_pos {s k:Nat} (h:sIn s k=true):0 < s:=Nat.lt_of_lt_of_le (pw_pos k) (sIn_le h)
theorem SprT.lid {m:Nat} {ws:List Wy} {st:Int} {sp:List Sp2} {b:Tb} {ts:List Tb} (h:SprT m ws st sp b ts):SLid m ws st sp b ts:=by
  refine⟨h.len,fun t ht=>?_,fun t ht=>?_,?_,fun s hs k q hq hk=>?_⟩
  · obtain⟨s,hs,rfl⟩:=tbs_mem ht
    obtain⟨c,_,L⟩:=h.all s hs
    exact L.tab
  · obtain⟨s,hs,rfl⟩:=tbs_mem ht
    obtain⟨c,_,L⟩:=h.all s hs
    exact L.cl
  · obtain⟨c,B,L⟩:=h.all 0 (by rw[h.len];exact pw_pos _)
    rcases B with ⟨_,rfl⟩ | ⟨z,_⟩
    · exact L.up
    · exact absurd z (by decide)
  · obtain⟨c,B,L⟩:=h.all s hs
    rcases B with ⟨z,_⟩ | ⟨_,B⟩
    · have:=sIn_pos hk;omega
    · exact leO_trans (B.up k (nums_mem (at_lt hq) hk) q hq) (L.up _)
theorem bit_add:∀n,n < 5→∀k,k < n→∀s,s < 2 ^ n→sIn s k=false→sIn (s + 2 ^ k) k=true∧s + 2 ^ k < 2 ^ n:=by decide
theorem bit_and:∀k,k < 4→∀s,s < 16→decide (Builtin.bitAnd ((s:Nat):Int) ((2 ^ k:Nat):Int)=0)=!sIn s k:=by decide
theorem SLid.next {m:Nat} {ws:List Wy} {st:Int} {sp:List Sp2} {b:Tb} {ts:List Tb} {s k:Nat} {q:Sp2} (hf:sp.length≤4) (g:SLid m ws st sp b ts) (hs:s < ts.length) (hq:sp[k]?=some q) (h:sIn s k=false):s + 2 ^ k < ts.length∧leO (lvG st ts s q) (gt (tbs ts (s + 2 ^ k)) q.1):=by
  obtain⟨h1,h2⟩:=bit_add sp.length (by omega) k (at_lt hq) s (by rw[←g.len];exact hs) h
  have h3:s + 2 ^ k < ts.length:=by rw[g.len];exact h2
  have:=g.use (s + 2 ^ k) h3 k q hq h1
  rw[Nat.add_sub_cancel] at this
  exact⟨h3,this⟩
theorem tbs_len (ts:List Tb):(tbsL ts).length=ts.length:=List.length_map _
theorem tbs_ix {ts:List Tb} {r:Nat} (h:r < ts.length):atI (tbsL ts) ((r:Nat):Int)=some (.list (tabL (tbs ts r))):=atI_nat (by unfold tbsL;rw[List.getElem?_map,tbs_at h];rfl)
theorem spr_ix {sp:List Sp2} {k:Nat} {q:Sp2} (h:sp[k]?=some q):atI (sp.map sprD) ((k:Nat):Int)=some (sprD q):=atI_nat (by rw[List.getElem?_map,h];rfl)
theorem at_ex {sp:List Sp2} {k:Nat} (h:k < sp.length):∃q,sp[k]?=some q:=⟨_,List.getElem?_eq_getElem h⟩
def spAlone:DSp:=fun ds Q=>∃k:Nat,ds=[.int (k:Nat)]∧k≤900∧Q (.int ((2 ^ k:Nat):Int))
def spNums:DSp:=fun ds Q=>∃(sp:List Sp2) (s:Nat),ds=[.list (sp.map sprD),.int (s:Nat)]∧sp.length≤4∧s < 2 ^ sp.length∧Q (.list (numL (numsF sp.length s)))
def spLvS:DSp:=fun ds Q=>∃(m:Nat) (st:Int) (sp:List Sp2) (ts:List Tb) (s k:Nat) (q:Sp2),ds=[.int st,.list (sp.map sprD),.list (tbsL ts),.int (s:Nat),.int (k:Nat)]∧k≤900∧sp[k]?=some q∧2 ^ k≤s∧s - 2 ^ k < ts.length∧q.1 < m∧(∀t∈ts,TabOk m st t)∧Q (oD (lvG st ts (s - 2 ^ k) q))
def spBaseBy:DSp:=fun ds Q=>∃(m:Nat) (st:Int) (sp:List Sp2) (ts:List Tb) (b:Tb) (s:Nat),ds=[.int st,.list (sp.map sprD),.list (tbsL ts),.list (tabL b),.int (s:Nat)]∧SprOk m sp∧0≤st∧TabOk m st b∧m≤900∧s < 2 ^ sp.length∧s≤ts.length∧(∀t∈ts,TabOk m st t)∧∀c,BasO m st sp ts b s c→Q (.list (tabL c))
def spHighBy:DSp:=fun ds Q=>∃(m:Nat) (ws:List Wy) (st:Int) (sp:List Sp2) (b:Tb),ds=[landD m ws,.int st,.list (sp.map sprD),.list (tabL b)]∧LandOk m ws∧0≤st∧st≤1000000000000000000000∧SprOk m sp∧TabOk m st b∧∀ts,SprT m ws st sp b ts→Q (.list (tbsL ts))
theorem pw4:∀n,n < 5→2 ^ n≤16:=by decide
theorem ixS {ts:List Tb} {s k:Nat} (h:2 ^ k≤s):((s:Nat):Int) - ((2 ^ k:Nat):Int)=((s - 2 ^ k:Nat):Int):=by omega
section
variable {P:Program} {w:World} {K:PySem.W.Frag} {mg:Str→Option Value} {base:Heap}
theorem ok_alone (T:Txt K mg):FnOk P w K mg base CX0 1 T.f_alone.a T.f_alone.d ["number"] (spD [.sh] spAlone):=by
  refine fn_d T.f_alone.F sc_alone rfl (fun C cdv A outer s H E hr=>⟨_,(dss_one (ds_ret (pd_op op_shl ok_shl pd_int (pd_var (pv 0))))),fun ds Q hl h=>?_⟩)
  obtain⟨k,rfl,hk,q⟩:=h
  decreasing_tactic
  refine⟨⟨by omega,by omega,by decide⟩,?_⟩
  rw[show (1:Int) * 2 ^ (((k:Nat):Int)).toNat=((2 ^ k:Nat):Int) by rw[Int.one_mul,Int.toNat_natCast,Int.natCast_pow];rfl]
  exact q
theorem ok_numbers_in (T:Txt K mg):FnOk P w K mg base CX0 2 T.f_numbers_in.a T.f_numbers_in.d ["springs", "some"] (spD [.sh,.sh] spNums):=by
  have G_alone:=@ok_alone P w K mg base T
  have b_alone:=T.f_alone.b
  refine fn_d T.f_numbers_in.F sc_numbers_in rfl (fun C cdv A outer s H E hr=>⟨_,(@dss_one _ _ _ _ (@ds_ret _ _ _ _ _ (@pd_f _ _ _ _ (@pf_comp _ _ _ _ _ _ _ _ rfl (@pe_comp _ _ _ _ _ _ _ _ _ _ _ _ _ _ _ (CompSc.new (N:=["springs", "some"]) (osc:=defScope s_numbers_in) (by decide +kernel)) rfl (di_rng1 (pi_range1 rfl T.n_range (dv_cons (pd_lenv (pe_callB call_len_seq rfl T.n_len bt_len (pa_cons (pv 0) pa_nil se_Name) (he:=se_Name) (hpl:=np_nil))) dv_nil se_Call))) (fun _=>(pts_one (pdt_cmp (op_neD (units_of hr)) ok_eq (pd_op op_and ok_and (pd_var (pv 1)) (pd_call (pe_call G_alone (hr.mono (by decide)) rfl T.f_alone.m T.f_alone.F.kp b_alone .nil pass0 (da_v (pd_var (pv 2)) da_nil se_Name) (he:=se_Name) (hpl:=np_nil)))) pd_int (nomark _)))) (fun _=>(pd_var (pv 2))) (by rfl) (by rfl) (by intro _;rfl)))))),fun ds Q hl h=>?_⟩)
  obtain⟨sp,s,rfl,few,hs,q⟩:=h
  have s16:=pw4 sp.length (by omega)
  array_mem_dec
  rw[List.length_map]
  refine⟨⟨by omega,by omega⟩,⟨rfl,by unfold rngD;rw[List.length_map,List.length_range];omega⟩,?_⟩
  rw[Int.toNat_natCast,rng0]
  refine compF (p:=fun k=>sIn s k) (f:=fun k=>.int ((k:Nat):Int)) (fun k hk Q' q'=>?_) (fun k hk _ Q' q'=>?_) ?_
  · have hk:=List.mem_range.mp hk
    decreasing_tactic
    refine⟨k,rfl,by omega,?_⟩
    decreasing_tactic
    refine⟨rfl,rfl,min0 _ _,?_⟩
    rw[eqv_int]
    have e:=bit_and k (by omega) s (by omega)
    have e2:(Builtin.bitAnd ((s:Nat):Int) ((2 ^ k:Nat):Int) == 0)=!sIn s k:=e
    rw[e2]
    decreasing_tactic
    rw[Bool.not_not]
    exact q'
  · decreasing_tactic
    exact q'
  · rw[List.nil_append]
    exact q
theorem ok_level_by_spring (T:Txt K mg):FnOk P w K mg base CX0 2 T.f_level_by_spring.a T.f_level_by_spring.d ["store", "springs", "tables", "some", "number"] (spD [.sh,.sh,.bo,.sh,.sh] spLvS):=by
  have G_alone:=@ok_alone P w K mg base T
  have b_alone:=T.f_alone.b
  have G_stepped:=@ok_stepped P w K mg base T
  have b_stepped:=T.f_stepped.b
  refine fn_d T.f_level_by_spring.F sc_level_by_spring rfl (fun C cdv A outer s H E hr=>⟨_,(@dss_cons _ _ _ _ _ _ (@ds_set _ _ _ _ _ (@ps_set _ _ 5 _ _ _ _ sc_level_by_spring.nd rfl (Or.inl rfl) (pd_ix (pd_ixv (pv 2) (pd_op op_sub ok_sub (pd_var (pv 3)) (pd_call (pe_call G_alone (hr.mono (by decide)) rfl T.f_alone.m T.f_alone.F.kp b_alone .nil pass0 (da_v (pd_var (pv 4)) da_nil se_Name) (he:=se_Name) (hpl:=np_nil)))) (fun _ _=>rfl)) (pd_ix (pd_ixv (pv 1) (pd_var (pv 4)) (fun _ _=>rfl)) (pd_gi (pe_glob (v:=V.int 0) rfl T.mg_PLACE_springs ⟨_,rfl⟩)) (fun _ _=>rfl)) (fun _ _=>rfl)) (by rfl) (by first | exact .inl rfl | exact .inr rfl | assumption))) (@dss_one _ _ _ _ (@ds_ret _ _ _ _ _ (@pd_if _ _ _ _ _ _ _ _ _ (pdt_cmp op_isN ok_isN (pd_var (pv 5)) pd_non (nomark _)) pd_non (pd_call (pe_call G_stepped (hr.mono (by decide)) rfl T.f_stepped.m T.f_stepped.F.kp b_stepped .nil pass0 (da_v (pd_var (pv 0)) (da_v (pd_var (pv 5)) (da_v (pd_ix (pd_ixv (pv 1) (pd_var (pv 4)) (fun _ _=>rfl)) (pd_gi (pe_glob (v:=V.int 1) rfl T.mg_GIFT ⟨_,rfl⟩)) (fun _ _=>rfl)) da_nil se_Subscript) se_Name) se_Name) (he:=se_Name) (hpl:=(np_cons se_Name (np_cons se_Subscript np_nil))))))))),fun ds Q hl h=>?_⟩)
  obtain⟨m,st,sp,ts,s,k,p,rfl,hk,hp,hle,hlt,hm,hT,q⟩:=h
  have tl:=(hT _ (mem_tbs hlt)).len
  decreasing_tactic
  refine⟨k,rfl,by omega,?_⟩
  decreasing_tactic
  rw[ixS (ts:=ts) hle,tbs_ix hlt]
  decreasing_tactic
  rw[spr_ix hp]
  unfold sprD
  decreasing_tactic
  rw[tab_at (by rw[tl];exact hm)]
  decreasing_tactic
  unfold lvG at q
  cases e:gt (tbs ts (s - 2 ^ k)) p.1 with
  | none=>
    rw[e] at q
    decreasing_trivial
    exact q
  | some x=>
    rw[e] at q
    decreasing_trivial
    exact iteF ⟨st,x,p.2,rfl,q⟩
theorem ok_base_by (T:Txt K mg):FnOk P w K mg base CX0 3 T.f_base_by.a T.f_base_by.d ["store", "springs", "tables", "base", "some"] (spD [.sh,.sh,.bo,.sh,.sh] spBaseBy):=by
  have G_numbers_in:=@ok_numbers_in P w K mg base T
  have b_numbers_in:=T.f_numbers_in.b
  have G_level_by_spring:=@ok_level_by_spring P w K mg base T
  have b_level_by_spring:=T.f_level_by_spring.b
  have G_is_more:=@ok_is_more P w K mg base T
  have b_is_more:=T.f_is_more.b
  refine fn_d T.f_base_by.F sc_base_by rfl (fun C cdv A outer s H E hr=>⟨_,(@dss_consG _ _ _ _ _ _ (ds_mid (ds_if (pdt_cmp (op_eqD (units_of hr)) ok_eq (pd_var (pv 4)) pd_int (nomark _))
      (dss_one (ds_ret (pd_var (pv 3))))
      dss_nil)) (@dss_consG _ _ _ _ _ _ (ds_own (ps_set (i:=5) sc_base_by.nd rfl (Or.inl rfl) (pf_rep (pd_f (pf_lst (dv_cons pd_non dv_nil se_Constant))) (pd_lenv (pe_callB call_len_seq rfl T.n_len bt_len (pa_cons (pv 3) pa_nil se_Name) (he:=se_Name) (hpl:=np_nil)))))) (@dss_consG _ _ _ _ _ _ (@ds_mid _ _ _ _ (@ds_for _ _ _ _ _ _ (@ps_for _ _ _ _ _ _ _ _ PassesOwn.never rfl (di_list (pd_call (pe_call G_numbers_in (hr.mono (by decide)) rfl T.f_numbers_in.m T.f_numbers_in.F.kp b_numbers_in .nil pass0 (da_v (pd_var (pv 1)) (da_v (pd_var (pv 4)) da_nil se_Name) se_Name) (he:=se_Name) (hpl:=(np_cons se_Name np_nil))))) (dg_name (pg_name (i:=6) sc_base_by.nd rfl (Or.inl rfl))) (@dss_consG _ _ _ _ _ _ (@ds_set _ _ _ _ _ (@ps_set _ _ 7 _ _ _ _ sc_base_by.nd rfl (Or.inl rfl) (pd_call (pe_call G_level_by_spring (hr.mono (by decide)) rfl T.f_level_by_spring.m T.f_level_by_spring.F.kp b_level_by_spring .nil pass0 (da_v (pd_var (pv 0)) (da_v (pd_var (pv 1)) (da_s (pv 2) (da_v (pd_var (pv 4)) (da_v (pd_var (pv 6)) da_nil se_Name) se_Name) se_Name) se_Name) se_Name) (he:=se_Name) (hpl:=(np_cons se_Name (np_cons se_Name (np_cons se_Name (np_cons se_Name np_nil))))))) (by rfl) (by first | exact .inl rfl | exact .inr rfl | assumption))) (@dss_one _ _ _ _ (@ds_if _ _ _ _ _ _ _ _ _ (pdt_val (pd_call (pe_call G_is_more (hr.mono (by decide)) rfl T.f_is_more.m T.f_is_more.F.kp b_is_more .nil pass0 (da_v (pd_var (pv 7)) (da_v (pd_ixv (pv 5) (pd_ix (pd_ixv (pv 1) (pd_var (pv 6)) (fun _ _=>rfl)) (pd_gi (pe_glob (v:=V.int 0) rfl T.mg_PLACE_springs ⟨_,rfl⟩)) (fun _ _=>rfl)) (fun _ _=>rfl)) da_nil se_Subscript) se_Name) (he:=se_Name) (hpl:=(np_cons se_Subscript np_nil))))) (dss_one (ds_setI (ps_asg (pd_var (pv 7)) (pg_sub (pv 5) (pd_ix (pd_ixv (pv 1) (pd_var (pv 6)) (fun _ _=>rfl)) (pd_gi (pe_glob (v:=V.int 0) rfl T.mg_PLACE_springs ⟨_,rfl⟩)) (fun _ _=>rfl)) set_list)))) dss_nil))) (by intro _;rfl)))) (dss_one (ds_ret (pd_var (pv 5))))))),fun ds Q hl h=>?_⟩)
  obtain⟨m,st,sp,ts,b,s,rfl,ok,s0,hb,m2,hs,hl2,hT,q⟩:=h
  have few:=ok.few
  have bl:=hb.len
  (try unfold dSeqG);(try unfold dMid)
  refine⟨fun ρ'=>0 < s∧ρ'=[Sl.sh (.int st),Sl.sh (.list (sp.map sprD)),Sl.bo (tbsL ts),Sl.sh (.list (tabL b)),Sl.sh (.int (s:Nat)),.no,.no,.no],?_,?_⟩
  · decreasing_tactic
    refine⟨rfl,rfl,min0 _ _,?_⟩
    rw[eqv_int]
    by_cases c:s=0
    · subst c
      refine iteT ?_
      exact q b (.inl ⟨rfl,rfl⟩)
    · rw[show (((s:Nat):Int) == 0)=false from beq_eq_false_iff_ne.mpr (by omega)]
      exact iteF ⟨by omega,rfl⟩
  rintro ρ ⟨hs0,rfl⟩
  try dsimp only
  refine go ?_;decreasing_tactic
  refine⟨by decide,⟨by rw[len_tab];omega,by rw[len_tab];omega,by decide⟩,?_⟩
  rw[len_tab,bl,Int.toNat_natCast,rep_tab]
  refine go ?_
  (try unfold dSeqG);(try unfold dMid)
  refine⟨fun ρ'=>∃(c:Tb) (z6 z7:Sl),Bas m st sp ts s (numsF sp.length s) c∧ρ'=[Sl.sh (.int st),Sl.sh (.list (sp.map sprD)),Sl.bo (tbsL ts),Sl.sh (.list (tabL b)),Sl.sh (.int (s:Nat)),Sl.ow (tabL c),z6,z7],?_,?_⟩
  · array_get_dec
    refine⟨sp,s,rfl,few,hs,?_⟩
    array_get_dec
    refine⟨fun r ρ=>∃(ks R:List Nat) (c:Tb) (z6 z7:Sl),r=numL R∧ks++R=numsF sp.length s∧Bas m st sp ts s ks c∧ρ=[Sl.sh (.int st),Sl.sh (.list (sp.map sprD)),Sl.bo (tbsL ts),Sl.sh (.list (tabL b)),Sl.sh (.int (s:Nat)),Sl.ow (tabL c),z6,z7],⟨[],_,_,_,_,rfl,rfl,Bas.nil,rfl⟩,?_,?_⟩
    · rintro x r ρ ⟨ks,R,c,z6,z7,h1,h2,B,rfl⟩
      cases R with
      | nil=>cases h1
      | cons k R=>
        cases (show x::r=PyData.int ((k:Nat):Int)::numL R from h1)
        have hk:=nums_in (n:=sp.length) (s:=s) (k:=k) (by rw[←h2];exact List.mem_append_right _ List.mem_cons_self)
        obtain⟨p,hp⟩:=at_ex hk.1
        have hpm:=ok.pl p (List.mem_of_getElem? hp)
        have hle:=sIn_le hk.2
        have hpp:=pw_pos k
        have cl:=B.tab.len
        have h3:(ks++[k])++R=numsF sp.length s:=by rw[List.append_assoc];exact h2
        sizeOf_list_dec
        refine⟨rfl,m,st,sp,ts,s,k,p,rfl,by omega,hp,hle,by omega,hpm,hT,?_⟩
        refine go ?_;decreasing_tactic
        rw[spr_ix hp]
        unfold sprD
        decreasing_tactic
        rw[tab_at (by rw[cl];exact hpm)]
        decreasing_tactic
        refine⟨_,_,rfl,?_⟩
        cases e:moreF (lvG st ts (s - 2 ^ k) p) (gt c p.1) with
        | false=>
          decreasing_tactic
          exact⟨ks++[k],R,c,_,_,rfl,h3,B.keep hp e,rfl⟩
        | true=>
          decreasing_tactic
          rw[ixN_nat (by rw[len_tab,cl];exact hpm)]
          decreasing_tactic
          rw[set_tab]
          exact⟨ks++[k],R,_,_,_,rfl,h3,B.put s0 hp hpm e,rfl⟩
    · rintro ρ ⟨ks,R,c,z6,z7,h1,h2,B,rfl⟩
      cases R with
      | cons k R=>cases h1
      | nil=>
        rw[List.append_nil] at h2
        rw[h2] at B
        exact⟨c,z6,z7,B,rfl⟩
  rintro ρ ⟨c,z6,z7,B,rfl⟩
  try dsimp only
  refine go ?_;decreasing_tactic
  exact q c (.inr ⟨hs0,B⟩)
theorem ok_highest_by (T:Txt K mg):FnOk P w K mg base CX0 9 T.f_highest_by.a T.f_highest_by.d ["land", "store", "springs", "base"] (spD [.sh,.sh,.sh,.sh] spHighBy):=by
  have G_alone:=@ok_alone P w K mg base T
  have b_alone:=T.f_alone.b
  have G_base_by:=@ok_base_by P w K mg base T
  have b_base_by:=T.f_base_by.b
  have G_highest:=@ok_highest P w K mg base T
  have b_highest:=T.f_highest.b
  refine fn_d T.f_highest_by.F sc_highest_by rfl (fun C cdv A outer s H E hr=>⟨_,(@dss_consG _ _ _ _ _ _ (ds_own (ps_set (i:=4) sc_highest_by.nd rfl (Or.inl rfl) (pf_lst dv_nil))) (@dss_consG _ _ _ _ _ _ (@ds_for _ _ _ _ _ _ (@ps_for _ _ _ _ _ _ _ _ PassesOwn.never rfl (di_rng1 (pi_range1 rfl T.n_range (dv_cons (pd_call (pe_call G_alone (hr.mono (by decide)) rfl T.f_alone.m T.f_alone.F.kp b_alone .nil pass0 (da_v (pd_lenv (pe_callB call_len_seq rfl T.n_len bt_len (pa_cons (pv 2) pa_nil se_Name) (he:=se_Name) (hpl:=np_nil))) da_nil se_Call) (he:=se_Call) (hpl:=np_nil))) dv_nil se_Call))) (dg_name (pg_name (i:=5) sc_highest_by.nd rfl (Or.inl rfl))) (@dss_one _ _ _ _ (@ds_app _ _ _ _ _ _ (@ps_expr _ _ _ _ (@pe_bm _ _ _ _ _ _ _ _ _ _ _ _ PySem.F.plainAttrs_list PySem.F.slot_list_append PySem.F.type_list_append mt_append (pv 4) (@pa_cons _ _ _ _ _ (@pd_call _ _ _ _ _ _ _ (@pe_call _ _ _ _ _ _ _ _ _ _ _ _ _ _ _ _ G_highest (hr.mono (by decide)) rfl T.f_highest.m T.f_highest.F.kp b_highest .nil pass0 (@da_v _ _ _ _ _ _ (pd_var (pv 0)) (@da_v _ _ _ _ _ _ (pd_var (pv 1)) (da_v (pd_call (pe_call G_base_by (hr.mono (by decide)) rfl T.f_base_by.m T.f_base_by.F.kp b_base_by .nil pass0 (da_v (pd_var (pv 1)) (da_v (pd_var (pv 2)) (da_s (pv 4) (da_v (pd_var (pv 3)) (da_v (pd_var (pv 5)) da_nil se_Name) se_Name) se_Name) se_Name) se_Name) (he:=se_Name) (hpl:=(np_cons se_Name (np_cons se_Name (np_cons se_Name (np_cons se_Name np_nil))))))) da_nil se_Call) se_Name) se_Name) (by decide) se_Name ((np_cons se_Name (np_cons se_Call np_nil))))) pa_nil se_Call) (by rfl) (by rfl) (by rfl) (by rfl) (by rfl)) (by rfl)))) (by intro _;rfl))) (dss_one (ds_ret (pd_var (pv 4)))))),fun ds Q hl h=>?_⟩)
  obtain⟨m,ws,st,sp,b,rfl,ok,s0,s1,so,hb,q⟩:=h
  have m2:=ok.m2
  have few:=so.few
  have p16:=pw4 sp.length (by omega)
  have pp:=pw_pos sp.length
  decreasing_tactic
  refine⟨by decide,?_⟩
  refine go ?_;array_mem_dec
  rw[List.length_map]
  refine⟨sp.length,rfl,by omega,?_⟩
  array_get_dec
  refine⟨⟨by omega,by omega⟩,?_⟩
  rw[Int.toNat_natCast]
  refine⟨fun r ρ=>∃(ts:List Tb) (z5:Sl),r=(rngD 0 (2 ^ sp.length)).drop ts.length∧ρ=[Sl.sh (landD m ws),Sl.sh (.int st),Sl.sh (.list (sp.map sprD)),Sl.sh (.list (tabL b)),Sl.ow (tbsL ts),z5]∧SprP m ws st sp b ts∧ts.length≤2 ^ sp.length,⟨[],_,rfl,rfl,fun s hs=>absurd hs (Nat.not_lt_zero _),Nat.zero_le _⟩,?_,?_⟩
  · rintro x r ρ ⟨ts,z5,h1,rfl,hP,hle⟩
    obtain⟨rfl,rfl,hk⟩:=rng_cons h1
    have hT:∀t∈ts,TabOk m st t:=fun t ht=>by
      obtain⟨s,hs,rfl⟩:=tbs_mem ht
      obtain⟨c,_,L⟩:=hP s hs
      exact L.tab
    sizeOf_list_dec
    refine⟨rfl,m,st,sp,ts,b,ts.length,rfl,so,s0,hb,by omega,hk,Nat.le_refl _,hT,fun c B=>?_⟩
    decreasing_tactic
    refine⟨m,ws,st,c,rfl,ok,s0,s1,B.tab hb,fun t L=>?_⟩
    decreasing_tactic
    refine⟨by rw[tbs_len];omega,ts++[t],Sl.sh (.int (ts.length:Nat)),?_,?_,hP.snoc B L,?_⟩
    · rw[List.length_append,List.length_singleton]
    · unfold tbsL;rw[List.map_append];rfl
    · rw[List.length_append,List.length_singleton];omega
  · rintro ρ ⟨ts,z5,h1,rfl,hP,hle⟩
    have:=rng_nil h1
    refine go ?_;decreasing_tactic
    exact q ts ⟨by omega,hP⟩
end
def spSprings:DSp:=fun ds Q=>∃(d:PyData) (m:Nat) (st:Int) (mo:Nat),ds=[d,.int (m:Nat),.int st,.int (mo:Nat)]∧1≤m∧m≤12∧0≤st∧st≤100000000000000000000∧mo≤4∧∀sp,SprOk m sp→Q (.list (sp.map sprD))
section
variable {P:Program} {w:World} {K:PySem.W.Frag} {mg:Str→Option Value} {base:Heap}
theorem ok_springs (T:Txt K mg):FnOk P w K mg base CX0 4 T.f_springs.a T.f_springs.d ["_law_hand_here", "_law_many", "_law_store", "_law_most"] (spD [.hd,.sh,.sh,.sh] spSprings):=by
  have G_draw:=@ok_drawD P w K mg base T
  have b_draw:=T.f_draw.b
  refine fn_d T.f_springs.F sc_springs rfl (fun C cdv A outer s H E hr=>⟨_,(@dss_consG _ _ _ _ _ _ (ds_own (ps_set (i:=4) sc_springs.nd rfl (Or.inl rfl) (pf_lst dv_nil))) (@dss_consG _ _ _ _ _ _ (@ds_for _ _ _ _ _ _ (@ps_for _ _ _ _ _ _ _ _ PassesOwn.never rfl (di_rng1 (pi_range1 rfl T.n_range (dv_cons (pd_call (pe_call G_draw (hr.mono (by decide)) rfl T.f_draw.m T.f_draw.F.kp b_draw .nil pass0 (da_s (pv 0) (da_v (pd_op op_add ok_add (pd_var (pv 3)) pd_int) da_nil se_BinOp) se_Name) (he:=se_Name) (hpl:=(np_cons se_BinOp np_nil)))) dv_nil se_Call))) (dg_name (pg_name (i:=5) sc_springs.nd rfl (Or.inl rfl))) (@dss_consG _ _ _ _ _ _ (@ds_set _ _ _ _ _ (@ps_set _ _ 6 _ _ _ _ sc_springs.nd rfl (Or.inl rfl) (@pd_op _ _ _ _ _ _ _ _ _ _ op_add ok_add pd_int (@pd_call _ _ _ _ _ _ _ (@pe_call _ _ _ _ _ _ _ _ _ _ _ _ _ _ _ _ G_draw (hr.mono (by decide)) rfl T.f_draw.m T.f_draw.F.kp b_draw .nil pass0 (@da_s _ _ _ _ _ _ (pv 0) (@da_v _ _ _ _ _ _ (pd_ix (pd_f (pf_lst (dv_cons pd_int (dv_cons (pd_op op_add ok_add (pd_var (pv 2)) pd_int) (dv_cons (pd_op op_pow ok_pow pd_int pd_int) dv_nil se_BinOp) se_BinOp) se_Constant))) (pd_call (pe_call G_draw (hr.mono (by decide)) rfl T.f_draw.m T.f_draw.F.kp b_draw .nil pass0 (da_s (pv 0) (da_v pd_int da_nil se_Constant) se_Name) (he:=se_Name) (hpl:=(np_cons se_Constant np_nil)))) (fun _ _=>rfl)) da_nil se_Subscript) se_Name) (by decide) se_Name ((np_cons se_Subscript np_nil))))) (by rfl) (by first | exact .inl rfl | exact .inr rfl | assumption))) (@dss_one _ _ _ _ (@ds_app _ _ _ _ _ _ (@ps_expr _ _ _ _ (@pe_bm _ _ _ _ _ _ _ _ _ _ _ _ PySem.F.plainAttrs_list PySem.F.slot_list_append PySem.F.type_list_append mt_append (pv 4) (@pa_cons _ _ _ _ _ (@pd_tup _ _ _ _ _ _ (@dv_cons _ _ _ _ _ _ (pd_call (pe_call G_draw (hr.mono (by decide)) rfl T.f_draw.m T.f_draw.F.kp b_draw .nil pass0 (da_s (pv 0) (da_v (pd_var (pv 1)) da_nil se_Name) se_Name) (he:=se_Name) (hpl:=(np_cons se_Name np_nil)))) (dv_cons (pd_cb cb_min (pe_callB (call_min2 rfl) rfl T.n_min bt_min (dv_cons (pd_op op_pow ok_pow pd_int pd_int) (dv_cons (pd_var (pv 6)) dv_nil se_Name) se_BinOp) (he:=se_BinOp) (hpl:=(np_cons se_Name np_nil)))) dv_nil se_Call) se_Call)) pa_nil se_Tuple) (by rfl) (by rfl) (by rfl) (by rfl) (by rfl)) (by rfl))))) (by intro _;rfl))) (dss_one (ds_ret (pd_var (pv 4)))))),fun ds Q hl h=>?_⟩)
  obtain⟨d,m,st,mo,rfl,m1,m2,s0,s1,h4,q⟩:=h
  decreasing_tactic
  refine⟨by decide,?_⟩
  refine go ?_;array_mem_dec
  refine⟨rfl,_,rfl,by omega,by omega,fun c c0 c1=>?_⟩
  array_mem_dec
  refine⟨⟨by omega,by omega⟩,fun r ρ=>∃(sp:List Sp2) (z5 z6:Sl),ρ=[Sl.hd,Sl.sh (.int (m:Nat)),Sl.sh (.int st),Sl.sh (.int (mo:Nat)),Sl.ow (sp.map sprD),z5,z6]∧r.length + sp.length≤4∧∀p∈sp,p.1 < m∧0≤p.2,⟨[],_,_,rfl,by unfold rngD;simp;omega,fun w hw=>nomatch hw⟩,?_,?_⟩
  · rintro x r ρ ⟨sp,z5,z6,rfl,hl2,hw⟩
    sizeOf_list_dec
    refine⟨rfl,⟨by decide,by decide,by decide⟩,by show 3≤1000;decide,rfl,_,rfl,by decide,by decide,fun u u0 u1=>?_⟩
    decreasing_tactic
    obtain⟨g,hg,hg0,hg1⟩:∃g:Int,atI [PyData.int 3,.int (st + 1),.int 1000000000000000000] u=some (.int g)∧0 < g∧g≤100000000000000000001:=by
      have hu:u=0∨u=1∨u=2:=by omega
      rcases hu with rfl | rfl | rfl
      · exact⟨3,rfl,by decide,by decide⟩
      · exact⟨st + 1,rfl,by omega,by omega⟩
      · exact⟨1000000000000000000,rfl,by decide,by decide⟩
    rw[show ((10:Int) ^ (18:Int).toNat)=1000000000000000000 from rfl,hg]
    decreasing_tactic
    refine⟨g,rfl,hg0,by omega,fun v v0 v1=>?_⟩
    refine go ?_;decreasing_tactic
    refine⟨rfl,_,rfl,by omega,by omega,fun a a0 a1=>?_⟩
    decreasing_tactic
    obtain⟨a',rfl,ha⟩:=toNat_lt a0 a1
    refine⟨⟨by decide,by decide,by decide⟩,by decide,by rw[List.length_map];simp at hl2;omega,sp++[(a',if 1 + v < 10 ^ Int.toNat 18 then 1 + v else 10 ^ Int.toNat 18)],_,_,by rw[List.map_append];rfl,by simp at hl2 ⊢;omega,fun p hp=>?_⟩
    rcases List.mem_append.mp hp with z | z
    · exact hw p z
    · have z:=List.mem_singleton.mp z
      subst z
      refine⟨ha,?_⟩
      show (0:Int)≤if 1 + v < 10 ^ Int.toNat 18 then 1 + v else 10 ^ Int.toNat 18
      split
      · omega
      · decide
  · rintro ρ ⟨sp,z5,z6,rfl,hl2,hw⟩
    refine go ?_;decreasing_tactic
    exact q sp ⟨by simp at hl2;omega,fun p h=>(hw p h).1,fun p h=>(hw p h).2⟩
end
inductive RcT (ws:List Wy) (S:Int) (t0:Tb):Nat→Int→Prop
  | base {p:Nat} {x:Int}:gt t0 p=some x→RcT ws S t0 p x
  | step {p q:Nat} {x c y:Int}:RcT ws S t0 p x→(p,q,c)∈ws→stepF S x c=some y→RcT ws S t0 q y
theorem stepF_some {S x c y:Int} (h:stepF S x c=some y):0≤x + c∧y=if S < x + c then S else x + c:=by
  unfold stepF at h
  split at h
  · cases h
  · cases h;exact⟨by omega,rfl⟩
theorem RcT.bd {m:Nat} {ws:List Wy} {S:Int} {t0:Tb} {p:Nat} {x:Int} (ok:LandOk m ws) (h0:0≤S) (tb:TabOk m S t0) (h:RcT ws S t0 p x):p < m∧0≤x∧x≤S:=by
  cases h with
  | base e=>
    refine⟨?_,tb.bd _ _ e⟩
    rcases Nat.lt_or_ge p t0.length with z | z
    · rw[←tb.len];exact z
    · rw[gt_out z] at e;cases e
  | step _ hw e=>
    obtain⟨e1,e2⟩:=stepF_some e
    refine⟨ok.en _ hw,?_⟩
    split at e2 <;> omega
theorem int_max {P:Int→Prop} {S:Int} (hb:∀x,P x→x≤S):∀(n:Nat) (x:Int),P x→(S - x).toNat≤n→∃y,P y∧∀z,P z→z≤y
  | 0,x,h,hn=>⟨x,h,fun z hz=>by have:=hb z hz;have:=hb x h;omega⟩
  | n + 1,x,h,hn=>by
    by_cases c:∃z,P z∧x < z
    · obtain⟨z,hz,hx⟩:=c
      have:=hb z hz
      exact int_max hb n z hz (by omega)
    · exact⟨x,h,fun z hz=>by
        rcases Int.lt_or_le x z with q | q
        · exact absurd ⟨z,hz,q⟩ c
        · exact q⟩
theorem rct_max {m:Nat} {ws:List Wy} {S:Int} {t0:Tb} {p:Nat} (ok:LandOk m ws) (h0:0≤S) (tb:TabOk m S t0) (h:∃x,RcT ws S t0 p x):∃x,RcT ws S t0 p x∧∀z,RcT ws S t0 p z→z≤x:=by
  obtain⟨x,hx⟩:=h
  exact int_max (fun z hz=>(hz.bd ok h0 tb).2.2) _ x hx (Nat.le_refl _)
def MxR (ws:List Wy) (S:Int) (t0:Tb) (m:Nat) (u:Tb):Prop:=u.length=m∧∀p,p < m→(gt u p=none∧¬ ∃x,RcT ws S t0 p x)∨∃x,gt u p=some x∧RcT ws S t0 p x∧∀z,RcT ws S t0 p z→z≤x
theorem MxR.least {m:Nat} {ws:List Wy} {S:Int} {t0 u:Tb} (ok:LandOk m ws) (h0:0≤S) (tb:TabOk m S t0) (h:MxR ws S t0 m u):Least m ws S t0 u:=by
  have at1:∀p x,gt u p=some x→p < m∧RcT ws S t0 p x:=fun p x e=>by
    have hp:p < m:=by
      rcases Nat.lt_or_ge p u.length with z | z
      · rw[←h.1];exact z
      · rw[gt_out z] at e;cases e
    rcases h.2 p hp with ⟨z,_⟩ | ⟨y,ey,hy,_⟩
    · rw[z] at e;cases e
    · rw[ey] at e;cases e;exact⟨hp,hy⟩
  have top:∀p x,RcT ws S t0 p x→leO (some x) (gt u p):=fun p x hx=>by
    rcases h.2 p (hx.bd ok h0 tb).1 with ⟨_,z⟩ | ⟨y,ey,_,hy⟩
    · exact absurd ⟨x,hx⟩ z
    · rw[ey];exact leO_some.mpr (hy x hx)
  refine⟨⟨h.1,fun p x e=>((at1 p x e).2.bd ok h0 tb).2⟩,fun p=>?_,fun w hw=>?_,fun L hL h1 h2 p=>?_⟩
  · cases e:gt t0 p with
    | none=>exact leO_none
    | some x=>exact top p x (.base e)
  · unfold behF
    cases e:gt u w.1 with
    | none=>exact leO_none
    | some x=>
      show leO (stepF S x w.2.2) _
      cases q:stepF S x w.2.2 with
      | none=>exact leO_none
      | some y=>exact top _ y (.step (at1 _ x e).2 (show (w.1,w.2.1,w.2.2)∈ws from hw) q)
  · cases e:gt u p with
    | none=>exact leO_none
    | some x=>
      have hx:=(at1 p x e).2
      clear e
      induction hx with
      | base e=>rw[←e];exact h1 _
      | @step p q x c y _ hw e ih=>
        have cl:=h2 _ hw
        unfold behF at cl
        cases g:gt L p with
        | none=>rw[g] at ih;exact absurd ih leO_sn
        | some z=>
          rw[g] at ih
          have hz:x≤z:=leO_some.mp ih
          have cl:leO (match gt L p with | none=>none | some l=>stepF S l c) (gt L q):=cl
          rw[g] at cl
          have cl:leO (stepF S z c) (gt L q):=cl
          obtain⟨e1,e2⟩:=stepF_some e
          refine leO_trans ?_ cl
          unfold stepF
          rw[if_neg (by omega)]
          refine leO_some.mpr ?_
          rw[e2]
          split <;> split <;> omega
open Classical in
theorem mxr_ex {m:Nat} {ws:List Wy} {S:Int} {t0:Tb} (ok:LandOk m ws) (h0:0≤S) (tb:TabOk m S t0):∃u,MxR ws S t0 m u:=by
  let f:Nat→Option Int:=fun p=>if h:∃x,RcT ws S t0 p x∧∀z,RcT ws S t0 p z→z≤x then some h.choose else none
  refine⟨(List.range m).map f,by rw[List.length_map,List.length_range],fun p hp=>?_⟩
  have e:gt ((List.range m).map f) p=f p:=by unfold gt;rw[List.getElem?_map,List.getElem?_range hp];rfl
  rw[e]
  by_cases h:∃x,RcT ws S t0 p x∧∀z,RcT ws S t0 p z→z≤x
  · exact .inr ⟨h.choose,dif_pos h,h.choose_spec.1,h.choose_spec.2⟩
  · exact .inl ⟨dif_neg h,fun z=>h (rct_max ok h0 tb z)⟩
theorem least_mxr {m:Nat} {ws:List Wy} {S:Int} {t0 t:Tb} (ok:LandOk m ws) (h0:0≤S) (tb:TabOk m S t0) (h:Least m ws S t0 t):MxR ws S t0 m t:=by
  obtain⟨u,hu⟩:=mxr_ex ok h0 tb
  rw[h.uniq (hu.least ok h0 tb)];exact hu
theorem nodup_len {α:Type} [BEq α] [LawfulBEq α]:∀{xs ys:List α},xs.Nodup→(∀x∈xs,x∈ys)→xs.length≤ys.length
  | [],_,_,_=>Nat.zero_le _
  | x::xs,ys,nd,h=>by
    have nd':=List.nodup_cons.mp nd
    have hx:=h x List.mem_cons_self
    have ih:=nodup_len (xs:=xs) (ys:=ys.erase x) nd'.2 fun z hz=>(List.mem_erase_of_ne (show z≠x from fun e=>nd'.1 (e▸hz))).mpr (h z (List.mem_cons_of_mem _ hz))
    rw[List.length_erase_of_mem hx] at ih
    have:0 < ys.length:=List.length_pos_of_mem hx
    rw[List.length_cons]
    omega
def allS (m:Nat) (S:Int):List Sp2:=(List.range m).flatMap fun p=>(List.range (S.toNat + 1)).map fun (l:Nat)=>(p,(l:Int))
theorem allS_len (m:Nat) (S:Int):(allS m S).length=m * (S.toNat + 1):=by
  unfold allS
  induction m with
  | zero=>simp
  | succ m ih=>
    rw[List.range_succ (n:=m),List.flatMap_append,List.length_append,ih,Nat.add_mul]
    simp
theorem mem_allS {m:Nat} {S:Int} {s:Sp2} (h1:s.1 < m) (h2:0≤s.2) (h3:s.2≤S):s∈allS m S:=by
  unfold allS
  refine List.mem_flatMap.mpr ⟨s.1,List.mem_range.mpr h1,List.mem_map.mpr ⟨s.2.toNat,List.mem_range.mpr (by omega),?_⟩⟩
  rw[Int.toNat_of_nonneg h2]
structure WkI (m:Nat) (ws:List Wy) (S:Int) (t0:Tb) (fd td:List Sp2):Prop where
  nd:fd.Nodup
  rc:∀s∈fd,RcT ws S t0 s.1 s.2
  bs:∀p x,gt t0 p=some x→(p,x)∈fd
  sub:∀s∈td,s∈fd
  cl:∀s∈fd,s∈td∨∀q c y,(s.1,q,c)∈ws→stepF S s.2 c=some y→(q,y)∈fd
structure WkJ (m:Nat) (ws:List Wy) (S:Int) (t0:Tb) (s:Sp2) (dn:List Wy) (fd td:List Sp2):Prop where
  nd:fd.Nodup
  rc:∀s∈fd,RcT ws S t0 s.1 s.2
  bs:∀p x,gt t0 p=some x→(p,x)∈fd
  sub:∀s∈td,s∈fd
  me:s∈fd
  cl:∀s'∈fd,s'≠s→s'∈td∨∀q c y,(s'.1,q,c)∈ws→stepF S s'.2 c=some y→(q,y)∈fd
  cs:∀q c y,(s.1,q,c)∈dn→stepF S s.2 c=some y→(q,y)∈fd
def bsK (t0:Tb) (k:Nat):List Sp2:=(List.range k).filterMap fun p=>(gt t0 p).map fun x=>(p,x)
theorem mem_bsK {t0:Tb} {k:Nat} {s:Sp2}:s∈bsK t0 k↔s.1 < k∧gt t0 s.1=some s.2:=by
  unfold bsK
  rw[List.mem_filterMap]
  constructor
  · rintro ⟨p,hp,e⟩
    obtain⟨x,hx,rfl⟩:=Option.map_eq_some_iff.mp e
    exact⟨List.mem_range.mp hp,hx⟩
  · rintro ⟨h1,h2⟩
    exact⟨s.1,List.mem_range.mpr h1,by rw[h2];rfl⟩
theorem bsK_len (t0:Tb) (k:Nat):(bsK t0 k).length≤k:=by
  unfold bsK
  exact Nat.le_trans (List.length_filterMap_le _ _) (by rw[List.length_range];exact Nat.le_refl _)
theorem last_at {α:Type} (xs:List α) (x:α):(xs++[x])[(xs++[x]).length - 1]?=some x:=by simp
theorem last_or {α:Type} (xs:List α):xs=[]∨∃ys y,xs=ys++[y]:=by
  cases xs with
  | nil=>exact .inl rfl
  | cons x xs=>exact .inr ⟨(x::xs).dropLast,(x::xs).getLast (by simp),(List.dropLast_concat_getLast (by simp)).symm⟩
abbrev Sp3:=Nat×Int×Nat
def s3D (s:Sp3):PyData:=.tuple [.int (s.1:Nat),.int s.2.1,.int (s.2.2:Nat)]
def k3 (s:Sp3):List Int:=[((s.1:Nat):Int),s.2.1,((s.2.2:Nat):Int)]
theorem k3_inj {s r:Sp3} (h:k3 s=k3 r):s=r:=by
  unfold k3 at h
  injection h with h1 h2
  injection h2 with h2 h3
  injection h3 with h3 _
  exact Prod.ext (by omega) (Prod.ext h2 (by omega))
theorem mem_k3 {s:Sp3} {fd:List Sp3}:k3 s∈fd.map k3↔s∈fd:=⟨fun h=>by
  obtain⟨r,hr,e⟩:=List.mem_map.mp h
  rw[←k3_inj e];exact hr,fun h=>List.mem_map.mpr ⟨s,h,rfl⟩⟩
theorem has_k3 (s:Sp3) (fd:List Sp3):(fd.map k3).contains (k3 s)=decide (s∈fd):=by
  by_cases h:s∈fd
  · rw[decide_eq_true h];exact List.contains_iff_mem.mpr (mem_k3.mpr h)
  · rw[decide_eq_false h]
    cases q:(fd.map k3).contains (k3 s) with
    | false=>rfl
    | true=>exact absurd (mem_k3.mp (List.contains_iff_mem.mp q)) h
theorem put_k3 {s:Sp3} {fd:List Sp3} (h:s∉fd):putL (fd.map k3) (k3 s)=(fd++[s]).map k3:=by
  unfold putL
  rw[has_k3,decide_eq_false h,if_neg Bool.false_ne_true,List.map_append];rfl
def oneW (S:Int) (s:Sp3) (w:Wy):List Sp3:=if w.1=s.1 then ((stepF S s.2.1 w.2.2).map fun y=>(w.2.1,y,s.2.2)).toList else []
def oneS (S:Int) (sp:List Sp2) (s:Sp3) (k:Nat):List Sp3:=match sp[k]? with
  | some q=>if q.1=s.1∧sIn s.2.2 k=false then [(s.1,(if S < s.2.1 + q.2 then S else s.2.1 + q.2),s.2.2 + 2 ^ k)] else []
  | none=>[]
def sucW (S:Int) (s:Sp3) (ws:List Wy):List Sp3:=ws.flatMap (oneW S s)
def sucS (S:Int) (sp:List Sp2) (s:Sp3) (n:Nat):List Sp3:=(List.range n).flatMap (oneS S sp s)
theorem oneW_len (S:Int) (s:Sp3) (w:Wy):(oneW S s w).length≤1:=by
  unfold oneW
  split
  · cases stepF S s.2.1 w.2.2 <;> simp
  · exact Nat.zero_le _
theorem oneS_len (S:Int) (sp:List Sp2) (s:Sp3) (k:Nat):(oneS S sp s k).length≤1:=by
  unfold oneS
  split
  · split
    · exact Nat.le_refl _
    · exact Nat.zero_le _
  · exact Nat.zero_le _
theorem flat_len {α β:Type} {f:α→List β} (h:∀a,(f a).length≤1):∀xs:List α,(xs.flatMap f).length≤xs.length
  | []=>Nat.zero_le _
  | x::xs=>by
    rw[List.flatMap_cons,List.length_append,List.length_cons]
    have:=h x
    have:=flat_len h xs
    omega
inductive RcS (ws:List Wy) (S:Int) (sp:List Sp2) (t0:Tb):Sp3→Prop
  | base {p:Nat} {x:Int}:gt t0 p=some x→RcS ws S sp t0 (p,x,0)
  | nx {s r:Sp3}:RcS ws S sp t0 s→r∈sucW S s ws++sucS S sp s sp.length→RcS ws S sp t0 r
theorem mem_sucW {S:Int} {s r:Sp3} {ws:List Wy}:r∈sucW S s ws↔∃w∈ws,w.1=s.1∧∃y,stepF S s.2.1 w.2.2=some y∧r=(w.2.1,y,s.2.2):=by
  unfold sucW
  rw[List.mem_flatMap]
  constructor
  · rintro ⟨w,hw,h⟩
    unfold oneW at h
    split at h
    · rename_i e
      cases q:stepF S s.2.1 w.2.2 with
      | none=>rw[q] at h;cases h
      | some y=>
        rw[q] at h
        exact⟨w,hw,e,y,q,by simpa using h⟩
    · cases h
  · rintro ⟨w,hw,e,y,q,rfl⟩
    refine⟨w,hw,?_⟩
    unfold oneW
    rw[if_pos e,q]
    simp
theorem mem_sucS {S:Int} {sp:List Sp2} {s r:Sp3} {n:Nat} (hn:n≤sp.length):r∈sucS S sp s n↔∃k,k < n∧∃q,sp[k]?=some q∧q.1=s.1∧sIn s.2.2 k=false∧r=(s.1,(if S < s.2.1 + q.2 then S else s.2.1 + q.2),s.2.2 + 2 ^ k):=by
  unfold sucS
  rw[List.mem_flatMap]
  constructor
  · rintro ⟨k,hk,h⟩
    unfold oneS at h
    split at h
    · rename_i q hq
      split at h
      · rename_i e
        exact⟨k,List.mem_range.mp hk,q,hq,e.1,e.2,by simpa using h⟩
      · cases h
    · cases h
  · rintro ⟨k,hk,q,hq,e1,e2,rfl⟩
    refine⟨k,List.mem_range.mpr hk,?_⟩
    unfold oneS
    rw[hq]
    dsimp only
    rw[if_pos ⟨e1,e2⟩]
    exact List.mem_cons_self
theorem RcS.bd {m:Nat} {ws:List Wy} {S:Int} {sp:List Sp2} {t0:Tb} {s:Sp3} (ok:LandOk m ws) (h0:0≤S) (tb:TabOk m S t0) (so:SprOk m sp) (h:RcS ws S sp t0 s):s.1 < m∧0≤s.2.1∧s.2.1≤S∧s.2.2 < 2 ^ sp.length:=by
  induction h with
  | @base p x e=>
    have:=(RcT.base (ws:=ws) e).bd ok h0 tb
    exact⟨this.1,this.2.1,this.2.2,pw_pos _⟩
  | @nx s r _ hr ih=>
    rcases List.mem_append.mp hr with z | z
    · obtain⟨w,hw,e,y,q,rfl⟩:=mem_sucW.mp z
      obtain⟨a,b⟩:=step_bd h0 q
      exact⟨ok.en w hw,a,b,ih.2.2.2⟩
    · obtain⟨k,hk,q,hq,e1,e2,rfl⟩:=(mem_sucS (Nat.le_refl _)).mp z
      have g:=so.gf q (List.mem_of_getElem? hq)
      have few:=so.few
      refine⟨ih.1,?_,?_,(bit_add sp.length (by omega) k hk s.2.2 ih.2.2.2 e2).2⟩
      · have:=ih.2.1
        show (0:Int)≤if S < s.2.1 + q.2 then S else s.2.1 + q.2
        split <;> omega
      · show (if S < s.2.1 + q.2 then S else s.2.1 + q.2)≤S
        split <;> omega
structure WkS (ws:List Wy) (S:Int) (sp:List Sp2) (t0:Tb) (fd td:List Sp3):Prop where
  nd:fd.Nodup
  rc:∀s∈fd,RcS ws S sp t0 s
  rt:∀s∈td,RcS ws S sp t0 s
  bs:∀p x,gt t0 p=some x→(p,x,0)∈fd∨(p,x,0)∈td
  cl:∀s∈fd,∀r∈sucW S s ws++sucS S sp s sp.length,r∈fd∨r∈td
theorem WkS.fin {ws:List Wy} {S:Int} {sp:List Sp2} {t0:Tb} {fd:List Sp3} (h:WkS ws S sp t0 fd []) {s:Sp3} (r:RcS ws S sp t0 s):s∈fd:=by
  induction r with
  | base e=>
    rcases h.bs _ _ e with z | z
    · exact z
    · cases z
  | nx _ hr ih=>
    rcases h.cl _ ih _ hr with z | z
    · exact z
    · cases z
theorem WkS.old {ws:List Wy} {S:Int} {sp:List Sp2} {t0:Tb} {fd td:List Sp3} {s:Sp3} (h:WkS ws S sp t0 fd (td++[s])) (hs:s∈fd):WkS ws S sp t0 fd td:=by
  have mv:∀r,r∈fd∨r∈td++[s]→r∈fd∨r∈td:=fun r hr=>by
    rcases hr with z | z
    · exact .inl z
    · rcases List.mem_append.mp z with z | z
      · exact .inr z
      · rw[List.mem_singleton.mp z];exact .inl hs
  exact⟨h.nd,h.rc,fun r hr=>h.rt r (List.mem_append_left _ hr),fun p x e=>mv _ (h.bs p x e),fun r hr u hu=>mv _ (h.cl r hr u hu)⟩
theorem WkS.new {ws:List Wy} {S:Int} {sp:List Sp2} {t0:Tb} {fd td:List Sp3} {s:Sp3} (h:WkS ws S sp t0 fd (td++[s])) (hs:s∉fd):WkS ws S sp t0 (fd++[s]) (td++sucW S s ws++sucS S sp s sp.length):=by
  have rs:RcS ws S sp t0 s:=h.rt s (List.mem_append_right _ List.mem_cons_self)
  have mv:∀r,r∈fd∨r∈td++[s]→r∈fd++[s]∨r∈td++sucW S s ws++sucS S sp s sp.length:=fun r hr=>by
    rcases hr with z | z
    · exact .inl (List.mem_append_left _ z)
    · rcases List.mem_append.mp z with z | z
      · exact .inr (List.mem_append_left _ (List.mem_append_left _ z))
      · exact .inl (List.mem_append_right _ z)
  refine⟨?_,fun r hr=>?_,fun r hr=>?_,fun p x e=>mv _ (h.bs p x e),fun r hr u hu=>?_⟩
  · refine List.nodup_append.mpr ⟨h.nd,List.nodup_cons.mpr ⟨(fun z=>nomatch z),List.nodup_nil⟩,fun a ha b hb=>?_⟩
    rw[List.mem_singleton.mp hb]
    exact fun z=>hs (z▸ha)
  · rcases List.mem_append.mp hr with z | z
    · exact h.rc r z
    · rw[List.mem_singleton.mp z];exact rs
  · rcases List.mem_append.mp hr with z | z
    · rcases List.mem_append.mp z with z | z
      · exact h.rt r (List.mem_append_left _ z)
      · exact .nx rs (List.mem_append_left _ z)
    · exact .nx rs (List.mem_append_right _ z)
  · rcases List.mem_append.mp hr with z | z
    · exact mv _ (h.cl r z u hu)
    · rw[List.mem_singleton.mp z] at hu
      rw[List.append_assoc]
      exact .inr (List.mem_append_right _ hu)
def all3 (m:Nat) (S:Int) (n:Nat):List Sp3:=(List.range n).flatMap fun s=>(allS m S).map fun q=>(q.1,q.2,s)
theorem all3_len (m:Nat) (S:Int) (n:Nat):(all3 m S n).length=n * (m * (S.toNat + 1)):=by
  unfold all3
  induction n with
  | zero=>simp
  | succ n ih=>
    rw[List.range_succ,List.flatMap_append,List.length_append,ih,Nat.succ_mul]
    simp [allS_len]
theorem WkS.few {m:Nat} {ws:List Wy} {S:Int} {sp:List Sp2} {t0:Tb} {fd:List Sp3} (ok:LandOk m ws) (h0:0≤S) (tb:TabOk m S t0) (so:SprOk m sp) (nd:fd.Nodup) (rc:∀s∈fd,RcS ws S sp t0 s):fd.length≤2 ^ sp.length * (m * (S.toNat + 1)):=by
  rw[←all3_len]
  refine nodup_len nd fun s hs=>?_
  obtain⟨a,b,c,d⟩:=(rc s hs).bd ok h0 tb so
  exact List.mem_flatMap.mpr ⟨s.2.2,List.mem_range.mpr d,List.mem_map.mpr ⟨(s.1,s.2.1),mem_allS a b c,rfl⟩⟩
def lvK (st:Int) (sp:List Sp2) (ts:List Tb) (s p:Nat) (k:Nat):Option Int:=match sp[k]? with
  | some q=>if q.1=p then lvG st ts (s - 2 ^ k) q else none
  | none=>none
def mxK (st:Int) (sp:List Sp2) (ts:List Tb) (s p:Nat):List Nat→Option Int
  | []=>none
  | k::ks=>match lvK st sp ts s p k,mxK st sp ts s p ks with
    | none,o=>o
    | some x,none=>some x
    | some x,some y=>if x < y then some y else some x
theorem mxK_up {st:Int} {sp:List Sp2} {ts:List Tb} {s p:Nat}:∀{ks:List Nat} {k:Nat},k∈ks→leO (lvK st sp ts s p k) (mxK st sp ts s p ks)
  | j::ks,k,h=>by
    unfold mxK
    rcases List.mem_cons.mp h with rfl | h
    · cases e:lvK st sp ts s p k with
      | none=>exact leO_none
      | some x=>
        cases mxK st sp ts s p ks with
        | none=>exact leO_refl _
        | some y=>
          dsimp only
          split
          · exact leO_some.mpr (by omega)
          · exact leO_refl _
    · have ih:=mxK_up (st:=st) (sp:=sp) (ts:=ts) (s:=s) (p:=p) h
      cases e:lvK st sp ts s p j with
      | none=>exact ih
      | some x=>
        cases q:mxK st sp ts s p ks with
        | none=>
          rw[q] at ih
          cases z:lvK st sp ts s p k with
          | none=>exact leO_none
          | some y=>rw[z] at ih;exact absurd ih leO_sn
        | some y=>
          rw[q] at ih
          dsimp only
          split
          · exact ih
          · exact leO_trans ih (leO_some.mpr (by omega))
theorem mxK_is {st:Int} {sp:List Sp2} {ts:List Tb} {s p:Nat}:∀{ks:List Nat} {x:Int},mxK st sp ts s p ks=some x→∃k∈ks,lvK st sp ts s p k=some x
  | [],x,h=>nomatch h
  | j::ks,x,h=>by
    unfold mxK at h
    cases e:lvK st sp ts s p j with
    | none=>
      rw[e] at h
      obtain⟨k,hk,z⟩:=mxK_is (show mxK st sp ts s p ks=some x from h)
      exact⟨k,List.mem_cons_of_mem _ hk,z⟩
    | some y=>
      cases q:mxK st sp ts s p ks with
      | none=>
        rw[e,q] at h
        cases h
        exact⟨j,List.mem_cons_self,e⟩
      | some z=>
        rw[e,q] at h
        dsimp only at h
        split at h
        · cases h
          obtain⟨k,hk,z⟩:=mxK_is q
          exact⟨k,List.mem_cons_of_mem _ hk,z⟩
        · cases h
          exact⟨j,List.mem_cons_self,e⟩
theorem Bas.is {m:Nat} {st:Int} {sp:List Sp2} {ts:List Tb} {s:Nat} {ks:List Nat} {c:Tb} (B:Bas m st sp ts s ks c) {p:Nat} {x:Int} (e:gt c p=some x):∃k∈ks,∃q,sp[k]?=some q∧q.1=p∧lvG st ts (s - 2 ^ k) q=some x:=by
  have hp:p < c.length:=by
    rcases Nat.lt_or_ge p c.length with z | z
    · exact z
    · rw[gt_out z] at e;cases e
  have h1:leT c (c.set p (mxK st sp ts s p ks)):=B.le _ fun k hk q hq=>by
    rw[gt_set hp]
    split
    · rename_i e1
      have:=mxK_up (st:=st) (sp:=sp) (ts:=ts) (s:=s) (p:=p) hk
      unfold lvK at this
      rw[hq] at this
      dsimp only at this
      rw[if_pos e1.symm] at this
      exact this
    · exact B.up k hk q hq
  have h1:=h1 p
  rw[gt_set hp,if_pos rfl,e] at h1
  cases z:mxK st sp ts s p ks with
  | none=>rw[z] at h1;exact absurd h1 leO_sn
  | some y=>
    rw[z] at h1
    have h1:=leO_some.mp h1
    obtain⟨k,hk,hl⟩:=mxK_is z
    unfold lvK at hl
    cases hq:sp[k]? with
    | none=>rw[hq] at hl;cases hl
    | some q=>
      rw[hq] at hl
      dsimp only at hl
      split at hl
      · rename_i e1
        have h2:=B.up k hk q hq
        rw[hl,e1,e] at h2
        have h2:=leO_some.mp h2
        exact⟨k,hk,q,hq,e1,by rw[hl];congr 1;omega⟩
      · cases hl
theorem bit_sub:∀n,n < 5→∀k,k < n→∀s,s < 2 ^ n→sIn s k=true→sIn (s - 2 ^ k) k=false∧s - 2 ^ k + 2 ^ k=s∧s - 2 ^ k < s:=by decide
theorem stepG {S x g y:Int} (h0:0≤x) (hg:0≤g) (h:stepF S x g=some y):y=if S < x + g then S else x + g:=(stepF_some h).2
theorem spr_rcs {m:Nat} {ws:List Wy} {S:Int} {sp:List Sp2} {b:Tb} {ts:List Tb} (ok:LandOk m ws) (h0:0≤S) (hb:TabOk m S b) (so:SprOk m sp) (h:SprT m ws S sp b ts):∀s,s < ts.length→∀p x,gt (tbs ts s) p=some x→RcS ws S sp b (p,x,s):=fun s=>by
  induction s using Nat.strongRecOn with
  | _ s ih=>
    intro hs p x e
    obtain⟨c,B,L⟩:=h.all s hs
    have tc:TabOk m S c:=B.tab hb
    have M:=least_mxr ok h0 tc L
    have hp:p < m:=by
      rcases Nat.lt_or_ge p (tbs ts s).length with z | z
      · rw[←L.tab.len];exact z
      · rw[gt_out z] at e;cases e
    have bs:∀q y,gt c q=some y→RcS ws S sp b (q,y,s):=fun q y ec=>by
      rcases B with ⟨rfl,rfl⟩ | ⟨_,B⟩
      · exact .base ec
      · obtain⟨k,hk,r,hr,e1,e2⟩:=B.is ec
        obtain⟨k1,k2⟩:=nums_in hk
        have few:=so.few
        obtain⟨b1,b2,b3⟩:=bit_sub sp.length (by omega) k k1 s (by rw[←h.len];exact hs) k2
        unfold lvG at e2
        cases z:gt (tbs ts (s - 2 ^ k)) r.1 with
        | none=>rw[z] at e2;cases e2
        | some l=>
          rw[z] at e2
          have hr1:=ih (s - 2 ^ k) b3 (by omega) r.1 l z
          have bd:=hr1.bd ok h0 hb so
          have ey:=stepG bd.2.1 (so.gf r (List.mem_of_getElem? hr)) e2
          refine .nx hr1 (List.mem_append_right _ ((mem_sucS (Nat.le_refl _)).mpr ⟨k,k1,r,hr,rfl,b1,?_⟩))
          rw[ey,←e1]
          show (r.1,_,s)=(r.1,_,s - 2 ^ k + 2 ^ k)
          rw[b2]
    have all:∀{p:Nat} {x:Int},RcT ws S c p x→RcS ws S sp b (p,x,s):=fun {p x} hy=>by
      induction hy with
      | base e=>exact bs _ _ e
      | @step p q x c' y hr hw e ih2=>
        exact .nx (s:=(p,x,s)) ih2 (List.mem_append_left _ (mem_sucW.mpr ⟨_,hw,rfl,y,e,rfl⟩))
    rcases M.2 p hp with ⟨z,_⟩ | ⟨y,z,hy,_⟩
    · rw[z] at e;cases e
    · rw[z] at e
      cases e
      exact all hy
theorem rcs_spr {m:Nat} {ws:List Wy} {S:Int} {sp:List Sp2} {b:Tb} {ts:List Tb} (ok:LandOk m ws) (h0:0≤S) (hb:TabOk m S b) (so:SprOk m sp) (h:SprT m ws S sp b ts) {s:Sp3} (r:RcS ws S sp b s):leO (some s.2.1) (gt (tbs ts s.2.2) s.1):=by
  have g:=h.lid
  induction r with
  | @base p x e=>
    have:=g.b0 p
    rw[e] at this
    exact this
  | @nx s r hs hr ih=>
    have bd:=hs.bd ok h0 hb so
    have hl:s.2.2 < ts.length:=by rw[g.len];exact bd.2.2.2
    cases z:gt (tbs ts s.2.2) s.1 with
    | none=>rw[z] at ih;exact absurd ih leO_sn
    | some l=>
      rw[z] at ih
      have ih:=leO_some.mp ih
      rcases List.mem_append.mp hr with mm | mm
      · obtain⟨w,hw,e,y,q,rfl⟩:=mem_sucW.mp mm
        have cl:=g.cl _ (mem_tbs hl) w hw
        have cl:leO (match gt (tbs ts s.2.2) w.1 with | none=>none | some l=>stepF S l w.2.2) (gt (tbs ts s.2.2) w.2.1):=cl
        rw[e,z] at cl
        refine leO_trans ?_ cl
        show leO (some y) (stepF S l w.2.2)
        rw[←q]
        exact step_mono ih
      · obtain⟨k,hk,q,hq,e1,e2,rfl⟩:=(mem_sucS (Nat.le_refl _)).mp mm
        obtain⟨_,nx⟩:=g.next so.few hl hq e2
        have gf:=so.gf q (List.mem_of_getElem? hq)
        unfold lvG at nx
        rw[e1,z] at nx
        refine leO_trans ?_ nx
        show leO (some (if S < s.2.1 + q.2 then S else s.2.1 + q.2)) (stepF S l q.2)
        have:stepF S s.2.1 q.2=some (if S < s.2.1 + q.2 then S else s.2.1 + q.2):=by unfold stepF;rw[if_neg (by have:=bd.2.1;omega)]
        rw[←this]
        exact step_mono ih
def spSets:DSpN:=fun ds Q=>∃(m:Nat) (ws:List Wy) (S:Int) (sp:List Sp2) (t0:Tb),ds=[landD m ws,.int S,.list (sp.map sprD),.list (tabL t0)]∧LandOk m ws∧0≤S∧2 ^ sp.length * (m * (S.toNat + 1))≤900∧SprOk m sp∧TabOk m S t0∧∀fd:List Sp3,(∀s,s∈fd↔RcS ws S sp t0 s)→fd.Nodup→Q (.di false (fd.map k3))
theorem compFS {α:Type} {tt:DT} {te:DE} {ρ:List Sl} {Q:List PyData→Prop} {j:Nat} {g f:α→PyData} {p:α→Bool}:∀{xs:List α} {acc:List PyData},(∀x∈xs,∀Q':Bool→List Sl→Prop,Q' (p x) (ρ.set j (.sh (g x)))→tt (ρ.set j (.sh (g x))) Q')→(∀x∈xs,p x=true→∀Q':PyData→List Sl→Prop,Q' (f x) (ρ.set j (.sh (g x)))→te (ρ.set j (.sh (g x))) Q')→
    Q (acc++(xs.filter p).map f)→dCompLS j tt te ρ Q (xs.map g) acc
  | [],acc,_,_,q=>by
    have q':Q (acc++[]):=q
    rw[List.append_nil] at q'
    exact q'
  | x::r,acc,h1,h2,q=>by
    refine h1 x List.mem_cons_self _ ⟨rfl,?_⟩
    cases e:p x with
    | true=>
      rw[if_pos rfl]
      refine h2 x List.mem_cons_self e _ ⟨rfl,compFS (fun y hy=>h1 y (List.mem_cons_of_mem _ hy)) (fun y hy=>h2 y (List.mem_cons_of_mem _ hy)) ?_⟩
      rw[List.filter_cons_of_pos e] at q
      rw[List.append_assoc]
      exact q
    | false=>
      rw[if_neg Bool.false_ne_true]
      refine compFS (fun y hy=>h1 y (List.mem_cons_of_mem _ hy)) (fun y hy=>h2 y (List.mem_cons_of_mem _ hy)) ?_
      rw[List.filter_cons_of_neg (by rw[e];exact Bool.false_ne_true)] at q
      exact q
def bs3 (t0:Tb) (m:Nat):List Sp3:=(bsK t0 m).map fun s=>(s.1,s.2,0)
theorem bs3_eq (t0:Tb) (m:Nat):((List.range m).filter fun k=>(gt t0 k).isSome).map (fun k=>PyData.tuple [.int ((k:Nat):Int),oD (gt t0 k),.int 0])=(bs3 t0 m).map s3D:=by
  unfold bs3 bsK
  induction List.range m with
  | nil=>rfl
  | cons k r ih=>
    cases e:gt t0 k with
    | none=>
      rw[List.filter_cons_of_neg (by rw[e];decide),List.filterMap_cons,e]
      exact ih
    | some x=>
      rw[List.filter_cons_of_pos (by rw[e];rfl),List.filterMap_cons,e,List.map_cons,e,ih]
      rfl
theorem wks_start {m:Nat} {ws:List Wy} {S:Int} {sp:List Sp2} {t0:Tb} (tb:TabOk m S t0):WkS ws S sp t0 [] (bs3 t0 m):=by
  refine⟨List.nodup_nil,fun s h=>(nomatch h),fun s hs=>?_,fun p x e=>.inr ?_,fun s h=>(nomatch h)⟩
  · obtain⟨r,hr,rfl⟩:=List.mem_map.mp hs
    exact .base (mem_bsK.mp hr).2
  · refine List.mem_map.mpr ⟨(p,x),mem_bsK.mpr ⟨?_,e⟩,rfl⟩
    rcases Nat.lt_or_ge p t0.length with z | z
    · show p < m
      rw[←tb.len];exact z
    · rw[gt_out z] at e;cases e
theorem bs3_len (t0:Tb) (m:Nat):(bs3 t0 m).length≤m:=by unfold bs3;rw[List.length_map];exact bsK_len t0 m
theorem key_s3 (s:Sp3):keyD (s3D s)=some (k3 s):=rfl
theorem bitI (s k:Nat):(((s:Nat):Int) / ((2 ^ k:Nat):Int) % 2 == 0)=!sIn s k:=by
  rw[show ((s:Nat):Int) / ((2 ^ k:Nat):Int) % 2=((s / 2 ^ k % 2:Nat):Int) by omega]
  unfold sIn
  rcases Nat.mod_two_eq_zero_or_one (s / 2 ^ k) with h | h <;> rw[h] <;> rfl
theorem shl_eq (k:Nat):(1:Int) * 2 ^ (((k:Nat):Int)).toNat=((2 ^ k:Nat):Int):=by rw[Int.one_mul,Int.toNat_natCast,Int.natCast_pow];rfl
theorem min_eq' (S y:Int):(if y < S then y else S)=if S < y then S else y:=by split <;> split <;> omega
section
variable {P:Program} {w:World} {K:PySem.W.Frag} {mg:Str→Option Value} {base:Heap}
theorem ok_by_sets (T:Txt K mg):FnOk P w K mg base CX0 2 T.f_by_sets.a T.f_by_sets.d ["_law_land_here", "_law_store", "_law_springs_here", "_law_base"] (spDN [.sh,.sh,.sh,.sh] spSets):=by
  refine fn_dN T.f_by_sets.F sc_by_sets rfl (fun C cdv A outer s H E hr=>⟨_,(@dss_consG _ _ _ _ _ _ (ds_dnew (ps_set (i:=4) sc_by_sets.nd rfl (Or.inl rfl) pe_dnewT)) (@dss_consG _ _ _ _ _ _ (@ds_ownCF _ _ _ _ _ _ _ _ _ (@ps_setC _ _ _ _ _ _ _ _ _ _ _ _ _ 5 _ _ _ _ _ sc_by_sets.nd rfl (Or.inl rfl) (CompSc.old (N:=["_law_land_here", "_law_store", "_law_springs_here", "_law_base", "_law_found", "_law_todo", "_law_spot", "_law_place", "_law_level", "_law_some", "_law_start", "_law_end", "_law_change_here", "_law_k"]) (osc:=defScope s_by_sets) (j:=13) (by decide +kernel)) rfl (di_rng1 (pi_range1 rfl T.n_range (dv_cons (pd_ixv (pv 0) pd_int (fun _ _=>rfl)) dv_nil se_Subscript))) (fun _=>(pts_one (pdt_cmp op_notN ok_notN (pd_ixv (pv 3) (pd_var (pv 13)) (fun _ _=>rfl)) pd_non (nomark _)))) (fun _=>(pd_tup (dv_cons (pd_var (pv 13)) (dv_cons (pd_ixv (pv 3) (pd_var (pv 13)) (fun _ _=>rfl)) (dv_cons pd_int dv_nil se_Constant) se_Subscript) se_Name))) (by rfl) (by first | exact .inl rfl | exact .inr rfl | assumption) (by rfl) (by rfl) (by intro _;rfl))) (@dss_consG _ _ _ _ _ _ (@ds_mid _ _ _ _ (@ds_while _ _ _ _ _ (@ps_while _ _ _ _ _ _ PassesOwn.never (pdt_cmp op_gt ok_gt (pd_lenv (pe_callB call_len_seq rfl T.n_len bt_len (pa_cons (pv 5) pa_nil se_Name) (he:=se_Name) (hpl:=np_nil))) pd_int (nomark _)) (@dss_consG _ _ _ _ _ _ (ds_set (ps_set (i:=6) sc_by_sets.nd rfl (Or.inl rfl) (pd_pop0 (pe_bm0 PySem.F.plainAttrs_list PySem.F.slot_list_pop PySem.F.type_list_pop mt_pop (pv 5))))) (@dss_one _ _ _ _ (@ds_if _ _ _ _ _ _ _ _ _ (pdt_dnin (u1 (units_of hr)) (pd_var (pv 6)) (pv 4) (by with_unfolding_all rfl)) (@dss_consG _ _ _ _ _ _ (ds_dput (ps_dput (u1 (units_of hr)) (pv 4) (pd_var (pv 6)) pe_bl (by rfl))) (@dss_consG _ _ _ _ _ _ (ds_asg (ps_asg (pd_var (pv 6)) (dg_t3 (pg_tup (n:=3) rfl (pgs_cons (pg_name (i:=7) sc_by_sets.nd rfl (Or.inl rfl)) (pgs_cons (pg_name (i:=8) sc_by_sets.nd rfl (Or.inl rfl)) (pgs_cons (pg_name (i:=9) sc_by_sets.nd rfl (Or.inl rfl)) pgs_nil))))))) (@dss_consG _ _ _ _ _ _ (@ds_mid _ _ _ _ (@ds_for _ _ _ _ _ _ (@ps_for _ _ _ _ _ _ _ _ PassesOwn.never rfl (di_list (pd_ixv (pv 0) pd_int (fun _ _=>rfl))) (dg_t3 (pg_tup (n:=3) rfl (pgs_cons (pg_name (i:=10) sc_by_sets.nd rfl (Or.inl rfl)) (pgs_cons (pg_name (i:=11) sc_by_sets.nd rfl (Or.inl rfl)) (pgs_cons (pg_name (i:=12) sc_by_sets.nd rfl (Or.inl rfl)) pgs_nil))))) (@dss_one _ _ _ _ (@ds_if _ _ _ _ _ _ _ _ _ (PW.pt (pwd_and (pdt_cmp (op_eqD (units_of hr)) ok_eq (pd_var (pv 10)) (pd_var (pv 7)) (nomark _)) (pwd_and1 (pdt_cmp op_ge ok_ge (pd_op op_add ok_add (pd_var (pv 8)) (pd_var (pv 12))) pd_int (nomark _))))) (@dss_one _ _ _ _ (@ds_appB _ _ _ _ _ _ (@ps_expr _ _ _ _ (@pe_bm _ _ _ _ _ _ _ _ _ _ _ _ PySem.F.plainAttrs_list PySem.F.slot_list_append PySem.F.type_list_append mt_append (pv 5) (pa_cons (pd_tup (dv_cons (pd_var (pv 11)) (dv_cons (pd_cb cb_min (pe_callB (call_min2 rfl) rfl T.n_min bt_min (dv_cons (pd_var (pv 1)) (dv_cons (pd_op op_add ok_add (pd_var (pv 8)) (pd_var (pv 12))) dv_nil se_BinOp) se_Name) (he:=se_Name) (hpl:=(np_cons se_BinOp np_nil)))) (dv_cons (pd_var (pv 9)) dv_nil se_Name) se_Call) se_Name)) pa_nil se_Tuple) (by rfl) (by rfl) (by rfl) (by rfl) (by rfl)) (by rfl)))) dss_nil)) (by intro _;rfl)))) (@dss_one _ _ _ _ (@ds_for _ _ _ _ _ _ (@ps_for _ _ _ _ _ _ _ _ PassesOwn.never rfl (di_rng1 (pi_range1 rfl T.n_range (dv_cons (pd_lenv (pe_callB call_len_seq rfl T.n_len bt_len (pa_cons (pv 2) pa_nil se_Name) (he:=se_Name) (hpl:=np_nil))) dv_nil se_Call))) (dg_name (pg_name (i:=13) sc_by_sets.nd rfl (Or.inl rfl))) (@dss_one _ _ _ _ (@ds_if _ _ _ _ _ _ _ _ _ (PW.pt (pwd_and (pdt_cmp (op_eqD (units_of hr)) ok_eq (pd_ix (pd_ixv (pv 2) (pd_var (pv 13)) (fun _ _=>rfl)) pd_int (fun _ _=>rfl)) (pd_var (pv 7)) (nomark _)) (pwd_and1 (pdt_cmp (op_eqD (units_of hr)) ok_eq (pd_op op_mod ok_mod (pd_op op_fdivB ok_div (pd_var (pv 9)) (pd_op op_shl ok_shl pd_int (pd_var (pv 13)))) pd_int) pd_int (nomark _))))) (@dss_one _ _ _ _ (@ds_appB _ _ _ _ _ _ (@ps_expr _ _ _ _ (@pe_bm _ _ _ _ _ _ _ _ _ _ _ _ PySem.F.plainAttrs_list PySem.F.slot_list_append PySem.F.type_list_append mt_append (pv 5) (@pa_cons _ _ _ _ _ (@pd_tup _ _ _ _ _ _ (@dv_cons _ _ _ _ _ _ (pd_var (pv 7)) (@dv_cons _ _ _ _ _ _ (pd_cb cb_min (pe_callB (call_min2 rfl) rfl T.n_min bt_min (dv_cons (pd_var (pv 1)) (dv_cons (pd_op op_add ok_add (pd_var (pv 8)) (pd_ix (pd_ixv (pv 2) (pd_var (pv 13)) (fun _ _=>rfl)) pd_int (fun _ _=>rfl))) dv_nil se_BinOp) se_Name) (he:=se_Name) (hpl:=(np_cons se_BinOp np_nil)))) (dv_cons (pd_op op_add ok_add (pd_var (pv 9)) (pd_op op_shl ok_shl pd_int (pd_var (pv 13)))) dv_nil se_BinOp) se_Call) se_Name)) pa_nil se_Tuple) (by rfl) (by rfl) (by rfl) (by rfl) (by rfl)) (by rfl)))) dss_nil)) (by intro _;rfl))))))) dss_nil)))))) (dss_one (ds_ret2 (pv 4)))))),fun ds Q hl h=>?_⟩)
  obtain⟨m,ws,S,sp,t0,rfl,ok,h0,hN,so,tb,q⟩:=h
  have m1:=ok.m1
  have m2:=ok.m2
  have few:=ok.few
  have sf:=so.few
  decreasing_trivial
  refine go ?_;decreasing_tactic
  array_mem_dec
  refine⟨⟨by omega,by omega⟩,⟨rfl,rfl,by unfold rngD;rw[List.length_map,List.length_range];omega⟩,?_⟩
  rw[show ((m:Nat):Int).toNat=m by simp,rng0 m]
  refine compFS (p:=fun k=>(gt t0 k).isSome) (f:=fun k=>PyData.tuple [.int ((k:Nat):Int),oD (gt t0 k),.int 0]) (fun k hk Q' q'=>?_) (fun k hk e Q' q'=>?_) ?_
  · have:=List.mem_range.mp hk
    decreasing_tactic
    rw[tab_at (by rw[tb.len];exact this)]
    decreasing_tactic
    cases e:gt t0 k with
    | none=>rw[e] at q';exact q'
    | some x=>rw[e] at q';exact q'
  · have:=List.mem_range.mp hk
    decreasing_tactic
    rw[tab_at (by rw[tb.len];exact this)]
    decreasing_tactic
    exact⟨by decide,q'⟩
  rw[List.nil_append,bs3_eq]
  refine go ?_
  (try unfold dSeqG);(try unfold dMid)
  refine⟨fun ρ'=>∃(fd:List Sp3) (z6 z7 z8 z9 z10 z11 z12 z13:Sl),ρ'=[Sl.sh (landD m ws),Sl.sh (.int S),Sl.sh (.list (sp.map sprD)),Sl.sh (.list (tabL t0)),.di false (fd.map k3),.ow [],z6,z7,z8,z9,z10,z11,z12,z13]∧WkS ws S sp t0 fd [],?_,?_⟩
  · unfold dWhile
    refine⟨fun μ ρ=>∃(fd td:List Sp3) (z6 z7 z8 z9 z10 z11 z12 z13:Sl),ρ=[Sl.sh (landD m ws),Sl.sh (.int S),Sl.sh (.list (sp.map sprD)),Sl.sh (.list (tabL t0)),.di false (fd.map k3),.ow (td.map s3D),z6,z7,z8,z9,z10,z11,z12,z13]∧WkS ws S sp t0 fd td∧td.length≤12 + 44 * fd.length∧μ=45 * (900 - fd.length) + td.length,⟨_,[],bs3 t0 m,_,_,_,_,_,_,_,_,rfl,wks_start tb,by have:=bs3_len t0 m;omega,rfl⟩,?_⟩
    rintro μ ρ ⟨fd,td,z6,z7,z8,z9,z10,z11,z12,z13,rfl,I,hl,rfl⟩
    rcases last_or td with rfl | ⟨td',s,rfl⟩
    · decreasing_tactic
      exact⟨fd,_,_,_,_,_,_,_,_,rfl,I⟩
    · rw[List.map_append] at *
      rw[List.length_append] at hl
      decreasing_tactic
      rw[decide_eq_true (show 0 < (((List.map s3D td'++List.map s3D [s]).length:Nat):Int) by rw[List.length_append];simp)]
      decreasing_tactic
      try dsimp only[Blk]
      rw[show List.map s3D td'++List.map s3D [s]=List.map s3D td'++[s3D s] from rfl]
      decreasing_tactic
      rw[last_at,List.dropLast_concat]
      decreasing_trivial
      have fl:=WkS.few ok h0 tb so I.nd I.rc
      refine go ?_
      decreasing_tactic
      rw[key_s3]
      decreasing_tactic
      rw[has_k3]
      by_cases c:s∈fd
      · rw[decide_eq_true c]
        decreasing_tactic
        rw[if_neg (by decide)]
        exact⟨45 * (900 - fd.length) + td'.length,by rw[List.length_append];simp,fd,td',_,_,_,_,_,_,_,_,rfl,I.old c,by simp at hl;omega,rfl⟩
      · rw[decide_eq_false c]
        decreasing_tactic
        rw[if_pos (show (!false)=true from rfl),put_k3 c]
        have I2:=I.new c
        have fl2:(fd++[s]).length≤900:=Nat.le_trans (WkS.few ok h0 tb so I2.nd I2.rc) hN
        rw[List.length_append] at fl2
        have fl3:fd.length + 1≤900:=fl2
        have sW:=flat_len (oneW_len S s) ws
        have sS:=flat_len (oneS_len S sp s) (List.range sp.length)
        rw[List.length_range] at sS
        have hl':td'.length + 1≤12 + 44 * fd.length:=hl
        have lw:(sucW S s ws).length≤40:=by unfold sucW;omega
        have ls:(sucS S sp s sp.length).length≤4:=by unfold sucS;omega
        refine⟨by rw[List.length_map];omega,?_⟩
        refine go ?_;decreasing_tactic
        try dsimp only[s3D]
        decreasing_tactic
        refine go ?_
        (try unfold dSeqG);(try unfold dMid)
        refine⟨fun ρ'=>∃z10 z11 z12:Sl,ρ'=[Sl.sh (landD m ws),Sl.sh (.int S),Sl.sh (.list (sp.map sprD)),Sl.sh (.list (tabL t0)),.di false ((fd++[s]).map k3),.ow ((td'++sucW S s ws).map s3D),Sl.sh (s3D s),Sl.sh (.int (s.1:Nat)),Sl.sh (.int s.2.1),Sl.sh (.int (s.2.2:Nat)),z10,z11,z12,z13],?_,?_⟩
        · array_mem_dec
          refine⟨fun r ρ=>∃(dn rs:List Wy) (z10 z11 z12:Sl),ws=dn++rs∧r=rs.map wayD∧ρ=[Sl.sh (landD m ws),Sl.sh (.int S),Sl.sh (.list (sp.map sprD)),Sl.sh (.list (tabL t0)),.di false ((fd++[s]).map k3),.ow ((td'++sucW S s dn).map s3D),Sl.sh (s3D s),Sl.sh (.int (s.1:Nat)),Sl.sh (.int s.2.1),Sl.sh (.int (s.2.2:Nat)),z10,z11,z12,z13],⟨[],ws,_,_,_,rfl,rfl,by rw[show sucW S s []=[] from rfl,List.append_nil];rfl⟩,?_,?_⟩
          · rintro x r ρ ⟨dn,rs,z10,z11,z12,hws,hr,rfl⟩
            cases rs with
            | nil=>cases hr
            | cons v rs=>
              obtain⟨rfl,rfl⟩:=List.cons.inj hr
              have hv:v∈ws:=by rw[hws];exact List.mem_append_right _ List.mem_cons_self
              have ews:ws=(dn++[v])++rs:=by rw[hws,List.append_assoc];rfl
              have esn:sucW S s (dn++[v])=sucW S s dn++oneW S s v:=by unfold sucW;rw[List.flatMap_append];simp
              have esm:td'++sucW S s (dn++[v])=td'++(sucW S s dn++oneW S s v):=by rw[esn]
              have ln:(sucW S s dn).length≤40:=by
                have:=flat_len (oneW_len S s) dn
                have:dn.length≤ws.length:=by rw[hws,List.length_append];omega
                unfold sucW
                omega
              sizeOf_list_dec
              refine⟨rfl,rfl,min0 _ _,?_⟩
              rw[eqv_int]
              by_cases c1:v.1=s.1
              · rw[c1,beq_self_eq_true]
                decreasing_tactic
                by_cases c2:0≤s.2.1 + v.2.2
                · rw[decide_eq_true c2]
                  have e1:oneW S s v=[(v.2.1,(if s.2.1 + v.2.2 < S then s.2.1 + v.2.2 else S),s.2.2)]:=by
                    unfold oneW stepF
                    rw[if_pos c1,if_neg (by omega),min_eq']
                    rfl
                  decreasing_tactic
                  rw[e1,←List.append_assoc] at esm
                  rw[show List.map s3D (td'++sucW S s dn)++[PyData.tuple [.int (v.2.1:Nat),.int (if s.2.1 + v.2.2 < S then s.2.1 + v.2.2 else S),.int (s.2.2:Nat)]]=List.map s3D (td'++sucW S s (dn++[v])) by rw[esm,List.map_append (f:=s3D) (l₁:=td'++sucW S s dn)];rfl]
                  exact⟨by decide,by rw[List.length_map,List.length_append];omega,dn++[v],rs,_,_,_,ews,rfl,rfl⟩
                · rw[decide_eq_false c2]
                  have e1:oneW S s v=[]:=by
                    unfold oneW stepF
                    rw[if_pos c1,if_pos (by omega)]
                    rfl
                  decreasing_tactic
                  exact⟨dn++[v],rs,_,_,_,ews,rfl,by rw[esn,e1,List.append_nil]⟩
              · rw[show (((v.1:Nat):Int) == ((s.1:Nat):Int))=false from beq_eq_false_iff_ne.mpr (by omega)]
                have e1:oneW S s v=[]:=by unfold oneW;rw[if_neg c1]
                decreasing_tactic
                exact⟨dn++[v],rs,_,_,_,ews,rfl,by rw[esn,e1,List.append_nil]⟩
          · rintro ρ ⟨dn,rs,z10,z11,z12,hws,hr,rfl⟩
            cases rs with
            | cons v rs=>cases hr
            | nil=>
              rw[List.append_nil] at hws
              subst hws
              exact⟨_,_,_,rfl⟩
        rintro ρ ⟨z10,z11,z12,rfl⟩
        try dsimp only
        refine go ?_
        array_mem_dec
        rw[List.length_map]
        refine⟨⟨by omega,by omega⟩,fun r ρ=>∃(k:Nat) (z13:Sl),r=(rngD 0 sp.length).drop k∧k≤sp.length∧ρ=[Sl.sh (landD m ws),Sl.sh (.int S),Sl.sh (.list (sp.map sprD)),Sl.sh (.list (tabL t0)),.di false ((fd++[s]).map k3),.ow ((td'++sucW S s ws++sucS S sp s k).map s3D),Sl.sh (s3D s),Sl.sh (.int (s.1:Nat)),Sl.sh (.int s.2.1),Sl.sh (.int (s.2.2:Nat)),z10,z11,z12,z13],⟨0,_,by rw[Int.toNat_natCast];rfl,Nat.zero_le _,by rw[show sucS S sp s 0=[] from rfl,List.append_nil];rfl⟩,?_,?_⟩
        · rintro x r ρ ⟨k,z13,hr,hk,rfl⟩
          obtain⟨rfl,rfl,hk'⟩:=rng_cons hr
          obtain⟨p,hp⟩:=at_ex hk'
          have esn:sucS S sp s (k + 1)=sucS S sp s k++oneS S sp s k:=by unfold sucS;rw[List.range_succ,List.flatMap_append];simp
          have ln:(sucS S sp s k).length≤4:=by
            have:=flat_len (oneS_len S sp s) (List.range k)
            rw[List.length_range] at this
            unfold sucS
            omega
          sizeOf_list_dec
          rw[spr_ix hp]
          try dsimp only[sprD]
          decreasing_tactic
          have keep:oneS S sp s k=[]→∀y13:Sl,∃(k_1:Nat) (z13:Sl),List.drop (k + 1) (rngD 0 sp.length)=List.drop k_1 (rngD 0 sp.length)∧k_1≤sp.length∧[Sl.sh (landD m ws),Sl.sh (.int S),Sl.sh (.list (sp.map sprD)),Sl.sh (.list (tabL t0)),Sl.di false (List.map k3 (fd++[s])),Sl.ow (List.map s3D (td'++sucW S s ws++sucS S sp s k)),Sl.sh (s3D s),Sl.sh (.int (s.1:Nat)),Sl.sh (.int s.2.1),Sl.sh (.int (s.2.2:Nat)),z10,z11,z12,y13]=[Sl.sh (landD m ws),Sl.sh (.int S),Sl.sh (.list (sp.map sprD)),Sl.sh (.list (tabL t0)),Sl.di false (List.map k3 (fd++[s])),Sl.ow (List.map s3D (td'++sucW S s ws++sucS S sp s k_1)),Sl.sh (s3D s),Sl.sh (.int (s.1:Nat)),Sl.sh (.int s.2.1),Sl.sh (.int (s.2.2:Nat)),z10,z11,z12,z13]:=fun e y13=>⟨k + 1,y13,rfl,hk',by rw[esn,e,List.append_nil]⟩
          refine⟨rfl,rfl,min0 _ _,?_⟩
          rw[eqv_int]
          by_cases c1:p.1=s.1
          · rw[c1,beq_self_eq_true]
            decreasing_tactic
            refine⟨⟨by omega,by omega,by decide⟩,?_⟩
            rw[shl_eq]
            refine⟨?_,by decide,rfl,rfl,min0 _ _,?_⟩
            · have h1:=pw_pos k
              have h2:=pw4 k (by omega)
              exact⟨by omega,by omega⟩
            rw[eqv_int,bitI]
            cases e:sIn s.2.2 k with
            | true=>
              decreasing_tactic
              exact keep (by unfold oneS;rw[hp];dsimp only;rw[if_neg fun z=>by rw[e] at z;exact absurd z.2 (by decide)]) _
            | false=>
              decreasing_tactic
              have e1:oneS S sp s k=[(s.1,(if s.2.1 + p.2 < S then s.2.1 + p.2 else S),s.2.2 + 2 ^ k)]:=by
                unfold oneS;rw[hp];dsimp only;rw[if_pos ⟨c1,e⟩,min_eq']
              refine⟨⟨by omega,by omega,by decide⟩,by decide,by rw[List.length_map,List.length_append,List.length_append];omega,k + 1,Sl.sh (.int (k:Nat)),rfl,hk',?_⟩
              rw[esn,e1,←List.append_assoc,List.map_append (f:=s3D) (l₁:=td'++sucW S s ws++sucS S sp s k)]
              show _=[_,_,_,_,_,Sl.ow (_++[s3D (s.1,(if s.2.1 + p.2 < S then s.2.1 + p.2 else S),s.2.2 + 2 ^ k)]),_,_,_,_,_,_,_,_]
              unfold s3D
              rw[Int.natCast_add]
          · rw[show (((p.1:Nat):Int) == ((s.1:Nat):Int))=false from beq_eq_false_iff_ne.mpr (by omega)]
            decreasing_tactic
            exact keep (by unfold oneS;rw[hp];dsimp only;rw[if_neg fun z=>c1 z.1]) _
        · rintro ρ ⟨k,z13,hr,hk,rfl⟩
          have:=rng_nil hr
          have:k=sp.length:=by omega
          subst this
          exact⟨45 * (900 - (fd++[s]).length) + (td'++sucW S s ws++sucS S sp s sp.length).length,by
            simp only[List.length_append,List.length_cons,List.length_nil]
            omega,fd++[s],_,_,_,_,_,_,_,_,_,rfl,I2,by
            simp only[List.length_append,List.length_cons,List.length_nil]
            omega,rfl⟩
  rintro ρ ⟨fd,z6,z7,z8,z9,z10,z11,z12,z13,rfl,I⟩
  try dsimp only
  refine go ?_;decreasing_tactic
  exact q fd (fun s=>⟨fun hs=>I.rc s hs,fun r=>I.fin r⟩) I.nd
end
def isPt (a b:Nat):Bool:=decide (a &&&b=a)
theorem band_nat (a b:Nat):Builtin.bitAnd ((a:Nat):Int) ((b:Nat):Int)=((a &&&b:Nat):Int):=by
  unfold Builtin.bitAnd
  rw[decide_eq_true (Int.natCast_nonneg a),decide_eq_true (Int.natCast_nonneg b)]
  rfl
def ndsA (g:Sp2):Nat→List Nat→List Tb→List Nat
  | _,acc,[]=>acc
  | s,acc,t::ts=>ndsA g (s + 1) (if enF t g=true∧(acc.any fun n=>isPt n s)=false then acc++[s] else acc) ts
structure NdO (s:Nat) (acc:List Nat):Prop where
  lt:∀n∈acc,n < s
  pw:acc.Pairwise fun a b=>a < b∧isPt a b=false
theorem NdO.put {s:Nat} {acc:List Nat} (h:NdO s acc) (hn:(acc.any fun n=>isPt n s)=false):NdO (s + 1) (acc++[s]):=by
  refine⟨fun n hn=>?_,?_⟩
  · rcases List.mem_append.mp hn with z | z
    · exact Nat.lt_succ_of_lt (h.lt n z)
    · rw[List.mem_singleton.mp z];exact Nat.lt_succ_self _
  · refine List.pairwise_append.mpr ⟨h.pw,List.pairwise_singleton _ _,fun a ha b hb=>?_⟩
    rw[List.mem_singleton.mp hb]
    refine⟨h.lt a ha,?_⟩
    have:=List.any_eq_false.mp hn a ha
    simpa using this
theorem NdO.keep {s:Nat} {acc:List Nat} (h:NdO s acc):NdO (s + 1) acc:=⟨fun n hn=>Nat.lt_succ_of_lt (h.lt n hn),h.pw⟩
theorem nds_ok (g:Sp2):∀(ts:List Tb) (s:Nat) (acc:List Nat),NdO s acc→NdO (s + ts.length) (ndsA g s acc ts)
  | [],s,acc,h=>h
  | t::ts,s,acc,h=>by
    unfold ndsA
    rw[show s + (t::ts).length=(s + 1) + ts.length by rw[List.length_cons];omega]
    refine nds_ok g ts _ _ ?_
    split
    · rename_i c;exact h.put c.2
    · exact h.keep
def chN (a:Nat):Nat:=[0,0,1,0,2,4,1,0,3,3,5,3,2,2,1,0].getD a 0
theorem ch_pt:∀a,a < 16→∀b,b < 16→a < b→chN a=chN b→isPt a b=true:=by decide
theorem ch_lt (a:Nat) (h:a < 16):chN a < 6:=by
  have:∀a,a < 16→chN a < 6:=by decide
  exact this a h
theorem nd_few {acc:List Nat} (h:NdO 16 acc):acc.length≤6:=by
  have nd:(acc.map chN).Nodup:=by
    refine List.pairwise_map.mpr ?_
    have hp:acc.Pairwise fun a b=>a < 16∧b < 16∧a < b∧isPt a b=false:=by
      refine List.Pairwise.imp_of_mem ?_ h.pw
      intro a b ha hb hab
      exact⟨h.lt a ha,h.lt b hb,hab⟩
    refine hp.imp ?_
    rintro a b ⟨h1,h2,h3,h4⟩ e
    rw[ch_pt a h1 b h2 h3 e] at h4
    cases h4
  have:=nodup_few 6 _ nd fun x hx=>by
    obtain⟨a,ha,rfl⟩:=List.mem_map.mp hx
    exact ch_lt a (h.lt a ha)
  rw[List.length_map] at this
  exact this
def spBaseD:DSp:=fun ds Q=>∃(m:Nat) (b:Sp2),ds=[.int (m:Nat),spotD b]∧b.1 < m∧m≤900∧Q (.list (tabL (baseF m b)))
def spEnoughD:DSp:=fun ds Q=>∃(t:Tb) (g:Sp2),ds=[.list (tabL t),spotD g]∧g.1 < t.length∧Q (.bool (enF t g))
def spPart:DSp:=fun ds Q=>∃a b:Nat,ds=[.int (a:Nat),.int (b:Nat)]∧Q (.bool (isPt a b))
def spNeeds:DSpN:=fun ds Q=>∃(m:Nat) (ws:List Wy) (st:Int) (sp:List Sp2) (b g:Sp2),ds=[landD m ws,.int st,.list (sp.map sprD),.tuple [spotD b,spotD g]]∧LandOk m ws∧0≤st∧st≤1000000000000000000000∧SprOk m sp∧b.1 < m∧g.1 < m∧0≤b.2∧b.2≤st∧∀ts,SprT m ws st sp (baseF m b) ts→Q (.ow (numL (ndsA g 0 [] ts)))
theorem beq_nat (a b:Nat):((((a:Nat):Int)) == ((b:Nat):Int))=decide (a=b):=by
  by_cases h:a=b
  · subst h;simp
  · rw[decide_eq_false h];exact beq_eq_false_iff_ne.mpr (by omega)
theorem base_tab {m:Nat} {b:Sp2} {st:Int} (hb:b.1 < m) (h0:0≤b.2) (h1:b.2≤st):TabOk m st (baseF m b):=⟨base_len,fun p x e=>by
  unfold baseF at e
  rw[gt_set (by rw[List.length_replicate];exact hb),gt_rep] at e
  split at e
  · cases e;exact⟨h0,h1⟩
  · cases e⟩
theorem enum_cons {ts:List Tb} {k:Nat} {x:PyData} {r:List PyData} (h:x::r=(enumD (tbsL ts)).drop k):k < ts.length∧x=.tuple [.int ((k:Nat):Int),.list (tabL (tbs ts k))]∧r=(enumD (tbsL ts)).drop (k + 1):=by
  have hl:(enumD (tbsL ts)).length=ts.length:=by unfold enumD;rw[List.length_map,List.length_zipIdx,tbs_len]
  have hk:k < (enumD (tbsL ts)).length:=by
    rcases Nat.lt_or_ge k (enumD (tbsL ts)).length with c | c
    · exact c
    · rw[List.drop_of_length_le c] at h;cases h
  rw[List.drop_eq_getElem_cons hk] at h
  injection h with h1 h2
  refine⟨by omega,?_,h2⟩
  obtain⟨y,e1,e2⟩:=enumD_get (List.getElem?_eq_getElem hk)
  unfold tbsL at e1
  rw[List.getElem?_map,tbs_at (by omega)] at e1
  cases e1
  rw[h1,e2]
theorem bools_map {α:Type} (f:α→Bool):∀xs:List α,boolsD (xs.map fun x=>PyData.bool (f x))=some (xs.map f)
  | []=>rfl
  | x::xs=>by
    show (boolsD (xs.map fun x=>PyData.bool (f x))).map (f x::·)=_
    rw[bools_map f xs];rfl
theorem any_map {α:Type} (f:α→Bool) (xs:List α):(xs.map f).any id=xs.any f:=by rw[List.any_map];rfl
theorem all_map' {α:Type} (f:α→Bool) (xs:List α):(xs.map f).all id=xs.all f:=by rw[List.all_map];rfl
theorem num_snoc (ns:List Nat) (k:Nat):numL (ns++[k])=numL ns++[.int ((k:Nat):Int)]:=by unfold numL;rw[List.map_append];rfl
theorem drop_tbs {ts:List Tb} {k:Nat} (h:k < ts.length):ts.drop k=tbs ts k::ts.drop (k + 1):=by
  rw[List.drop_eq_getElem_cons h]
  unfold tbs
  rw[List.getElem?_eq_getElem h]
  rfl
theorem nds_step {g:Sp2} {ts:List Tb} {k:Nat} {acc:List Nat} (h:k < ts.length):ndsA g k acc (ts.drop k)=ndsA g (k + 1) (if enF (tbs ts k) g=true∧(acc.any fun n=>isPt n k)=false then acc++[k] else acc) (ts.drop (k + 1)):=by
  rw[drop_tbs h];rfl
section
variable {P:Program} {w:World} {K:PySem.W.Frag} {mg:Str→Option Value} {base:Heap}
theorem ok_base_at (T:Txt K mg):FnOk P w K mg base CX0 1 T.f_base_at.a T.f_base_at.d ["many", "spot"] (spD [.sh,.sh] spBaseD):=by
  refine fn_d T.f_base_at.F sc_base_at rfl (fun C cdv A outer s H E hr=>⟨_,(@dss_cons _ _ _ _ _ _ (ds_own (ps_set (i:=2) sc_base_at.nd rfl (Or.inl rfl) (pf_rep (pd_f (pf_lst (dv_cons pd_non dv_nil se_Constant))) (pd_var (pv 0))))) (dss_cons (ds_setI (ps_asg (pd_ixv (pv 1) (pd_gi (pe_glob (v:=V.int 1) rfl T.mg_LEVEL ⟨_,rfl⟩)) (fun _ _=>rfl)) (pg_sub (pv 2) (pd_ixv (pv 1) (pd_gi (pe_glob (v:=V.int 0) rfl T.mg_PLACE_spots ⟨_,rfl⟩)) (fun _ _=>rfl)) set_list)))
      (dss_one (ds_ret (pd_var (pv 2)))))),fun ds Q hl h=>?_⟩)
  obtain⟨m,b,rfl,hb,hm,q⟩:=h
  decreasing_trivial
  refine⟨by decide,⟨by omega,by omega,by decide⟩,?_⟩
  rw[show ((m:Nat):Int).toNat=m by simp,rep_tab]
  decreasing_trivial
  rw[ixN_nat (by rw[len_tab,List.length_replicate];exact hb)]
  decreasing_trivial
  rw[show PyData.int b.2=oD (some b.2) from rfl,set_tab]
  exact q
theorem ok_has_enough (T:Txt K mg):FnOk P w K mg base CX0 1 T.f_has_enough.a T.f_has_enough.d ["table", "goal"] (spD [.sh,.sh] spEnoughD):=by
  refine fn_d T.f_has_enough.F sc_has_enough rfl (fun C cdv A outer s H E hr=>⟨_,(@dss_cons _ _ _ _ _ _ (ds_set (ps_set (i:=2) sc_has_enough.nd rfl (Or.inl rfl) (pd_ixv (pv 0) (pd_ixv (pv 1) (pd_gi (pe_glob (v:=V.int 0) rfl T.mg_PLACE_spots ⟨_,rfl⟩)) (fun _ _=>rfl)) (fun _ _=>rfl)))) (dss_one (ds_ret (pd_and (pd_cmp op_notN ok_notN (pd_var (pv 2)) pd_non (nomark _)) (pd_one (pd_cmp op_ge ok_ge (pd_var (pv 2)) (pd_ixv (pv 1) (pd_gi (pe_glob (v:=V.int 1) rfl T.mg_LEVEL ⟨_,rfl⟩)) (fun _ _=>rfl)) (nomark _))))))),fun ds Q hl h=>?_⟩)
  obtain⟨t,g,rfl,hg,q⟩:=h
  unfold enF at q
  decreasing_trivial
  rw[tab_at hg]
  cases e:gt t g.1 with
  | none=>
    rw[e] at q
    decreasing_trivial
    exact q
  | some l=>
    rw[e] at q
    decreasing_trivial
    exact q
theorem ok_is_part (T:Txt K mg):FnOk P w K mg base CX0 1 T.f_is_part.a T.f_is_part.d ["one", "other"] (spD [.sh,.sh] spPart):=by
  refine fn_d T.f_is_part.F sc_is_part rfl (fun C cdv A outer s H E hr=>⟨_,(dss_one (ds_ret (pd_cmp (op_eqD (units_of hr)) ok_eq (pd_op op_and ok_and (pd_var (pv 0)) (pd_var (pv 1))) (pd_var (pv 0)) (nomark _)))),fun ds Q hl h=>?_⟩)
  obtain⟨a,b,rfl,q⟩:=h
  decreasing_tactic
  refine⟨rfl,rfl,min0 _ _,?_⟩
  rw[band_nat,eqv_int,beq_nat]
  exact q
theorem ok_needs_of (T:Txt K mg):FnOk P w K mg base CX0 10 T.f_needs_of.a T.f_needs_of.d ["land", "store", "springs", "walker"] (spDN [.sh,.sh,.sh,.sh] spNeeds):=by
  have G_base_at:=@ok_base_at P w K mg base T
  have b_base_at:=T.f_base_at.b
  have G_highest_by:=@ok_highest_by P w K mg base T
  have b_highest_by:=T.f_highest_by.b
  have G_has_enough:=@ok_has_enough P w K mg base T
  have b_has_enough:=T.f_has_enough.b
  have G_is_part:=@ok_is_part P w K mg base T
  have b_is_part:=T.f_is_part.b
  refine fn_dN T.f_needs_of.F sc_needs_of rfl (fun C cdv A outer s H E hr=>⟨_,(@dss_consG _ _ _ _ _ _ (ds_own (ps_set (i:=4) sc_needs_of.nd rfl (Or.inl rfl) (pf_lst dv_nil))) (@dss_consG _ _ _ _ _ _ (@ds_for _ _ _ _ _ _ (@ps_for _ _ _ _ _ _ _ _ PassesOwn.never rfl (@di_enum _ _ _ _ _ _ (@pi_enum _ _ _ _ _ _ _ _ rfl T.n_enumerate (@pa_cons _ _ _ _ _ (@pd_call _ _ _ _ _ _ _ (@pe_call _ _ _ _ _ _ _ _ _ _ _ _ _ _ _ _ G_highest_by (hr.mono (by decide)) rfl T.f_highest_by.m T.f_highest_by.F.kp b_highest_by .nil pass0 (@da_v _ _ _ _ _ _ (pd_var (pv 0)) (@da_v _ _ _ _ _ _ (pd_var (pv 1)) (@da_v _ _ _ _ _ _ (pd_var (pv 2)) (@da_v _ _ _ _ _ _ (pd_call (pe_call G_base_at (hr.mono (by decide)) rfl T.f_base_at.m T.f_base_at.F.kp b_base_at .nil pass0 (da_v (pd_ixv (pv 0) (pd_gi (pe_glob (v:=V.int 0) rfl T.mg_MANY ⟨_,rfl⟩)) (fun _ _=>rfl)) (da_v (pd_ixv (pv 3) (pd_gi (pe_glob (v:=V.int 0) rfl T.mg_BEGIN ⟨_,rfl⟩)) (fun _ _=>rfl)) da_nil se_Subscript) se_Subscript) (he:=se_Subscript) (hpl:=(np_cons se_Subscript np_nil)))) da_nil se_Call) se_Name) se_Name) se_Name) (by decide) se_Name ((np_cons se_Name (np_cons se_Name (np_cons se_Call np_nil)))))) pa_nil se_Call) (by rfl))) (dg_t2 (pg_tup (n:=2) rfl (pgs_cons (pg_name (i:=5) sc_needs_of.nd rfl (Or.inr rfl)) (pgs_cons (pg_name (i:=6) sc_needs_of.nd rfl (Or.inl rfl)) pgs_nil)))) (@dss_one _ _ _ _ (@ds_if _ _ _ _ _ _ _ _ _ (PW.pt (@pwd_and _ _ _ _ _ _ _ _ (pdt_val (pd_call (pe_call G_has_enough (hr.mono (by decide)) rfl T.f_has_enough.m T.f_has_enough.F.kp b_has_enough .nil pass0 (da_v (pd_var (pv 6)) (da_v (pd_ixv (pv 3) (pd_gi (pe_glob (v:=V.int 1) rfl T.mg_GOAL ⟨_,rfl⟩)) (fun _ _=>rfl)) da_nil se_Subscript) se_Name) (he:=se_Name) (hpl:=(np_cons se_Subscript np_nil))))) (@pwd_and1 _ _ _ _ _ (@pdt_not _ _ _ _ _ (@pdt_val _ _ _ _ (@pd_cb _ _ _ _ _ _ cb_any (@pe_callB _ _ _ _ _ _ _ _ _ (call_any rfl) rfl T.n_any bt_any (@dv_cons _ _ _ _ _ _ (@pd_f _ _ _ _ (@pf_compO _ _ _ _ _ _ _ (fun C=>(@pf_comp _ _ _ _ _ _ _ _ rfl (@pe_comp _ _ _ _ _ _ _ _ _ _ _ _ _ _ _ (CompSc.new (N:=["land", "store", "springs", "walker", "needs", "some", "table"]) (osc:=defScope s_needs_of) (by decide +kernel)) rfl (di_var (pv 4)) (fun _=>dts_nil) (fun _=>(pd_call (pe_call G_is_part (hr.mono (by decide)) rfl T.f_is_part.m T.f_is_part.F.kp b_is_part .nil pass0 (da_v (pd_var (pv 7)) (da_v (pd_var (pv 5)) da_nil se_Name) se_Name) (he:=se_Name) (hpl:=(np_cons se_Name np_nil))))) (by rfl) (by rfl) (by intro _;rfl)))))) dv_nil se_ListComp) (by decide) (by decide) se_ListComp np_nil)) (by intro _;rfl)))))) (dss_one (ds_app (ps_expr (pe_bm PySem.F.plainAttrs_list PySem.F.slot_list_append PySem.F.type_list_append mt_append (pv 4) (pa_cons (pd_var (pv 5)) pa_nil se_Name))))) dss_nil)) (by intro _;rfl))) (dss_one (ds_ret2 (pv 4))))),fun ds Q hl h=>?_⟩)
  obtain⟨m,ws,st,sp,b,g,rfl,ok,s0,s1,so,hb,hg,b0,b1,q⟩:=h
  have m2:=ok.m2
  have sf:=so.few
  have p16:=pw4 sp.length (by omega)
  decreasing_tactic
  refine⟨by decide,?_⟩
  refine go ?_;array_mem_dec
  refine⟨m,b,rfl,hb,by omega,?_⟩
  array_get_dec
  refine⟨m,ws,st,sp,baseF m b,rfl,ok,s0,s1,so,base_tab hb b0 b1,fun ts hT=>?_⟩
  have tl:=hT.len
  array_get_dec
  refine⟨fun r ρ=>∃(k:Nat) (acc:List Nat) (z5 z6:Sl),r=(enumD (tbsL ts)).drop k∧ρ=[Sl.sh (landD m ws),Sl.sh (.int st),Sl.sh (.list (sp.map sprD)),Sl.sh (.tuple [spotD b,spotD g]),Sl.ow (numL acc),z5,z6]∧ndsA g k acc (ts.drop k)=ndsA g 0 [] ts∧NdO k acc∧k≤ts.length∧acc.length≤k,⟨0,[],_,_,rfl,rfl,rfl,⟨fun n hn=>(nomatch hn),List.Pairwise.nil⟩,Nat.zero_le _,Nat.le_refl _⟩,?_,?_⟩
  · rintro x r ρ ⟨k,acc,z5,z6,h1,rfl,hN,hO,hk,hal⟩
    obtain⟨hk',rfl,rfl⟩:=enum_cons h1
    rw[nds_step hk'] at hN
    have tlen:=(hT.lid.tab _ (mem_tbs hk')).len
    sizeOf_list_dec
    refine⟨tbs ts k,g,rfl,by rw[tlen];exact hg,?_⟩
    cases e1:enF (tbs ts k) g with
    | false=>
      rw[e1,if_neg (fun z=>by cases z.1)] at hN
      decreasing_tactic
      exact⟨k + 1,acc,_,_,rfl,rfl,hN,hO.keep,hk',by omega⟩
    | true=>
      decreasing_tactic
      unfold dCompO
      decreasing_tactic
      refine⟨⟨rfl,rfl,by rw[len_num];omega⟩,?_⟩
      rw[show numL acc=acc.map fun n=>PyData.int ((n:Nat):Int) from rfl]
      refine compM (f:=fun n=>.bool (isPt n k)) (fun n hn Q' q'=>?_) ?_
      · decreasing_tactic
        exact⟨n,k,rfl,q'⟩
      rw[List.nil_append]
      try unfold gBs
      decreasing_tactic
      rw[bools_map]
      decreasing_tactic
      rw[any_map]
      cases e2:acc.any (fun n=>isPt n k) with
      | true=>
        rw[e2,if_neg (fun z=>by cases z.2)] at hN
        exact iteF ⟨k + 1,acc,_,_,rfl,rfl,hN,hO.keep,hk',by omega⟩
      | false=>
        rw[e1,e2,if_pos ⟨rfl,rfl⟩] at hN
        refine iteT ?_
        decreasing_tactic
        refine⟨by rw[List.length_map];omega,k + 1,acc++[k],Sl.sh (.int ((k:Nat):Int)),Sl.sh (.list (tabL (tbs ts k))),rfl,?_,hN,hO.put e2,hk',by rw[List.length_append,List.length_singleton];omega⟩
        rw[num_snoc]
        rfl
  · rintro ρ ⟨k,acc,z5,z6,h1,rfl,hN,hO,hk,hal⟩
    have:k=ts.length:=by
      have:=congrArg List.length h1
      unfold enumD at this
      rw[List.length_drop,List.length_map,List.length_zipIdx,tbs_len] at this
      have this:0=ts.length - k:=this
      omega
    subst this
    rw[List.drop_of_length_le (Nat.le_refl _)] at hN
    have hN:acc=ndsA g 0 [] ts:=hN
    refine go ?_;decreasing_tactic
    rw[hN]
    exact q ts hT
end
theorem spr_en {m:Nat} {ws:List Wy} {S:Int} {sp:List Sp2} {b:Tb} {ts:List Tb} (ok:LandOk m ws) (h0:0≤S) (hb:TabOk m S b) (so:SprOk m sp) (h:SprT m ws S sp b ts) (g:Sp2) {s:Nat} (hs:s < ts.length):enF (tbs ts s) g=true↔∃x,RcS ws S sp b (g.1,x,s)∧g.2≤x:=by
  unfold enF
  cases e:gt (tbs ts s) g.1 with
  | none=>
    refine⟨fun z=>(nomatch z),fun ⟨x,hx,_⟩=>?_⟩
    have:=rcs_spr ok h0 hb so h hx
    rw[show gt (tbs ts (g.1,x,s).2.2) (g.1,x,s).1=none from e] at this
    exact absurd this leO_sn
  | some l=>
    refine⟨fun z=>⟨l,spr_rcs ok h0 hb so h s hs g.1 l e,of_decide_eq_true z⟩,fun ⟨x,hx,hl⟩=>?_⟩
    have:=rcs_spr ok h0 hb so h hx
    rw[show gt (tbs ts (g.1,x,s).2.2) (g.1,x,s).1=some l from e] at this
    exact decide_eq_true (Int.le_trans hl (leO_some.mp this))
def ndP (acc:List Nat) (s:Nat):List Nat:=if (acc.any fun n=>isPt n s)=true then acc else acc++[s]
theorem pt_self (s:Nat):isPt s s=true:=decide_eq_true (Nat.and_self s)
theorem ndP_two (acc:List Nat) (s:Nat):ndP (ndP acc s) s=ndP acc s:=by
  by_cases c:(acc.any fun n=>isPt n s)=true
  · have e:ndP acc s=acc:=if_pos c
    rw[e,e]
  · have e:ndP acc s=acc++[s]:=if_neg c
    rw[e]
    exact if_pos (by rw[List.any_append,show ([s].any fun n=>isPt n s)=true by simp [pt_self],Bool.or_true])
theorem ndP_rep (s:Nat):∀(n:Nat) (acc:List Nat),(List.replicate (n + 1) s).foldl ndP acc=ndP acc s
  | 0,acc=>rfl
  | n + 1,acc=>by
    rw[List.replicate_succ,List.foldl_cons,ndP_rep s n,ndP_two]
theorem srt_cut:∀{T:List Nat} (k:Nat),T.Pairwise (·≤·)→T.filter (fun s=>decide (k≤s))=T.filter (fun s=>decide (s=k))++T.filter (fun s=>decide (k + 1≤s))
  | [],_,_=>rfl
  | a::T,k,h=>by
    obtain⟨h1,h2⟩:=List.pairwise_cons.mp h
    have ih:=srt_cut k h2
    rcases Nat.lt_trichotomy a k with c | c | c
    · rw[List.filter_cons_of_neg (by simp;omega),List.filter_cons_of_neg (by simp;omega),List.filter_cons_of_neg (by simp;omega),ih]
    · rw[List.filter_cons_of_pos (by simp;omega),List.filter_cons_of_pos (by simp;omega),List.filter_cons_of_neg (by simp;omega),ih,List.cons_append]
    · have e:T.filter (fun s=>decide (s=k))=[]:=List.filter_eq_nil_iff.mpr fun x hx=>by have:=h1 x hx;simp;omega
      rw[List.filter_cons_of_pos (by simp;omega),List.filter_cons_of_neg (by simp;omega),List.filter_cons_of_pos (by simp;omega),ih,e,List.nil_append,List.nil_append]
theorem all_rep {k:Nat}:∀{l:List Nat},(∀x∈l,x=k)→l=List.replicate l.length k
  | [],_=>rfl
  | a::l,h=>by
    rw[List.length_cons,List.replicate_succ,←all_rep fun x hx=>h x (List.mem_cons_of_mem _ hx),h a List.mem_cons_self]
theorem nds_fold {g:Sp2} {ts:List Tb} {T:List Nat} (hT:T.Pairwise (·≤·)) (hm:∀s,s∈T↔s < ts.length∧enF (tbs ts s) g=true):∀(n k:Nat) (acc:List Nat),k + n=ts.length→ndsA g k acc (ts.drop k)=(T.filter fun s=>decide (k≤s)).foldl ndP acc
  | 0,k,acc,h=>by
    have e:T.filter (fun s=>decide (k≤s))=[]:=List.filter_eq_nil_iff.mpr fun x hx=>by have:=((hm x).mp hx).1;simp;omega
    rw[List.drop_of_length_le (by omega),e];rfl
  | n + 1,k,acc,h=>by
    rw[nds_step (by omega),srt_cut k hT,List.foldl_append]
    have ih:=fun acc=>nds_fold hT hm n (k + 1) acc (by omega)
    rw[ih]
    congr 1
    have hall:∀x∈T.filter (fun s=>decide (s=k)),x=k:=fun x hx=>by simpa using (List.mem_filter.mp hx).2
    rw[all_rep hall]
    cases el:(T.filter fun s=>decide (s=k)).length with
    | zero=>
      have hn:¬ enF (tbs ts k) g=true:=fun z=>by
        have:k∈T.filter (fun s=>decide (s=k)):=List.mem_filter.mpr ⟨(hm k).mpr ⟨by omega,z⟩,by simp⟩
        rw[List.length_eq_zero_iff.mp el] at this
        cases this
      rw[if_neg fun z=>hn z.1];rfl
    | succ j=>
      have hy:enF (tbs ts k) g=true:=by
        have:(T.filter fun s=>decide (s=k))≠[]:=fun z=>by rw[z] at el;cases el
        obtain⟨x,hx⟩:=List.exists_mem_of_ne_nil _ this
        have e:=hall x hx
        subst e
        exact ((hm x).mp (List.mem_filter.mp hx).1).2
      rw[ndP_rep]
      unfold ndP
      cases ea:acc.any fun n=>isPt n k with
      | true=>rw[if_neg (fun z=>by cases z.2),if_pos rfl]
      | false=>rw[if_pos ⟨hy,rfl⟩,if_neg Bool.false_ne_true]
theorem nds_all {g:Sp2} {ts:List Tb} {T:List Nat} (hT:T.Pairwise (·≤·)) (hm:∀s,s∈T↔s < ts.length∧enF (tbs ts s) g=true):T.foldl ndP []=ndsA g 0 [] ts:=by
  have:=nds_fold hT hm ts.length 0 [] (by omega)
  rw[List.drop_zero] at this
  rw[this,List.filter_eq_self.mpr fun x _=>by simp]
def thrS (fd:List Sp3) (g:Sp2):List Nat:=(fd.filter fun r=>r.1 == g.1&&decide (g.2≤r.2.1)).map fun r=>r.2.2
def spNeedsL:DSp:=fun ds Q=>∃(m:Nat) (ws:List Wy) (S:Int) (sp:List Sp2) (b g:Sp2),ds=[landD m ws,.int S,.list (sp.map sprD),.tuple [spotD b,spotD g]]∧LandOk m ws∧0≤S∧2 ^ sp.length * (m * (S.toNat + 1))≤900∧SprOk m sp∧b.1 < m∧0≤b.2∧b.2≤S∧∀T:List Nat,T.Pairwise (·≤·)→(∀s,s∈T↔∃x,RcS ws S sp (baseF m b) (g.1,x,s)∧g.2≤x)→Q (.list (numL (T.foldl ndP [])))
theorem tab_range {t:Tb} {m:Nat} (h:t.length=m):[]++(List.range m).map (fun k=>oD (gt t k))=tabL t:=by
  rw[List.nil_append]
  unfold tabL
  refine List.ext_getElem? fun k=>?_
  rw[List.getElem?_map,List.getElem?_map]
  rcases Nat.lt_or_ge k m with z | z
  · rw[List.getElem?_range z,gt_at (by omega)];rfl
  · rw[List.getElem?_eq_none (by rw[List.length_range];exact z),List.getElem?_eq_none (by omega)];rfl
theorem thr_mem {fd:List Sp3} {g:Sp2} {s:Nat}:s∈thrS fd g↔∃x,(g.1,x,s)∈fd∧g.2≤x:=by
  unfold thrS
  rw[List.mem_map]
  constructor
  · rintro ⟨r,hr,rfl⟩
    obtain⟨h1,h2⟩:=List.mem_filter.mp hr
    obtain⟨h3,h4⟩:=Bool.and_eq_true_iff.mp h2
    have e:r.1=g.1:=by simpa using h3
    refine⟨r.2.1,?_,of_decide_eq_true h4⟩
    rw[←e];exact h1
  · rintro ⟨x,h1,h2⟩
    exact⟨(g.1,x,s),List.mem_filter.mpr ⟨h1,by simp [h2]⟩,rfl⟩
theorem nat_ints {ns:List Nat} {ms:List Int} (h:ms.Perm (ns.map fun n=>((n:Nat):Int))) (hs:ms.Pairwise (·≤·)):∃T:List Nat,ms.map PyData.int=numL T∧T.Perm ns∧T.Pairwise (·≤·):=by
  have hn:∀x∈ms,0≤x:=fun x hx=>by
    obtain⟨n,_,rfl⟩:=List.mem_map.mp (h.mem_iff.mp hx)
    exact Int.natCast_nonneg n
  refine⟨ms.map Int.toNat,?_,?_,?_⟩
  · unfold numL
    rw[List.map_map]
    exact List.map_congr_left fun x hx=>by show PyData.int x=PyData.int ((x.toNat:Nat):Int);rw[Int.toNat_of_nonneg (hn x hx)]
  · have:=h.map Int.toNat
    rw[List.map_map] at this
    refine this.trans (List.Perm.of_eq ?_)
    conv=>rhs;rw[←List.map_id ns]
    exact List.map_congr_left fun x _=>by simp
  · rw[List.pairwise_map]
    exact hs.imp fun {a b} hab=>by omega
theorem all_not {acc:List Nat} {k:Nat}:(acc.all fun n=>!isPt n k)=!(acc.any fun n=>isPt n k):=by
  induction acc with
  | nil=>rfl
  | cons a l ih=>rw[List.all_cons,List.any_cons,ih,Bool.not_or]
section
variable {P:Program} {w:World} {K:PySem.W.Frag} {mg:Str→Option Value} {base:Heap}
theorem ok_needs (T:Txt K mg):FnOk P w K mg base CX0 3 T.f_needs.a T.f_needs.d ["_law_land_here", "_law_store", "_law_springs_here", "_law_walker_here"] (spD [.sh,.sh,.sh,.sh] spNeedsL):=by
  have G_by_sets:=@ok_by_sets P w K mg base T
  have b_by_sets:=T.f_by_sets.b
  refine fn_d T.f_needs.F sc_needs rfl (fun C cdv A outer s H E hr=>⟨_,(@dss_consG _ _ _ _ _ _ (ds_asg (ps_asg (pd_var (pv 3)) (dg_t2 (pg_tup (n:=2) rfl (pgs_cons (pg_name (i:=4) sc_needs.nd rfl (Or.inr rfl)) (pgs_cons (pg_name (i:=5) sc_needs.nd rfl (Or.inr rfl)) pgs_nil)))))) (@dss_consG _ _ _ _ _ _ (@ds_setC _ _ _ _ _ _ _ _ _ rfl (@ps_setC _ _ _ _ _ _ _ _ _ _ _ _ _ 6 _ _ _ _ _ sc_needs.nd rfl (Or.inl rfl) (CompSc.new (N:=["_law_land_here", "_law_store", "_law_springs_here", "_law_walker_here", "_law_begin", "_law_goal", "_law_base", "_law_found", "_law_through", "_law_needs_here", "_law_some"]) (osc:=defScope s_needs) (by decide +kernel)) rfl (di_rng1 (pi_range1 rfl T.n_range (dv_cons (pd_ixv (pv 0) pd_int (fun _ _=>rfl)) dv_nil se_Subscript))) (fun _=>dts_nil) (fun _=>(pd_ix (pd_f (pf_lst (dv_cons pd_non (dv_cons (pd_ixv (pv 4) pd_int (fun _ _=>rfl)) dv_nil se_Subscript) se_Constant))) (pd_cb cb_int (pe_callTy call_int1 rfl T.n_int bt_int (dv_cons (pd_cmp (op_eqD (units_of hr)) ok_eq (pd_var (pv 11)) (pd_ixv (pv 4) pd_int (fun _ _=>rfl)) (nomark _)) dv_nil se_Compare) (he:=se_Compare) (hpl:=np_nil))) (fun _ _=>rfl))) (by rfl) (by first | exact .inl rfl | exact .inr rfl | assumption) (by rfl) (by rfl) (by intro _;rfl))) (@dss_consG _ _ _ _ _ _ (ds_set (ps_set (i:=7) sc_needs.nd rfl (Or.inl rfl) (pd_callD (pe_call G_by_sets (hr.mono (by decide)) rfl T.f_by_sets.m T.f_by_sets.F.kp b_by_sets .nil pass0 (da_v (pd_var (pv 0)) (da_v (pd_var (pv 1)) (da_v (pd_var (pv 2)) (da_v (pd_var (pv 6)) da_nil se_Name) se_Name) se_Name) se_Name) (he:=se_Name) (hpl:=(np_cons se_Name (np_cons se_Name (np_cons se_Name np_nil)))))))) (@dss_consG _ _ _ _ _ _ (@ds_set _ _ _ _ _ (@ps_set _ _ 8 _ _ _ _ sc_needs.nd rfl (Or.inl rfl) (@pd_f _ _ _ _ (pf_sortL (@pe_callB _ _ _ _ _ _ _ _ _ (call_sortedL rfl) rfl T.n_sorted bt_sorted (@pa_cons _ _ _ _ _ (@pd_f _ _ _ _ (@pf_comp _ _ _ _ _ _ _ _ rfl (@pe_comp _ _ _ _ _ _ _ _ _ _ _ _ _ _ _ (CompSc.new (N:=["_law_land_here", "_law_store", "_law_springs_here", "_law_walker_here", "_law_begin", "_law_goal", "_law_base", "_law_found", "_law_through", "_law_needs_here", "_law_some"]) (osc:=defScope s_needs) (by decide +kernel)) rfl (di_ddat (pd_var (pv 7))) (fun _=>(pts_one (PW.pt (pwd_and (pdt_cmp (op_eqD (units_of hr)) ok_eq (pd_ixv (pv 11) pd_int (fun _ _=>rfl)) (pd_ixv (pv 5) pd_int (fun _ _=>rfl)) (nomark _)) (pwd_and1 (pdt_cmp op_ge ok_ge (pd_ixv (pv 11) pd_int (fun _ _=>rfl)) (pd_ixv (pv 5) pd_int (fun _ _=>rfl)) (nomark _))))))) (fun _=>(pd_ixv (pv 11) pd_int (fun _ _=>rfl))) (by rfl) (by rfl) (by intro _;rfl)))) pa_nil se_ListComp) (by decide) (by decide) se_ListComp np_nil))) (by rfl) (by first | exact .inl rfl | exact .inr rfl | assumption))) (@dss_consG _ _ _ _ _ _ (ds_own (ps_set (i:=9) sc_needs.nd rfl (Or.inl rfl) (pf_lst dv_nil))) (@dss_consG _ _ _ _ _ _ (@ds_mid _ _ _ _ (@ds_for _ _ _ _ _ _ (@ps_for _ _ _ _ _ _ _ _ PassesOwn.never rfl (di_var (pv 8)) (dg_name (pg_name (i:=10) sc_needs.nd rfl (Or.inr rfl))) (@dss_one _ _ _ _ (@ds_if _ _ _ _ _ _ _ _ _ (@pdt_val _ _ _ _ (@pd_cb _ _ _ _ _ _ cb_all (@pe_callB _ _ _ _ _ _ _ _ _ (call_all rfl) rfl T.n_all bt_all (@dv_cons _ _ _ _ _ _ (@pd_f _ _ _ _ (@pf_compO _ _ _ _ _ _ _ (fun C=>(@pf_comp _ _ _ _ _ _ _ _ rfl (@pe_comp _ _ _ _ _ _ _ _ _ _ _ _ _ _ _ (CompSc.new (N:=["_law_land_here", "_law_store", "_law_springs_here", "_law_walker_here", "_law_begin", "_law_goal", "_law_base", "_law_found", "_law_through", "_law_needs_here", "_law_some"]) (osc:=defScope s_needs) (by decide +kernel)) rfl (di_var (pv 9)) (fun _=>dts_nil) (fun _=>(pd_cmp (op_neD (units_of hr)) ok_eq (pd_var (pv 11)) (pd_op op_and ok_and (pd_var (pv 11)) (pd_var (pv 10))) (nomark _))) (by rfl) (by rfl) (by intro _;rfl)))))) dv_nil se_ListComp) (by decide) (by decide) se_ListComp np_nil)) (by intro _;rfl)) (dss_one (ds_app (ps_expr (pe_bm PySem.F.plainAttrs_list PySem.F.slot_list_append PySem.F.type_list_append mt_append (pv 9) (pa_cons (pd_var (pv 10)) pa_nil se_Name))))) dss_nil)) (by intro _;rfl)))) (dss_one (ds_ret (pd_var (pv 9)))))))))),fun ds Q hl h=>?_⟩)
  obtain⟨m,ws,S,sp,b,g,rfl,ok,h0,hN,so,hb,b0,b1,q⟩:=h
  have m1:=ok.m1
  have m2:=ok.m2
  decreasing_tactic
  refine go ?_;array_mem_dec
  refine⟨⟨by omega,by omega⟩,⟨rfl,by unfold rngD;rw[List.length_map,List.length_range];omega⟩,?_⟩
  rw[show ((m:Nat):Int).toNat=m by simp,rng0 m]
  refine compM (f:=fun k:Nat=>oD (gt (baseF m b) k)) (fun k hk Q' q'=>?_) ?_
  · have hk:=List.mem_range.mp hk
    have gb:gt (baseF m b) k=if b.1=k then some b.2 else none:=by
      unfold baseF
      rw[gt_set (by rw[List.length_replicate];exact hb),gt_rep]
    rw[gb] at q'
    decreasing_tactic
    refine⟨by decide,rfl,rfl,min0 _ _,?_⟩
    rw[eqv_int,beq_nat]
    by_cases c:k=b.1
    · rw[decide_eq_true c]
      rw[if_pos c.symm] at q'
      exact q'
    · rw[decide_eq_false c]
      rw[if_neg (fun z=>c z.symm)] at q'
      exact q'
  rw[tab_range base_len]
  refine go ?_;decreasing_tactic
  refine⟨m,ws,S,sp,baseF m b,rfl,ok,h0,hN,so,base_tab hb b0 b1,fun fd hfd nd=>?_⟩
  have fl:fd.length≤900:=Nat.le_trans (WkS.few ok h0 (base_tab hb b0 b1) so nd fun s hs=>(hfd s).mp hs) hN
  refine go ?_;array_mem_dec
  refine⟨fd.map k3,rfl,⟨rfl,by rw[List.length_map,List.length_map];omega⟩,?_⟩
  rw[List.map_map,show keyT ∘ k3=s3D from rfl]
  refine compF (p:=fun r:Sp3=>r.1 == g.1&&decide (g.2≤r.2.1)) (f:=fun r=>.int ((r.2.2:Nat):Int)) (fun r hr Q' q2=>?_) (fun r hr e Q' q2=>?_) ?_
  · try dsimp only[s3D]
    decreasing_tactic
    refine⟨rfl,rfl,min0 _ _,?_⟩
    rw[eqv_int,beq_nat]
    by_cases c:r.1=g.1
    · rw[decide_eq_true c]
      rw[show (r.1 == g.1)=true from beq_iff_eq.mpr c,Bool.true_and] at q2
      exact q2
    · rw[decide_eq_false c]
      rw[show (r.1 == g.1)=false from beq_eq_false_iff_ne.mpr c,Bool.false_and] at q2
      exact q2
  · try dsimp only[s3D]
    decreasing_tactic
    exact q2
  rw[List.nil_append]
  refine⟨(thrS fd g).map fun n=>((n:Nat):Int),?_,?_,fun ms p1 p2=>?_⟩
  · unfold thrS
    rw[List.map_map,List.map_map];rfl
  · rw[List.length_map]
    unfold thrS
    rw[List.length_map]
    exact Nat.le_trans (List.length_filter_le _ _) (by omega)
  obtain⟨T,eT,pT,sT⟩:=nat_ints p1 p2
  rw[eT]
  have hq:=q T sT fun s=>by
    rw[pT.mem_iff,thr_mem]
    exact⟨fun ⟨x,a,b⟩=>⟨x,(hfd _).mp a,b⟩,fun ⟨x,a,b⟩=>⟨x,(hfd _).mpr a,b⟩⟩
  have lT:T.length≤900:=by
    rw[pT.length_eq]
    unfold thrS
    rw[List.length_map]
    exact Nat.le_trans (List.length_filter_le _ _) fl
  refine go ?_;decreasing_tactic
  refine⟨by decide,?_⟩
  refine go ?_
  (try unfold dSeqG);(try unfold dMid)
  refine⟨fun ρ'=>∃z10:Sl,ρ'=[Sl.sh (landD m ws),Sl.sh (.int S),Sl.sh (.list (sp.map sprD)),Sl.sh (.tuple [spotD b,spotD g]),Sl.sh (spotD b),Sl.sh (spotD g),Sl.sh (.list (tabL (baseF m b))),Sl.sh (fdD (fd.map k3)),Sl.sh (.list (numL T)),Sl.ow (numL (T.foldl ndP [])),z10],?_,?_⟩
  · array_mem_dec
    refine⟨fun r ρ=>∃(R acc:List Nat) (z10:Sl),r=numL R∧ρ=[Sl.sh (landD m ws),Sl.sh (.int S),Sl.sh (.list (sp.map sprD)),Sl.sh (.tuple [spotD b,spotD g]),Sl.sh (spotD b),Sl.sh (spotD g),Sl.sh (.list (tabL (baseF m b))),Sl.sh (fdD (fd.map k3)),Sl.sh (.list (numL T)),Sl.ow (numL acc),z10]∧R.foldl ndP acc=T.foldl ndP []∧acc.length + R.length≤900,⟨T,[],_,rfl,rfl,rfl,by rw[List.length_nil];omega⟩,?_,?_⟩
    · rintro x r ρ ⟨R,acc,z10,h1,rfl,hR,hl2⟩
      cases R with
      | nil=>cases h1
      | cons k R=>
        cases (show x::r=PyData.int ((k:Nat):Int)::numL R from h1)
        rw[List.length_cons] at hl2
        rw[List.foldl_cons] at hR
        sizeOf_list_dec
        unfold dCompO
        decreasing_tactic
        refine⟨⟨rfl,rfl,by rw[len_num];omega⟩,?_⟩
        rw[show numL acc=acc.map fun n=>PyData.int ((n:Nat):Int) from rfl]
        refine compM (f:=fun n=>.bool (!isPt n k)) (fun n hn Q' q'=>?_) ?_
        · decreasing_tactic
          refine⟨rfl,rfl,min0 _ _,?_⟩
          rw[band_nat,eqv_int,beq_nat,show decide (n=n &&&k)=isPt n k from decide_eq_decide.mpr ⟨fun z=>z.symm,fun z=>z.symm⟩]
          exact q'
        rw[List.nil_append]
        try unfold gBs
        decreasing_tactic
        rw[bools_map]
        decreasing_tactic
        rw[all_map',all_not]
        cases e2:acc.any (fun n=>isPt n k) with
        | true=>
          rw[show ndP acc k=acc from if_pos e2] at hR
          exact iteF ⟨R,acc,_,rfl,rfl,hR,by omega⟩
        | false=>
          rw[show ndP acc k=acc++[k] from if_neg (by rw[e2];exact Bool.false_ne_true)] at hR
          refine iteT ?_
          decreasing_tactic
          refine⟨by rw[List.length_map];omega,R,acc++[k],Sl.sh (.int ((k:Nat):Int)),rfl,?_,hR,by rw[List.length_append,List.length_singleton];omega⟩
          rw[num_snoc]
          rfl
    · rintro ρ ⟨R,acc,z10,h1,rfl,hR,hl2⟩
      cases R with
      | cons k R=>cases h1
      | nil=>
        have hR:acc=T.foldl ndP []:=hR
        subst hR
        exact⟨_,rfl⟩
  rintro ρ ⟨z10,rfl⟩
  try dsimp only
  refine go ?_;decreasing_tactic
  exact hq
end
def spLaw (K:PySem.W.Frag):Sp:=fun vs H Q _=>∃(a:Addr) (ns:List Int),vs=[.ref a]∧SqL K H a (ns.map V.int)∧ns.length≤63∧∀H',Q (.bl true) H'
theorem bnd_pick {P:PyData→Prop} {xs:List PyData} {u:Int} {Q:PyData→Prop} (h:∃d,atI xs u=some d∧P d) (k:∀d,P d→Q d):bnd (atI xs u) Q:=by
  obtain⟨d,e,p⟩:=h
  rw[e]
  exact k d p
theorem LayN.spr (q:Sp2):LayN 1 (sprD q):=LayN.tup (LayN.two (.int _) (.int _))
theorem LayN.sprs (sp:List Sp2):LayN 2 (.list (sp.map sprD)):=LayN.lst fun d hd=>by
  obtain⟨q,_,rfl⟩:=List.mem_map.mp hd
  exact .spr q
theorem LayN.numL (ns:List Nat):LayN 1 (.list (numL ns)):=LayN.lst fun d hd=>by
  obtain⟨n,_,rfl⟩:=List.mem_map.mp hd
  exact⟨rfl,Nat.zero_le _⟩
def spWalker:DSp:=fun ds Q=>∃(d:PyData) (m:Nat) (st:Int),ds=[d,.int (m:Nat),.int st]∧1≤m∧m≤12∧0≤st∧st≤100000000000000000000∧∀b g:Sp2,b.1 < m→g.1 < m→0≤b.2→b.2≤st→Q (.tuple [spotD b,spotD g])
def spAreN:DSp:=fun ds Q=>∃ns:List Nat,ds=[.list (numL ns)]∧ns.length≤900∧Q (.bool true)
section
variable {P:Program} {w:World} {K:PySem.W.Frag} {mg:Str→Option Value} {base:Heap}
theorem ok_law_is_whole (T:Txt K mg):FnOk P w K mg base CX0 1 T.f_law_is_whole.a T.f_law_is_whole.d ["_law_thing"] (spD [.sh] spWholeD):=by
  refine fn_d T.f_law_is_whole.F sc_law_is_whole rfl (fun C cdv A outer s H E hr=>⟨_,(@dss_one _ _ _ _ (@ds_ret _ _ _ _ _ (@pd_and _ _ _ _ _ _ _ _ (pd_isiv ty_int (pe_callB call_isinst2 rfl T.n_isinstance bt_isinstance (pa_cons (pv 0) (pa_cons (pe_bltn (v:=V.ty "int") rfl T.n_int bt_int rfl) pa_nil se_Name) se_Name) (he:=se_Name) (hpl:=(np_cons se_Name np_nil)))) (pd_one (pd_not (pd_isiv ty_bool (pe_callB call_isinst2 rfl T.n_isinstance bt_isinstance (pa_cons (pv 0) (pa_cons (pe_bltn (v:=V.ty "bool") rfl T.n_bool bt_bool rfl) pa_nil se_Name) se_Name) (he:=se_Name) (hpl:=(np_cons se_Name np_nil))))))))),fun ds Q hl h=>?_⟩)
  obtain⟨d,rfl,q⟩:=h
  decreasing_tactic
  unfold wholeD at q
  cases d <;> exact q
theorem ok_are_needs (T:Txt K mg):FnOk P w K mg base CX0 2 T.f_are_needs.a T.f_are_needs.d ["_law_thing"] (spD [.bo] spAreN):=by
  have G_law_is_whole:=@ok_law_is_whole P w K mg base T
  have b_law_is_whole:=T.f_law_is_whole.b
  refine fn_d T.f_are_needs.F sc_are_needs rfl (fun C cdv A outer s H E hr=>⟨_,(@dss_one _ _ _ _ (@ds_ret _ _ _ _ _ (@pd_and _ _ _ _ _ _ _ _ (pd_isiv ty_list (pe_callB call_isinst2 rfl T.n_isinstance bt_isinstance (pa_cons (pv 0) (pa_cons (pe_bltn (v:=V.ty "list") rfl T.n_list bt_list rfl) pa_nil se_Name) se_Name) (he:=se_Name) (hpl:=(np_cons se_Name np_nil)))) (@pd_one _ _ _ _ _ _ (@pd_cb _ _ _ _ _ _ cb_all (@pe_callB _ _ _ _ _ _ _ _ _ (call_all rfl) rfl T.n_all bt_all (dv_cons (pd_f (pf_comp rfl (pe_comp (CompSc.new (N:=["_law_thing"]) (osc:=defScope s_are_needs) (by decide +kernel)) rfl (di_var (pv 0)) (fun _=>dts_nil) (fun _=>(pd_call (pe_call G_law_is_whole (hr.mono (by decide)) rfl T.f_law_is_whole.m T.f_law_is_whole.F.kp b_law_is_whole .nil pass0 (da_v (pd_var (pv 1)) da_nil se_Name) (he:=se_Name) (hpl:=np_nil))))))) dv_nil se_ListComp) (by decide) (by decide) se_ListComp np_nil)))))),fun ds Q hl h=>?_⟩)
  obtain⟨ns,rfl,hn,q⟩:=h
  array_get_dec
  refine⟨⟨rfl,by rw[len_num];omega⟩,?_⟩
  rw[show numL ns=ns.map fun n=>PyData.int ((n:Nat):Int) from rfl]
  refine compM (f:=fun _=>.bool true) (fun n hn Q' q'=>?_) ?_
  · decreasing_tactic
    exact⟨_,rfl,q'⟩
  rw[List.nil_append]
  try unfold gBs
  decreasing_tactic
  rw[bools_map (fun _=>true)]
  decreasing_tactic
  rw[all_map',show (ns.all fun _=>true)=true from List.all_eq_true.mpr fun _ _=>rfl]
  exact q
theorem ok_walker (T:Txt K mg):FnOk P w K mg base CX0 4 T.f_walker.a T.f_walker.d ["_law_hand_here", "_law_many", "_law_store"] (spD [.hd,.sh,.sh] spWalker):=by
  have G_draw:=@ok_drawD P w K mg base T
  have b_draw:=T.f_draw.b
  refine fn_d T.f_walker.F sc_walker rfl (fun C cdv A outer s H E hr=>⟨_,(@dss_consG _ _ _ _ _ _ (ds_set (ps_set (i:=3) sc_walker.nd rfl (Or.inl rfl) (pd_cb cb_min (pe_callB (call_min2 rfl) rfl T.n_min bt_min (dv_cons (pd_var (pv 2)) (dv_cons (pd_op op_pow ok_pow pd_int pd_int) dv_nil se_BinOp) se_Name) (he:=se_Name) (hpl:=(np_cons se_BinOp np_nil)))))) (@dss_consG _ _ _ _ _ _ (@ds_set _ _ _ _ _ (@ps_set _ _ 4 _ _ _ _ sc_walker.nd rfl (Or.inl rfl) (@pd_tup _ _ _ _ _ _ (@dv_cons _ _ _ _ _ _ (pd_call (pe_call G_draw (hr.mono (by decide)) rfl T.f_draw.m T.f_draw.F.kp b_draw .nil pass0 (da_s (pv 0) (da_v (pd_var (pv 1)) da_nil se_Name) se_Name) (he:=se_Name) (hpl:=(np_cons se_Name np_nil)))) (@dv_cons _ _ _ _ _ _ (@pd_ix _ _ _ _ _ _ _ (pd_f (pf_lst (dv_cons pd_int (dv_cons (pd_call (pe_call G_draw (hr.mono (by decide)) rfl T.f_draw.m T.f_draw.F.kp b_draw .nil pass0 (da_s (pv 0) (da_v (pd_op op_add ok_add (pd_var (pv 3)) pd_int) da_nil se_BinOp) se_Name) (he:=se_Name) (hpl:=(np_cons se_BinOp np_nil)))) dv_nil se_Call) se_Constant))) (pd_call (pe_call G_draw (hr.mono (by decide)) rfl T.f_draw.m T.f_draw.F.kp b_draw .nil pass0 (da_s (pv 0) (da_v pd_int da_nil se_Constant) se_Name) (he:=se_Name) (hpl:=(np_cons se_Constant np_nil)))) (fun _ _=>rfl)) dv_nil se_Subscript) se_Call)) (by rfl) (by first | exact .inl rfl | exact .inr rfl | assumption))) (@dss_consG _ _ _ _ _ _ (@ds_set _ _ _ _ _ (@ps_set _ _ 5 _ _ _ _ sc_walker.nd rfl (Or.inl rfl) (@pd_tup _ _ _ _ _ _ (@dv_cons _ _ _ _ _ _ (pd_call (pe_call G_draw (hr.mono (by decide)) rfl T.f_draw.m T.f_draw.F.kp b_draw .nil pass0 (da_s (pv 0) (da_v (pd_var (pv 1)) da_nil se_Name) se_Name) (he:=se_Name) (hpl:=(np_cons se_Name np_nil)))) (@dv_cons _ _ _ _ _ _ (@pd_ix _ _ _ _ _ _ _ (@pd_f _ _ _ _ (@pf_lst _ _ _ _ _ (@dv_cons _ _ _ _ _ _ (pd_var (pv 3)) (@dv_cons _ _ _ _ _ _ (pd_call (pe_call G_draw (hr.mono (by decide)) rfl T.f_draw.m T.f_draw.F.kp b_draw .nil pass0 (da_s (pv 0) (da_v (pd_op op_add ok_add (pd_var (pv 3)) pd_int) da_nil se_BinOp) se_Name) (he:=se_Name) (hpl:=(np_cons se_BinOp np_nil)))) (dv_cons (pd_call (pe_call G_draw (hr.mono (by decide)) rfl T.f_draw.m T.f_draw.F.kp b_draw .nil pass0 (da_s (pv 0) (da_v (pd_op op_add ok_add (pd_var (pv 3)) pd_int) da_nil se_BinOp) se_Name) (he:=se_Name) (hpl:=(np_cons se_BinOp np_nil)))) dv_nil se_Call) se_Call) se_Name))) (pd_call (pe_call G_draw (hr.mono (by decide)) rfl T.f_draw.m T.f_draw.F.kp b_draw .nil pass0 (da_s (pv 0) (da_v pd_int da_nil se_Constant) se_Name) (he:=se_Name) (hpl:=(np_cons se_Constant np_nil)))) (fun _ _=>rfl)) dv_nil se_Subscript) se_Call)) (by rfl) (by first | exact .inl rfl | exact .inr rfl | assumption))) (dss_one (ds_ret (pd_tup (dv_cons (pd_var (pv 4)) (dv_cons (pd_var (pv 5)) dv_nil se_Name) se_Name))))))),fun ds Q hl h=>?_⟩)
  obtain⟨d,m,st,rfl,m1,m2,s0,s1,q⟩:=h
  decreasing_tactic
  refine⟨⟨by decide,by decide,by decide⟩,?_⟩
  obtain⟨mo,hmo,mo0,mo1,mo2⟩:∃mo:Int,(if (10:Int) ^ (18:Int).toNat < st then (10:Int) ^ (18:Int).toNat else st)=mo∧0≤mo∧mo≤st∧mo≤1000000000000000000:=by
    have e:(10:Int) ^ (18:Int).toNat=1000000000000000000:=by decide
    rw[e]
    refine⟨_,rfl,?_,?_,?_⟩ <;> split <;> omega
  rw[hmo]
  refine go ?_;decreasing_tactic
  refine⟨rfl,_,rfl,by omega,by omega,fun a a0 a1=>?_⟩
  obtain⟨a',rfl,ha⟩:=toNat_lt a0 a1
  decreasing_tactic
  refine⟨rfl,_,rfl,by omega,by omega,fun u u0 u1=>?_⟩
  decreasing_tactic
  refine⟨by show 2≤1000;decide,rfl,2,rfl,by decide,by decide,fun v v0 v1=>?_⟩
  decreasing_tactic
  refine bnd_pick (P:=fun d=>∃x:Int,d=.int x∧0≤x∧x≤st) ?_ ?_
  · rcases lt2 v0 v1 with rfl | rfl
    · exact⟨_,rfl,_,rfl,by decide,by omega⟩
    · exact⟨_,rfl,_,rfl,u0,by omega⟩
  rintro d ⟨x,rfl,x0,x1⟩
  decreasing_tactic
  refine⟨by decide,?_⟩
  refine go ?_;decreasing_tactic
  refine⟨rfl,_,rfl,by omega,by omega,fun c c0 c1=>?_⟩
  obtain⟨c',rfl,hc⟩:=toNat_lt c0 c1
  decreasing_tactic
  refine⟨rfl,_,rfl,by omega,by omega,fun u u0 u1=>?_⟩
  decreasing_tactic
  refine⟨rfl,_,rfl,by omega,by omega,fun u' u0' u1'=>?_⟩
  decreasing_tactic
  refine⟨by show 3≤1000;decide,rfl,3,rfl,by decide,by decide,fun v v0 v1=>?_⟩
  decreasing_tactic
  refine bnd_pick (P:=fun d=>∃y:Int,d=.int y) ?_ ?_
  · have hv:v=0∨v=1∨v=2:=by omega
    rcases hv with rfl | rfl | rfl
    · exact⟨_,rfl,_,rfl⟩
    · exact⟨_,rfl,_,rfl⟩
    · exact⟨_,rfl,_,rfl⟩
  rintro d ⟨y,rfl⟩
  decreasing_tactic
  refine⟨by decide,?_⟩
  refine go ?_;decreasing_tactic
  exact⟨by decide,q (a',x) (c',y) ha hc x0 x1⟩
theorem ok_law (T:Txt K mg):FnOk P w K mg base CX0 14 T.f_law.a T.f_law.d ["_law_script"] (spLaw K):=by
  have G_hand:=@ok_hand P w K mg base T
  have b_hand:=T.f_hand.b
  have G_draw:=@ok_drawD P w K mg base T
  have b_draw:=T.f_draw.b
  have G_land:=@ok_land P w K mg base T
  have b_land:=T.f_land.b
  have G_springs:=@ok_springs P w K mg base T
  have b_springs:=T.f_springs.b
  have G_walker:=@ok_walker P w K mg base T
  have b_walker:=T.f_walker.b
  have G_needs_of:=@ok_needs_of P w K mg base T
  have b_needs_of:=T.f_needs_of.b
  have G_are_needs:=@ok_are_needs P w K mg base T
  have b_are_needs:=T.f_are_needs.b
  have G_needs:=@ok_needs P w K mg base T
  have b_needs:=T.f_needs.b
  refine T.f_law.F.ok sc_law (fun vs H Q E h=>?_) (fun cdv A outer s H vs Q E hr h=>?_)
  · obtain⟨a,ns,rfl,_⟩:=h
    rfl
  · obtain⟨a,ns,rfl,hS,hlen,k⟩:=h
    refine⟨_,(@pss_cons _ _ _ _ _ (ps_set (i:=1) sc_law.nd rfl (Or.inl rfl) (pe_call G_hand (hr.mono (by decide)) rfl T.f_hand.m T.f_hand.F.kp b_hand .nil pass0 (pa_cons (pv 0) pa_nil se_Name) (he:=se_Name) (hpl:=np_nil))) (@pss_exC _ _ _ (fun C=>(@dss_consG _ _ _ _ _ _ (ds_set (ps_set (i:=2) sc_law.nd rfl (Or.inl rfl) (pd_call (pe_call G_draw (hr.mono (by decide)) rfl T.f_draw.m T.f_draw.F.kp b_draw .nil pass0 (da_s (pv 1) (da_v pd_int da_nil se_Constant) se_Name) (he:=se_Name) (hpl:=(np_cons se_Constant np_nil)))))) (@dss_consG _ _ _ _ _ _ (@ds_set _ _ _ _ _ (@ps_set _ _ 3 _ _ _ _ sc_law.nd rfl (Or.inl rfl) (@pd_call _ _ _ _ _ _ _ (@pe_call _ _ _ _ _ _ _ _ _ _ _ _ _ _ _ _ G_land (hr.mono (by decide)) rfl T.f_land.m T.f_land.F.kp b_land .nil pass0 (@da_s _ _ _ _ _ _ (pv 1) (@da_v _ _ _ _ _ _ pd_int (da_v pd_int (da_v (pd_ix (pd_f (pf_lst (dv_cons pd_int (dv_cons pd_int (dv_cons pd_int dv_nil se_Constant) se_Constant) se_Constant))) (pd_call (pe_call G_draw (hr.mono (by decide)) rfl T.f_draw.m T.f_draw.F.kp b_draw .nil pass0 (da_s (pv 1) (da_v pd_int da_nil se_Constant) se_Name) (he:=se_Name) (hpl:=(np_cons se_Constant np_nil)))) (fun _ _=>rfl)) da_nil se_Subscript) se_Constant) se_Constant) se_Name) (by decide) se_Name ((np_cons se_Constant (np_cons se_Constant (np_cons se_Subscript np_nil)))))) (by rfl) (by first | exact .inl rfl | exact .inr rfl | assumption))) (@dss_consG _ _ _ _ _ _ (ds_set (ps_set (i:=4) sc_law.nd rfl (Or.inl rfl) (pd_call (pe_call G_springs (hr.mono (by decide)) rfl T.f_springs.m T.f_springs.F.kp b_springs .nil pass0 (da_s (pv 1) (da_v (pd_ixv (pv 3) pd_int (fun _ _=>rfl)) (da_v (pd_var (pv 2)) (da_v pd_int da_nil se_Constant) se_Name) se_Subscript) se_Name) (he:=se_Name) (hpl:=(np_cons se_Subscript (np_cons se_Name (np_cons se_Constant np_nil)))))))) (@dss_consG _ _ _ _ _ _ (@ds_set _ _ _ _ _ (@ps_set _ _ 5 _ _ _ _ sc_law.nd rfl (Or.inl rfl) (@pd_f _ _ _ _ (@pf_lst _ _ _ _ _ (@dv_cons _ _ _ _ _ _ (pd_call (pe_call G_walker (hr.mono (by decide)) rfl T.f_walker.m T.f_walker.F.kp b_walker .nil pass0 (da_s (pv 1) (da_v (pd_ixv (pv 3) pd_int (fun _ _=>rfl)) (da_v (pd_var (pv 2)) da_nil se_Name) se_Subscript) se_Name) (he:=se_Name) (hpl:=(np_cons se_Subscript (np_cons se_Name np_nil))))) (dv_cons (pd_call (pe_call G_walker (hr.mono (by decide)) rfl T.f_walker.m T.f_walker.F.kp b_walker .nil pass0 (da_s (pv 1) (da_v (pd_ixv (pv 3) pd_int (fun _ _=>rfl)) (da_v (pd_var (pv 2)) da_nil se_Name) se_Subscript) se_Name) (he:=se_Name) (hpl:=(np_cons se_Subscript (np_cons se_Name np_nil))))) dv_nil se_Call) se_Call))) (by rfl) (by first | exact .inl rfl | exact .inr rfl | assumption))) (@dss_consG _ _ _ _ _ _ (@ds_set _ _ _ _ _ (@ps_set _ _ 6 _ _ _ _ sc_law.nd rfl (Or.inl rfl) (@pd_f _ _ _ _ (@pf_lst _ _ _ _ _ (@dv_cons _ _ _ _ _ _ (pd_tup (dv_cons (pd_ixv (pv 3) pd_int (fun _ _=>rfl)) (dv_cons (pd_f (pf_list (pe_callTy call_list_of rfl T.n_list bt_list (pa_cons (pd_ixv (pv 3) pd_int (fun _ _=>rfl)) pa_nil se_Subscript) (he:=se_Subscript) (hpl:=np_nil)))) dv_nil se_Call) se_Subscript)) (dv_cons (pd_f (pf_listv (pe_callTy call_list_of rfl T.n_list bt_list (pa_cons (pv 4) pa_nil se_Name) (he:=se_Name) (hpl:=np_nil)))) dv_nil se_Call) se_Tuple))) (by rfl) (by first | exact .inl rfl | exact .inr rfl | assumption))) (@dss_consG _ _ _ _ _ _ (@ds_for _ _ _ _ _ _ (@ps_for _ _ _ _ _ _ _ _ PassesOwn.never rfl (di_list (pd_f (pf_lst (dv_cons pd_int (dv_cons pd_int (dv_cons pd_int dv_nil se_Constant) se_Constant) se_Constant)))) (dg_name (pg_name (i:=7) sc_law.nd rfl (Or.inl rfl))) (@dss_consG _ _ _ _ _ _ (@ds_ownN _ _ _ _ _ _ _ _ (@ps_set _ _ 8 _ _ _ _ sc_law.nd rfl (Or.inl rfl) (@pe_call _ _ _ _ _ _ _ _ _ _ _ _ _ _ _ _ G_needs_of (hr.mono (by decide)) rfl T.f_needs_of.m T.f_needs_of.F.kp b_needs_of .nil pass0 (da_v (pd_ixv (pv 6) pd_int (fun _ _=>rfl)) (da_v (pd_var (pv 2)) (da_v (pd_ixv (pv 6) pd_int (fun _ _=>rfl)) (da_v (pd_ixv (pv 5) (pd_var (pv 7)) (fun _ _=>rfl)) da_nil se_Subscript) se_Subscript) se_Name) se_Subscript) (by decide) se_Subscript ((np_cons se_Name (np_cons se_Subscript (np_cons se_Subscript np_nil))))) (by rfl) (by first | exact .inl rfl | exact .inr rfl | assumption))) (@dss_consG _ _ _ _ _ _ (@ds_if _ _ _ _ _ _ _ _ _ (PW.pt (@pwd_or _ _ _ _ _ _ _ _ (pdt_not (pdt_val (pd_call (pe_call G_are_needs (hr.mono (by decide)) rfl T.f_are_needs.m T.f_are_needs.F.kp b_are_needs .nil pass0 (da_s (pv 8) da_nil se_Name) (he:=se_Name) (hpl:=np_nil))))) (@pwd_or1 _ _ _ _ _ (pdt_cmpV (op_neD (units_of hr)) (pv 8) (pd_call (pe_call G_needs (hr.mono (by decide)) rfl T.f_needs.m T.f_needs.F.kp b_needs .nil pass0 (da_v (pd_var (pv 3)) (da_v (pd_var (pv 2)) (da_v (pd_var (pv 4)) (da_v (pd_ixv (pv 5) (pd_var (pv 7)) (fun _ _=>rfl)) da_nil se_Subscript) se_Name) se_Name) se_Name) (he:=se_Name) (hpl:=(np_cons se_Name (np_cons se_Name (np_cons se_Subscript np_nil)))))) (nomark _))))) (dss_one (ds_ret pd_bl)) dss_nil) (dss_one (ds_app (ps_expr (pe_bm PySem.F.plainAttrs_list PySem.F.slot_list_append PySem.F.type_list_append mt_append (pv 8) (pa_cons pd_int pa_nil se_Constant))))))) (by intro _;rfl))) (dss_one (ds_ret (pd_cmp (op_eqD (units_of hr)) ok_eq (pd_var (pv 6)) (pd_f (pf_lst (dv_cons (pd_var (pv 3)) (dv_cons (pd_var (pv 4)) dv_nil se_Name) se_Name))) (nomark _))))))))))))),?_⟩
    refine⟨_,rfl,a,ns,rfl,hS,fun hd hl H1 _ _ d1 _=>?_⟩
    refine law_start (k:=7) d1 k ?_
    simp only[List.replicate_succ,List.replicate_zero]
    clear k
    decreasing_tactic
    refine⟨rfl,10,rfl,by decide,by decide,fun S s0 s9=>?_⟩
    refine go ?_;decreasing_tactic
    refine⟨rfl,by decide,rfl,3,rfl,by decide,by decide,fun u u0 u1=>?_⟩
    decreasing_tactic
    obtain⟨sc,hsc,c0,c9⟩:∃sc:Int,atI [PyData.int 3,.int 3,.int 9] u=some (.int sc)∧1≤sc∧sc≤9:=by
      have hu:u=0∨u=1∨u=2:=by omega
      rcases hu with rfl | rfl | rfl
      · exact⟨3,rfl,by decide,by decide⟩
      · exact⟨3,rfl,by decide,by decide⟩
      · exact⟨9,rfl,by decide,by decide⟩
    rw[hsc]
    refine⟨_,4,8,sc,rfl,by decide,by decide,by decide,c0,by omega,fun m ws ok hm _ _=>?_⟩
    have m1:=ok.m1
    have m2:=ok.m2
    have few:=ok.few
    refine go ?_;decreasing_trivial
    refine⟨rfl,_,m,S,4,rfl,m1,m2,s0,by omega,by decide,fun sp so=>?_⟩
    have hN:2 ^ sp.length * (m * (S.toNat + 1))≤900:=by
      have h1:=pw4 sp.length (by have:=so.few;omega)
      have h2:m * (S.toNat + 1)≤4 * 10:=Nat.mul_le_mul hm (by omega)
      have h3:2 ^ sp.length * (m * (S.toNat + 1))≤16 * 40:=Nat.mul_le_mul h1 h2
      omega
    refine go ?_;decreasing_trivial
    refine⟨rfl,_,m,S,rfl,m1,m2,s0,by omega,fun b₁ g₁ hb hg b0 b1=>?_⟩
    decreasing_trivial
    refine⟨rfl,_,m,S,rfl,m1,m2,s0,by omega,fun b₂ g₂ hb' hg' b0' b1'=>?_⟩
    decreasing_trivial
    refine⟨by decide,?_⟩
    refine go ?_;array_mem_dec
    refine⟨by decide,by decide,?_⟩
    refine go ?_;array_mem_dec
    have wk:∀i:Int,i=0∨i=1→∃b g:Sp2,atI [PyData.tuple [spotD b₁,spotD g₁],.tuple [spotD b₂,spotD g₂]] i=some (.tuple [spotD b,spotD g])∧b.1 < m∧g.1 < m∧0≤b.2∧b.2≤S:=by
      rintro i (rfl | rfl)
      · exact⟨b₁,g₁,rfl,hb,hg,b0,b1⟩
      · exact⟨b₂,g₂,rfl,hb',hg',b0',b1'⟩
    refine⟨by show 3≤1000;decide,fun r ρ=>∃z7 z8:Sl,(∀x∈r,∃i:Int,(i=0∨i=1)∧x=.int i)∧ρ=[Sl.no,Sl.hd,Sl.sh (.int S),Sl.sh (landD m ws),Sl.sh (.list (sp.map sprD)),Sl.sh (.list [.tuple [spotD b₁,spotD g₁],.tuple [spotD b₂,spotD g₂]]),Sl.sh (.list [landD m ws,.list (sp.map sprD)]),z7,z8],⟨_,_,fun x hx=>?_,rfl⟩,?_,?_⟩
    · rcases List.mem_cons.mp hx with rfl | hx
      · exact⟨0,.inl rfl,rfl⟩
      rcases List.mem_cons.mp hx with rfl | hx
      · exact⟨1,.inr rfl,rfl⟩
      rw[List.mem_singleton.mp hx]
      exact⟨0,.inl rfl,rfl⟩
    · rintro x r ρ ⟨z7,z8,hr,rfl⟩
      obtain⟨i,hi,rfl⟩:=hr x List.mem_cons_self
      obtain⟨b,g,hat,hb,hg,b0,b1⟩:=wk i hi
      sizeOf_list_dec
      rw[hat]
      decreasing_tactic
      refine⟨m,ws,S,sp,b,g,rfl,ok,s0,by omega,so,hb,hg,b0,b1,fun ts hts=>?_⟩
      have nl:(ndsA g 0 [] ts).length≤6:=by
        have hO:=nds_ok g ts 0 [] ⟨fun n hn=>(nomatch hn),List.Pairwise.nil⟩
        have:=pw4 sp.length (by have:=so.few;omega)
        have:=hts.len
        exact nd_few ⟨fun n hn=>Nat.lt_of_lt_of_le (hO.lt n hn) (by omega),hO.pw⟩
      have LN:=LayN.numL (ndsA g 0 [] ts)
      refine go ?_;decreasing_tactic
      refine⟨rfl,ndsA g 0 [] ts,rfl,by omega,?_⟩
      decreasing_tactic
      rw[hat]
      decreasing_tactic
      refine⟨m,ws,S,sp,b,g,rfl,ok,s0,hN,so,hb,b0,b1,fun T sT hT=>?_⟩
      rw[nds_all sT fun s=>⟨fun z=>by
        obtain⟨x,h1,h2⟩:=(hT s).mp z
        have hs:s < ts.length:=by rw[hts.len];exact (h1.bd ok s0 (base_tab hb b0 b1) so).2.2.2
        exact⟨hs,(spr_en ok s0 (base_tab hb b0 b1) so hts g hs).mpr ⟨x,h1,h2⟩⟩,fun ⟨hs,z⟩=>(hT s).mpr ((spr_en ok s0 (base_tab hb b0 b1) so hts g hs).mp z)⟩]
      refine⟨LN.1,LN.1,LN.dep (by decide) _,?_⟩
      rw[LN.same]
      refine iteF ?_
      refine go ?_;decreasing_tactic
      exact⟨by rw[len_num];omega,_,_,fun y hy=>hr y (List.mem_cons_of_mem _ hy),rfl⟩
    · rintro ρ ⟨z7,z8,hr,rfl⟩
      refine go ?_;decreasing_tactic
      have L2:LayN 4 (.list [landD m ws,.list (sp.map sprD)]):=LayN.lst (LayN.two (LayN.land m ws) ((LayN.sprs sp).mono (by decide)))
      refine⟨by decide,L2.1,L2.1,L2.dep (by decide) _,?_⟩
      rw[L2.same]
theorem all_mk {l:PySem.W.OpenLaw} {w:World} {K:PySem.W.Frag} {h:Heap} {mg:Str→Option Value} {fa:Addr} (X:K.In h) (G:h.Ns mainGlobals mg) (hfa:mg "law" = some (.ref fa))
    (h0:FH K "is_whole" s_is_whole)
    (h1:FH K "stepped" s_stepped)
    (h2:FH K "levels_along" s_levels_along)
    (h3:FH K "is_place" s_is_place)
    (h4:FH K "changes_of" s_changes_of)
    (h5:FH K "base_at" s_base_at)
    (h6:FH K "has_enough" s_has_enough)
    (h7:FH K "effect_of_none" s_effect_of_none)
    (h8:FH K "effect_of_one" s_effect_of_one)
    (h9:FH K "effect_of" s_effect_of)
    (h10:FH K "passed" s_passed)
    (h11:FH K "joined" s_joined)
    (h12:FH K "is_more" s_is_more)
    (h13:FH K "behind_way" s_behind_way)
    (h14:FH K "first_row" s_first_row)
    (h15:FH K "row_behind" s_row_behind)
    (h16:FH K "walk_to" s_walk_to)
    (h17:FH K "behind_ways" s_behind_ways)
    (h18:FH K "behind_part" s_behind_part)
    (h19:FH K "end_of" s_end_of)
    (h20:FH K "rows_from" s_rows_from)
    (h21:FH K "still_rises" s_still_rises)
    (h22:FH K "rising_walk" s_rising_walk)
    (h23:FH K "parted_at_round" s_parted_at_round)
    (h24:FH K "parts_by" s_parts_by)
    (h25:FH K "filling_parts" s_filling_parts)
    (h26:FH K "settled" s_settled)
    (h27:FH K "highest" s_highest)
    (h28:FH K "alone" s_alone)
    (h29:FH K "numbers_in" s_numbers_in)
    (h30:FH K "level_by_spring" s_level_by_spring)
    (h31:FH K "base_by" s_base_by)
    (h32:FH K "highest_by" s_highest_by)
    (h33:FH K "is_part" s_is_part)
    (h34:FH K "needs_of" s_needs_of)
    (h35:FH K "_law_hand" s_hand)
    (h36:FH K "_law_next" s_next)
    (h37:FH K "_law_take" s_take)
    (h38:FH K "_law_draw" s_draw)
    (h39:FH K "_law_change" s_change)
    (h40:FH K "_law_land" s_land)
    (h41:FH K "_law_springs" s_springs)
    (h42:FH K "_law_by_sets" s_by_sets)
    (h43:FH K "_law_needs" s_needs)
    (h44:FH K "_law_walker" s_walker)
    (h45:FH K "_law_is_whole" s_law_is_whole)
    (h46:FH K "_law_are_needs" s_are_needs)
    {f47:Addr} {od47 an47:Option Addr} {sl47:Array (Option Value)} {oc47 kV47 dc47 pm47 cd47 ct47:Value} (a47:PySem.W.nsIn K mainGlobals "law" = some (some (.ref f47))) (l47:K.lookup f47=some ⟨oc47,od47,.func (PySem.W.fnOf "law" "law" (defArgs s_law) (defBody s_law) (defScope s_law) .none kV47 dc47 pm47 an47 cd47 ct47),sl47⟩) (c47:PySem.W.codeIn K cd47 "law" = true) (k47:PySem.W.keepIn K (.ref f47)=true)
    {tk_MANY:Tok} (q_MANY:PySem.W.nsIn K mainGlobals "MANY" = some (some (.int 0 tk_MANY)))
    {tk_WAYS:Tok} (q_WAYS:PySem.W.nsIn K mainGlobals "WAYS" = some (some (.int 1 tk_WAYS)))
    {tk_START:Tok} (q_START:PySem.W.nsIn K mainGlobals "START" = some (some (.int 0 tk_START)))
    {tk_END:Tok} (q_END:PySem.W.nsIn K mainGlobals "END" = some (some (.int 1 tk_END)))
    {tk_CHANGE:Tok} (q_CHANGE:PySem.W.nsIn K mainGlobals "CHANGE" = some (some (.int 2 tk_CHANGE)))
    {tk_PLACE_spots:Tok} (q_PLACE_spots:PySem.W.nsIn K mainGlobals "PLACE_spots" = some (some (.int 0 tk_PLACE_spots)))
    {tk_LEVEL:Tok} (q_LEVEL:PySem.W.nsIn K mainGlobals "LEVEL" = some (some (.int 1 tk_LEVEL)))
    {tk_LEAST:Tok} (q_LEAST:PySem.W.nsIn K mainGlobals "LEAST" = some (some (.int 0 tk_LEAST)))
    {tk_GAIN:Tok} (q_GAIN:PySem.W.nsIn K mainGlobals "GAIN" = some (some (.int 1 tk_GAIN)))
    {tk_TOP:Tok} (q_TOP:PySem.W.nsIn K mainGlobals "TOP" = some (some (.int 2 tk_TOP)))
    {tk_TABLE:Tok} (q_TABLE:PySem.W.nsIn K mainGlobals "TABLE" = some (some (.int 0 tk_TABLE)))
    {tk_RISEN:Tok} (q_RISEN:PySem.W.nsIn K mainGlobals "RISEN" = some (some (.int 1 tk_RISEN)))
    {tk_FROM:Tok} (q_FROM:PySem.W.nsIn K mainGlobals "FROM" = some (some (.int 0 tk_FROM)))
    {tk_BY:Tok} (q_BY:PySem.W.nsIn K mainGlobals "BY" = some (some (.int 1 tk_BY)))
    {tk_NUMBERS:Tok} (q_NUMBERS:PySem.W.nsIn K mainGlobals "NUMBERS" = some (some (.int 0 tk_NUMBERS)))
    {tk_TIMES:Tok} (q_TIMES:PySem.W.nsIn K mainGlobals "TIMES" = some (some (.int 1 tk_TIMES)))
    {tk_PLACE_springs:Tok} (q_PLACE_springs:PySem.W.nsIn K mainGlobals "PLACE_springs" = some (some (.int 0 tk_PLACE_springs)))
    {tk_GIFT:Tok} (q_GIFT:PySem.W.nsIn K mainGlobals "GIFT" = some (some (.int 1 tk_GIFT)))
    {tk_BEGIN:Tok} (q_BEGIN:PySem.W.nsIn K mainGlobals "BEGIN" = some (some (.int 0 tk_BEGIN)))
    {tk_GOAL:Tok} (q_GOAL:PySem.W.nsIn K mainGlobals "GOAL" = some (some (.int 1 tk_GOAL)))
    (z_abs:PySem.W.nsIn K mainGlobals "abs" = some none)
    (z_all:PySem.W.nsIn K mainGlobals "all" = some none)
    (z_any:PySem.W.nsIn K mainGlobals "any" = some none)
    (z_bool:PySem.W.nsIn K mainGlobals "bool" = some none)
    (z_enumerate:PySem.W.nsIn K mainGlobals "enumerate" = some none)
    (z_int:PySem.W.nsIn K mainGlobals "int" = some none)
    (z_isinstance:PySem.W.nsIn K mainGlobals "isinstance" = some none)
    (z_len:PySem.W.nsIn K mainGlobals "len" = some none)
    (z_list:PySem.W.nsIn K mainGlobals "list" = some none)
    (z_max:PySem.W.nsIn K mainGlobals "max" = some none)
    (z_min:PySem.W.nsIn K mainGlobals "min" = some none)
    (z_range:PySem.W.nsIn K mainGlobals "range" = some none)
    (z_reversed:PySem.W.nsIn K mainGlobals "reversed" = some none)
    (z_sorted:PySem.W.nsIn K mainGlobals "sorted" = some none) :
    ∃fd:FuncData,(∀(s:Shared) (v:Value),BindsTo s fd ⟨[v],[]⟩ [("_law_script",v)])∧∀base:Heap,K.In base→base.Ns mainGlobals mg→FnOk l.prog w K mg base CX0 14 fa fd ["_law_script"] (spLaw K):=by
  have e:=hfa.symm.trans (PySem.W.mg_of X G a47)
  cases e
  obtain⟨t0⟩:=FT.of (ps:=["thing"]) X G h0 (fun _ _ _ _ _ _ us hl=>by obtain⟨_,rfl⟩:=usl1 hl;rfl)
  obtain⟨t1⟩:=FT.of (ps:=["store", "level", "change"]) X G h1 (fun _ _ _ _ _ _ us hl=>by obtain⟨_,_,_,rfl⟩:=usl3 hl;rfl)
  obtain⟨t2⟩:=FT.of (ps:=["store", "level", "changes"]) X G h2 (fun _ _ _ _ _ _ us hl=>by obtain⟨_,_,_,rfl⟩:=usl3 hl;rfl)
  obtain⟨t3⟩:=FT.of (ps:=["many", "thing"]) X G h3 (fun _ _ _ _ _ _ us hl=>by obtain⟨_,_,rfl⟩:=usl2 hl;rfl)
  obtain⟨t4⟩:=FT.of (ps:=["land", "numbers"]) X G h4 (fun _ _ _ _ _ _ us hl=>by obtain⟨_,_,rfl⟩:=usl2 hl;rfl)
  obtain⟨t5⟩:=FT.of (ps:=["many", "spot"]) X G h5 (fun _ _ _ _ _ _ us hl=>by obtain⟨_,_,rfl⟩:=usl2 hl;rfl)
  obtain⟨t6⟩:=FT.of (ps:=["table", "goal"]) X G h6 (fun _ _ _ _ _ _ us hl=>by obtain⟨_,_,rfl⟩:=usl2 hl;rfl)
  obtain⟨t7⟩:=FT.of (ps:=["store"]) X G h7 (fun _ _ _ _ _ _ us hl=>by obtain⟨_,rfl⟩:=usl1 hl;rfl)
  obtain⟨t8⟩:=FT.of (ps:=["store", "change"]) X G h8 (fun _ _ _ _ _ _ us hl=>by obtain⟨_,_,rfl⟩:=usl2 hl;rfl)
  obtain⟨t9⟩:=FT.of (ps:=["store", "changes"]) X G h9 (fun _ _ _ _ _ _ us hl=>by obtain⟨_,_,rfl⟩:=usl2 hl;rfl)
  obtain⟨t10⟩:=FT.of (ps:=["effect", "level"]) X G h10 (fun _ _ _ _ _ _ us hl=>by obtain⟨_,_,rfl⟩:=usl2 hl;rfl)
  obtain⟨t11⟩:=FT.of (ps:=["one", "other"]) X G h11 (fun _ _ _ _ _ _ us hl=>by obtain⟨_,_,rfl⟩:=usl2 hl;rfl)
  obtain⟨t12⟩:=FT.of (ps:=["one", "other"]) X G h12 (fun _ _ _ _ _ _ us hl=>by obtain⟨_,_,rfl⟩:=usl2 hl;rfl)
  obtain⟨t13⟩:=FT.of (ps:=["store", "table", "way"]) X G h13 (fun _ _ _ _ _ _ us hl=>by obtain⟨_,_,_,rfl⟩:=usl3 hl;rfl)
  obtain⟨t14⟩:=FT.of (ps:=["table"]) X G h14 (fun _ _ _ _ _ _ us hl=>by obtain⟨_,rfl⟩:=usl1 hl;rfl)
  obtain⟨t15⟩:=FT.of (ps:=["land", "store", "table", "stayed"]) X G h15 (fun _ _ _ _ _ _ us hl=>by obtain⟨_,_,_,_,rfl⟩:=usl4 hl;rfl)
  obtain⟨t16⟩:=FT.of (ps:=["land", "rows", "place"]) X G h16 (fun _ _ _ _ _ _ us hl=>by obtain⟨_,_,_,rfl⟩:=usl3 hl;rfl)
  obtain⟨t17⟩:=FT.of (ps:=["land", "place", "numbers"]) X G h17 (fun _ _ _ _ _ _ us hl=>by obtain⟨_,_,_,rfl⟩:=usl3 hl;rfl)
  obtain⟨t18⟩:=FT.of (ps:=["land", "place", "part"]) X G h18 (fun _ _ _ _ _ _ us hl=>by obtain⟨_,_,_,rfl⟩:=usl3 hl;rfl)
  obtain⟨t19⟩:=FT.of (ps:=["land", "place", "trip"]) X G h19 (fun _ _ _ _ _ _ us hl=>by obtain⟨_,_,_,rfl⟩:=usl3 hl;rfl)
  obtain⟨t20⟩:=FT.of (ps:=["land", "store", "table"]) X G h20 (fun _ _ _ _ _ _ us hl=>by obtain⟨_,_,_,rfl⟩:=usl3 hl;rfl)
  obtain⟨t21⟩:=FT.of (ps:=["land", "rows"]) X G h21 (fun _ _ _ _ _ _ us hl=>by obtain⟨_,_,rfl⟩:=usl2 hl;rfl)
  obtain⟨t22⟩:=FT.of (ps:=["land", "rows"]) X G h22 (fun _ _ _ _ _ _ us hl=>by obtain⟨_,_,rfl⟩:=usl2 hl;rfl)
  obtain⟨t23⟩:=FT.of (ps:=["land", "walk"]) X G h23 (fun _ _ _ _ _ _ us hl=>by obtain⟨_,_,rfl⟩:=usl2 hl;rfl)
  obtain⟨t24⟩:=FT.of (ps:=["numbers"]) X G h24 (fun _ _ _ _ _ _ us hl=>by obtain⟨_,rfl⟩:=usl1 hl;rfl)
  obtain⟨t25⟩:=FT.of (ps:=["land", "store", "level", "walk"]) X G h25 (fun _ _ _ _ _ _ us hl=>by obtain⟨_,_,_,_,rfl⟩:=usl4 hl;rfl)
  obtain⟨t26⟩:=FT.of (ps:=["land", "store", "base"]) X G h26 (fun _ _ _ _ _ _ us hl=>by obtain⟨_,_,_,rfl⟩:=usl3 hl;rfl)
  obtain⟨t27⟩:=FT.of (ps:=["land", "store", "base"]) X G h27 (fun _ _ _ _ _ _ us hl=>by obtain⟨_,_,_,rfl⟩:=usl3 hl;rfl)
  obtain⟨t28⟩:=FT.of (ps:=["number"]) X G h28 (fun _ _ _ _ _ _ us hl=>by obtain⟨_,rfl⟩:=usl1 hl;rfl)
  obtain⟨t29⟩:=FT.of (ps:=["springs", "some"]) X G h29 (fun _ _ _ _ _ _ us hl=>by obtain⟨_,_,rfl⟩:=usl2 hl;rfl)
  obtain⟨t30⟩:=FT.of (ps:=["store", "springs", "tables", "some", "number"]) X G h30 (fun _ _ _ _ _ _ us hl=>by obtain⟨_,_,_,_,_,rfl⟩:=usl5 hl;rfl)
  obtain⟨t31⟩:=FT.of (ps:=["store", "springs", "tables", "base", "some"]) X G h31 (fun _ _ _ _ _ _ us hl=>by obtain⟨_,_,_,_,_,rfl⟩:=usl5 hl;rfl)
  obtain⟨t32⟩:=FT.of (ps:=["land", "store", "springs", "base"]) X G h32 (fun _ _ _ _ _ _ us hl=>by obtain⟨_,_,_,_,rfl⟩:=usl4 hl;rfl)
  obtain⟨t33⟩:=FT.of (ps:=["one", "other"]) X G h33 (fun _ _ _ _ _ _ us hl=>by obtain⟨_,_,rfl⟩:=usl2 hl;rfl)
  obtain⟨t34⟩:=FT.of (ps:=["land", "store", "springs", "walker"]) X G h34 (fun _ _ _ _ _ _ us hl=>by obtain⟨_,_,_,_,rfl⟩:=usl4 hl;rfl)
  obtain⟨t35⟩:=FT.of (ps:=["_law_script"]) X G h35 (fun _ _ _ _ _ _ us hl=>by obtain⟨_,rfl⟩:=usl1 hl;rfl)
  obtain⟨t36⟩:=FT.of (ps:=["_law_hand_here"]) X G h36 (fun _ _ _ _ _ _ us hl=>by obtain⟨_,rfl⟩:=usl1 hl;rfl)
  obtain⟨t37⟩:=FT.of (ps:=["_law_hand_here"]) X G h37 (fun _ _ _ _ _ _ us hl=>by obtain⟨_,rfl⟩:=usl1 hl;rfl)
  obtain⟨t38⟩:=FT.of (ps:=["_law_hand_here", "_law_many"]) X G h38 (fun _ _ _ _ _ _ us hl=>by obtain⟨_,_,rfl⟩:=usl2 hl;rfl)
  obtain⟨t39⟩:=FT.of (ps:=["_law_hand_here", "_law_scale"]) X G h39 (fun _ _ _ _ _ _ us hl=>by obtain⟨_,_,rfl⟩:=usl2 hl;rfl)
  obtain⟨t40⟩:=FT.of (ps:=["_law_hand_here", "_law_places", "_law_ways", "_law_scale"]) X G h40 (fun _ _ _ _ _ _ us hl=>by obtain⟨_,_,_,_,rfl⟩:=usl4 hl;rfl)
  obtain⟨t41⟩:=FT.of (ps:=["_law_hand_here", "_law_many", "_law_store", "_law_most"]) X G h41 (fun _ _ _ _ _ _ us hl=>by obtain⟨_,_,_,_,rfl⟩:=usl4 hl;rfl)
  obtain⟨t42⟩:=FT.of (ps:=["_law_land_here", "_law_store", "_law_springs_here", "_law_base"]) X G h42 (fun _ _ _ _ _ _ us hl=>by obtain⟨_,_,_,_,rfl⟩:=usl4 hl;rfl)
  obtain⟨t43⟩:=FT.of (ps:=["_law_land_here", "_law_store", "_law_springs_here", "_law_walker_here"]) X G h43 (fun _ _ _ _ _ _ us hl=>by obtain⟨_,_,_,_,rfl⟩:=usl4 hl;rfl)
  obtain⟨t44⟩:=FT.of (ps:=["_law_hand_here", "_law_many", "_law_store"]) X G h44 (fun _ _ _ _ _ _ us hl=>by obtain⟨_,_,_,rfl⟩:=usl3 hl;rfl)
  obtain⟨t45⟩:=FT.of (ps:=["_law_thing"]) X G h45 (fun _ _ _ _ _ _ us hl=>by obtain⟨_,rfl⟩:=usl1 hl;rfl)
  obtain⟨t46⟩:=FT.of (ps:=["_law_thing"]) X G h46 (fun _ _ _ _ _ _ us hl=>by obtain⟨_,rfl⟩:=usl1 hl;rfl)
  have Fl:=fun_mk (st:=s_law) l47 c47 k47
  let T:Txt K mg:={
    n_abs:=PySem.W.mg_none_of X G z_abs,
    n_all:=PySem.W.mg_none_of X G z_all,
    n_any:=PySem.W.mg_none_of X G z_any,
    n_bool:=PySem.W.mg_none_of X G z_bool,
    n_enumerate:=PySem.W.mg_none_of X G z_enumerate,
    n_int:=PySem.W.mg_none_of X G z_int,
    n_isinstance:=PySem.W.mg_none_of X G z_isinstance,
    n_len:=PySem.W.mg_none_of X G z_len,
    n_list:=PySem.W.mg_none_of X G z_list,
    n_max:=PySem.W.mg_none_of X G z_max,
    n_min:=PySem.W.mg_none_of X G z_min,
    n_range:=PySem.W.mg_none_of X G z_range,
    n_reversed:=PySem.W.mg_none_of X G z_reversed,
    n_sorted:=PySem.W.mg_none_of X G z_sorted,
    t_MANY:=tk_MANY,mg_MANY:=PySem.W.mg_of X G q_MANY,
    t_WAYS:=tk_WAYS,mg_WAYS:=PySem.W.mg_of X G q_WAYS,
    t_START:=tk_START,mg_START:=PySem.W.mg_of X G q_START,
    t_END:=tk_END,mg_END:=PySem.W.mg_of X G q_END,
    t_CHANGE:=tk_CHANGE,mg_CHANGE:=PySem.W.mg_of X G q_CHANGE,
    t_PLACE_spots:=tk_PLACE_spots,mg_PLACE_spots:=PySem.W.mg_of X G q_PLACE_spots,
    t_LEVEL:=tk_LEVEL,mg_LEVEL:=PySem.W.mg_of X G q_LEVEL,
    t_LEAST:=tk_LEAST,mg_LEAST:=PySem.W.mg_of X G q_LEAST,
    t_GAIN:=tk_GAIN,mg_GAIN:=PySem.W.mg_of X G q_GAIN,
    t_TOP:=tk_TOP,mg_TOP:=PySem.W.mg_of X G q_TOP,
    t_TABLE:=tk_TABLE,mg_TABLE:=PySem.W.mg_of X G q_TABLE,
    t_RISEN:=tk_RISEN,mg_RISEN:=PySem.W.mg_of X G q_RISEN,
    t_FROM:=tk_FROM,mg_FROM:=PySem.W.mg_of X G q_FROM,
    t_BY:=tk_BY,mg_BY:=PySem.W.mg_of X G q_BY,
    t_NUMBERS:=tk_NUMBERS,mg_NUMBERS:=PySem.W.mg_of X G q_NUMBERS,
    t_TIMES:=tk_TIMES,mg_TIMES:=PySem.W.mg_of X G q_TIMES,
    t_PLACE_springs:=tk_PLACE_springs,mg_PLACE_springs:=PySem.W.mg_of X G q_PLACE_springs,
    t_GIFT:=tk_GIFT,mg_GIFT:=PySem.W.mg_of X G q_GIFT,
    t_BEGIN:=tk_BEGIN,mg_BEGIN:=PySem.W.mg_of X G q_BEGIN,
    t_GOAL:=tk_GOAL,mg_GOAL:=PySem.W.mg_of X G q_GOAL,
    f_is_whole:=t0,
    f_stepped:=t1,
    f_levels_along:=t2,
    f_is_place:=t3,
    f_changes_of:=t4,
    f_base_at:=t5,
    f_has_enough:=t6,
    f_effect_of_none:=t7,
    f_effect_of_one:=t8,
    f_effect_of:=t9,
    f_passed:=t10,
    f_joined:=t11,
    f_is_more:=t12,
    f_behind_way:=t13,
    f_first_row:=t14,
    f_row_behind:=t15,
    f_walk_to:=t16,
    f_behind_ways:=t17,
    f_behind_part:=t18,
    f_end_of:=t19,
    f_rows_from:=t20,
    f_still_rises:=t21,
    f_rising_walk:=t22,
    f_parted_at_round:=t23,
    f_parts_by:=t24,
    f_filling_parts:=t25,
    f_settled:=t26,
    f_highest:=t27,
    f_alone:=t28,
    f_numbers_in:=t29,
    f_level_by_spring:=t30,
    f_base_by:=t31,
    f_highest_by:=t32,
    f_is_part:=t33,
    f_needs_of:=t34,
    f_hand:=t35,
    f_next:=t36,
    f_take:=t37,
    f_draw:=t38,
    f_change:=t39,
    f_land:=t40,
    f_springs:=t41,
    f_by_sets:=t42,
    f_needs:=t43,
    f_walker:=t44,
    f_law_is_whole:=t45,
    f_are_needs:=t46,
    f_law:=⟨fa,_,Fl,hfa,Fl.binds (fun _ _ _ _ _ _ us hl=>by obtain⟨_,rfl⟩:=usl1 hl;rfl)⟩ }
  exact⟨PySem.W.fnOf "law" "law" (defArgs s_law) (defBody s_law) (defScope s_law) .none kV47 dc47 pm47 an47 cd47 ct47,fun s v=>.of_eq rfl,fun base _ _=>ok_law T⟩
end
theorem walk {l:PySem.W.OpenLaw} {q:Program} {loose:List Str} {XP:(Str→Option Value)→Heap→Prop} {YP:World→Heap→Prop} {d:DefRec} {K:Params→PySem.W.Frag} (hn:l.most=some 63) (hdf:d.params.defaults=[])
    (hY:∀(w:World) (h:Heap),YP w h→(K w.params).In h)
    (F:∀(w:World) (mg:Str→Option Value) (fa:Addr) (h:Heap),(K w.params).In h→h.Ns mainGlobals mg→mg d.name=some (.ref fa)→
      ∃fd:FuncData,(∀(s:Shared) (u:Value),BindsTo s fd ⟨[u],[]⟩ [("_law_script",u)])∧∀base:Heap,(K w.params).In base→base.Ns mainGlobals mg→FnOk l.prog w (K w.params) mg base CX0 14 fa fd ["_law_script"] (spLaw (K w.params))) :
    PySem.W.WalkO q loose XP YP l.row.toRowW d [] (fun f vs=>PySem.call f vs):=
  L2.walk_of (n:=63) (k:=14) (x:= "_law_script") (CX:=fun _=>CX0) (sp:=fun w=>spLaw (K w.params)) hn (by decide) hdf ⟨rfl,by decide,by decide,rfl⟩ hY F (fun _ _ a ns hl _ hS=>⟨a,ns,rfl,hS,hl,fun _=>rfl⟩) fun _ _ _ _ _ z=>z
end My
structure PySem.W.Fast:Prop where(tw9312499512912066518 tw7419401720547428272 tw13523593178882601045 tw13757556252371938704 tw18099869191238674229 tw8062789198964345284 tw14158543486180484419 tw3388387144245245599 tw9255710428612455468 tw7175207814778260894 tw5919376779878632257 tw14759524819697989019 tw7517696291921421007 tw2883929920698662823 tw2763790172114314247 tw7797806578504413157 tw11024055242330616640 tw14860848648390239061 tw10284469976100517291 tw8080477861206164888 tw12579045308471079578 tw17595523048051797427 tw14595876094327231204 tw15017953994108504016 tw6373409095247284163 tw6365211539574537788 tw2483239834897827461 tw4851575097848463335 tw5535551414136079616 tw1553799525515489236 tw7468681293214174917 tw16308086585207673075 tw9676246163340618702 tw464790509073786386 tw1341496865501585272 tw9636900859309557443 tw7447493991103436168 tw148539616610231582 tw5593254510173976430 tw9580534540865198140 tw17564497978302390993 tw6812172400310391385 tw4941531675710482710 tw11615856457987607155 tw1478127953920065782 tw9897793749774204778 tw11497457949424601623 tw9144554314403920151 tw16821127524648943373 tw14342521190271406811 tw7840652017287374553 tw16282946526959112567 tw17450083657189507380 tw1907046049885877977 tw16418612937032024246 tw1098242770170504700 tw16220095871245385541 tw15221213334377571143 tw860089532306584474 tw1119870746363772595 tw14154592390466737031 tw12007651484682197573 tw11986235406484254992 tw8829025427944823212 tw11183974834605331963 tw5878344213854785835 tw15154387823803769164 tw15626225318886481557 tw2073280856031289951 tw9671748654072841440 tw1766384309792383418 tw6883903182488549169 tw13824974380463867538 tw12064297268391615150 tw14038473678511395004 tw17829653314171876270 tw14203801712694541091 tw15453466961504082256 tw4835196826610651781 tw12924006958721095404 tw4087071070435056041 tw14637441353647751469 tw14028127074474220856 tw3228602291628892 tw15718230134646750744 tw16768030890242226285 tw8112105551004361600 tw9027347391693438099 tw14351918114361162548 tw1381061905543659949 tw5600771732199212472 tw10299879329719073721 tw430205601837151584 tw2719876812876354981 tw8190788472548997469 tw17537329634224668110 tw9687404933800719093 tw17835412196987998952 tw10296170467578382281 tw3262208550089497660 tw8750568017337349796 tw5508077241122962752 tw17373497245091934062 tw6678751778868357661 tw2162279627737519598 tw1627113835358507017 tw10582236646112323116 tw16387889694134536890 tw17176558211733569094 tw16050887299825271141 tw2318174333008715677 tw17498548634945150712 tw17033934914657426436 tw8669688218573801964 tw14365205135428663664 tw6933633761736240239 tw14681272453140521030 tw13909977608351812953 tw17171666706579952815 tw9562677655727270788 tw15045325426046858053 tw13020914390477841151 tw17502392710631534893 tw7929675713739519620 tw5843756694303528031 tw17905070035573677859 tw2018840722447374329 tw16310648129958626847 tw8566348650553685823 tw1545668229349496624 tw11906079495555365399 tw14454744509168543530 tw5398820235243157436 tw8728281792189307705 tw17134364221199697909 tw13343624691744551043 tw13486392175587062910 tw10528217420781190540 tw3518019544861476709 tw12446513295010377780 tw12463134342382054963 tw17113648099396173741 tw6674174974832816281 tw4301106080287090570 tw2545775762823492123 tw18005263952739782098 tw7230316375331827331 tw8497255425990366614 tw12748594974155489494 tw12967745285718437084 tw13264905713512370082 tw12103841863459549108 tw17563047369764445581 tw167676303458813041 tw11449524029537122803 tw7133543349158950888 tw7709472470401218783 tw12811734670282949870 tw4171016802211485507 tw2887014343580016650 tw14881800158520904940 tw15819330734240963718 tw18312234334720917015 tw16723969874356844690 tw13129672234531514672 tw8671634198155329305 tw8041967155516998733 tw1253178170742404050 tw5825666009522415103 tw14692915985878598197 tw15100308380713166355 tw12514157080416047988 tw671437178920503627 tw17885935814836667487 tw14170902640668516081 tw1456860871710842931 tw12743233099940894242 tw11597869853653204290 tw8693888595044185896 tw12253630040527097278 tw9990053882430418862 tw11046249133728229967 tw15319211795100319764 tw9552203613293933750 tw11941564827279227876 tw6069728324218475865 tw2308043099167019923 tw8714204394220151860 tw16985623237429355598 tw11006473911728546191 tw13985430501338874860 tw6336661171615543588 tw9627636704336172860 tw2679459733364564253 tw12784728707124918951 tw7464721367918188864 tw10687298412674597520 tw6417402430689245300 tw10461338814007738023 tw12285391663593755831 tw14742533749400895859 tw17952820147251475541 tw14924161721066510618 tw12476183814425626006 tw649047827648316360 tw13770030143820465635 tw17089934767385566860 tw3239968723142438122 tw751283091601732325 tw8075410520597184108 tw16958952496925956510 tw3674514966205517634 tw12722407639781407965 tw4414647259149750759 tw17759522450343466510 tw3159600435199960137 tw13098943365991909616 tw9903450836567383134 tw3392316724273448662 tw16739937422369953776 tw10301253156297898313 tw9351351114808218582 tw13605820872323896752 tw6849437324486820023 tw7637416627209287430 tw5528320027958775906 tw444634768794481786 tw997403486558838035 tw6985019980455979737 tw17472800780774404078 tw15972826185446200844 tw17898360783332440837 tw3673344354408211633 tw17702866925257816630 tw2007119265321856373 tw6832655129722124118 tw14656316302391438409 tw16437309542605395914 tw13676940937564568504 tw11280956261890797732 tw8985855155171823522 tw11655519185992233368 tw10252253854191312772 tw13426894713383447037 tw6517620593803058766 tw16840273780122812146 tw12512858018703358028 tw15969776898981155672 tw659130778324809455 tw10437362768712333465 tw5531122052159000112 tw17937463234100579280 tw9299307275670571996 tw10780665869532672569 tw9249314745060257521 tw12176106821519776014 tw12224427150582135920 tw10599926082610416141 tw11093861991318658446 tw12228440845929762888 tw4989568340212558653 tw14049197433527422457 tw12189742035597894387 tw11656498204467947748 tw10380438060117915023 tw13404999328589690898 tw13866055110359016239 tw363901212995701668 tw9489047183844734269 tw498383179281111992 tw11267069815619342393 tw11081186842787240381 tw2908364832751401527 tw5489319233651603016 tw7953238947879764104 tw12233701026485043911 tw13660760660335230515 tw1443878012928761882 tw7139407549847690028 tw13871586165164109674 tw18084198103612998051 tw5739616844727749247 tw1025226113977835635 tw7087466819141905476 tw13410282680563367332 tw2299994343251546698 tw5699976743684898475 tw7909308121144868289 tw15640478721795094555 tw11603178541541480349 tw9190991121100042402 tw17082757873615298752 tw3422442252478603483 tw14214681281295202407 tw1651256756711299299 tw7470680811045282058 tw12164509769369033148 tw1973887853331380201 tw3254689539818154386 tw15088525285832514629:True)
open PySem PySem.W PyProof.Rows
set_option maxRecDepth 100000 in
set_option maxHeartbeats 0 in
theorem PySem.Challenge.cw_trudge_k85_needs_small_holds : PySem.Challenge.rw_trudge_k85_needs_small.Holds := by
  w_on;o_law;k_head;(case hw=>w_witness2)
  k_fill
  refine My.walk (l:=PySem.Challenge.rw_trudge_k85_needs_small) rfl rfl (fun w h Y=>PySem.W.kIn_of Y) ?F
  case F=>
    intro w mg fa h KX G hmg
    refine' My.all_mk KX G hmg ?h0 ?h1 ?h2 ?h3 ?h4 ?h5 ?h6 ?h7 ?h8 ?h9 ?h10 ?h11 ?h12 ?h13 ?h14 ?h15 ?h16 ?h17 ?h18 ?h19 ?h20 ?h21 ?h22 ?h23 ?h24 ?h25 ?h26 ?h27 ?h28 ?h29 ?h30 ?h31 ?h32 ?h33 ?h34 ?h35 ?h36 ?h37 ?h38 ?h39 ?h40 ?h41 ?h42 ?h43 ?h44 ?h45 ?h46 ?a47 ?l47 ?c47 ?k47 ?q_MANY ?q_WAYS ?q_START ?q_END ?q_CHANGE ?q_PLACE_spots ?q_LEVEL ?q_LEAST ?q_GAIN ?q_TOP ?q_TABLE ?q_RISEN ?q_FROM ?q_BY ?q_NUMBERS ?q_TIMES ?q_PLACE_springs ?q_GIFT ?q_BEGIN ?q_GOAL ?z_abs ?z_all ?z_any ?z_bool ?z_enumerate ?z_int ?z_isinstance ?z_len ?z_list ?z_max ?z_min ?z_range ?z_reversed ?z_sorted
    all_goals try (exact⟨_,by k_is,_,⟨_,_,_,_,_,_,_,_,_,rfl,by k_is,by k_is⟩,by k_is⟩)
    (case a47=>k_is);(case l47=>k_is);(case c47=>k_is);(case k47=>k_is)
    (case q_MANY=>k_is);(case q_WAYS=>k_is);(case q_START=>k_is);(case q_END=>k_is);(case q_CHANGE=>k_is);(case q_PLACE_spots=>k_is);(case q_LEVEL=>k_is);(case q_LEAST=>k_is);(case q_GAIN=>k_is);(case q_TOP=>k_is);(case q_TABLE=>k_is);(case q_RISEN=>k_is);(case q_FROM=>k_is);(case q_BY=>k_is);(case q_NUMBERS=>k_is);(case q_TIMES=>k_is);(case q_PLACE_springs=>k_is);(case q_GIFT=>k_is);(case q_BEGIN=>k_is);(case q_GOAL=>k_is)
    (case z_abs=>k_is);(case z_all=>k_is);(case z_any=>k_is);(case z_bool=>k_is);(case z_enumerate=>k_is);(case z_int=>k_is);(case z_isinstance=>k_is);(case z_len=>k_is);(case z_list=>k_is);(case z_max=>k_is);(case z_min=>k_is);(case z_range=>k_is);(case z_reversed=>k_is);(case z_sorted=>k_is)
