import PyProof.Rows.All
import Wide.All
import OpenK.AllK
import Wide.FinOn
import Lean
import PyProof.EqAt
import PyProof.EqKinds
import PyProof.TupleCall
import PySem.Challenge.RW_thingyard_k44_steps_and_signs
set_option Elab.async false
set_option linter.all false
set_option maxRecDepth 100000
noncomputable section
namespace L2
open PySem PySem.Spec PyProof.Rows
noncomputable abbrev Key:=Sum Int Str
noncomputable def zDi:Key->Value->Bool
 | .inl k,v=>Value.isInt k v
 | .inr x,v=>Value.isStrOf x v
noncomputable def zSd (w:World):Key->Int
 | .inl k=>hashInt k
 | .inr x=>hashStr w x
theorem qx:∀ {k:Key}{v:Value},zDi k v=true->(∃ i t,k=Sum.inl i/\v=Value.int i t)\/(∃ x t,k=Sum.inr x/\v=Value.str x t)
 | .inl i,v,h=>by
  obtain⟨t,e⟩:=Value.isInt_shape (k:=i) (v:=v) h
  exact .inl ⟨i,t,rfl,e⟩
 | .inr x,v,h=>by
  obtain⟨t,e⟩:=Value.isStrOf_shape (x:=x) (v:=v) h
  exact .inr ⟨x,t,rfl,e⟩
theorem zLk (i:Int) (t:Tok):zDi (.inl i) (.int i t)=true:=by simp[zDi,Value.isInt]
theorem zKz (x:Str) (t:Tok):zDi (.inr x) (.str x t)=true:=by simp[zDi,Value.isStrOf]
theorem zRY (a b:Int):decide ((Sum.inl a:Key)=Sum.inl b)=(a == b):=by
 by_cases e:a=b
 ·subst e;simp
 ·have h:¬ (Sum.inl a:Key)=Sum.inl b:=fun q=>e (Sum.inl.inj q)
  rw[decide_eq_false h]
  exact (beq_eq_false_iff_ne.mpr e).symm
theorem zP7 (a b:Str):decide ((Sum.inr a:Key)=Sum.inr b)=decide (a=b):=by
 by_cases e:a=b
 ·subst e;simp
 ·have h:¬ (Sum.inr a:Key)=Sum.inr b:=fun q=>e (Sum.inr.inj q)
  rw[decide_eq_false h,decide_eq_false e]
theorem zPp (a:Int) (b:Str):decide ((Sum.inl a:Key)=Sum.inr b)=false:=decide_eq_false (fun q=>nomatch q)
theorem zPU (a:Str) (b:Int):decide ((Sum.inr a:Key)=Sum.inl b)=false:=decide_eq_false (fun q=>nomatch q)
noncomputable def yI (prog:Program) (w:World):PySem.KeyKind prog w Key where
 is:=zDi
 hash:=zSd w
 inj:=fun v a b ha hb=>by
  rcases qx ha with ⟨i,t,rfl,rfl⟩ | ⟨x,t,rfl,rfl⟩
  ·rcases qx hb with ⟨j,u,rfl,e⟩ | ⟨y,u,rfl,e⟩
   ·injection e with e1 _;rw[e1]
   ·exact nomatch e
  ·rcases qx hb with ⟨j,u,rfl,e⟩ | ⟨y,u,rfl,e⟩
   ·exact nomatch e
   ·injection e with e1 _;rw[e1]
 byValue:=fun k v h=>by
  rcases qx h with ⟨i,t,rfl,rfl⟩ | ⟨x,t,rfl,rfl⟩<;>rfl
 pyHash:=fun hv h=>by
  rcases qx hv with ⟨i,t,rfl,rfl⟩ | ⟨x,t,rfl,rfl⟩
  ·exact wpAny_pyHash_int h
  ·exact wpAny_pyHash_str h
 eqBool:=fun hu hv h=>by
  rcases qx hu with ⟨i,t,rfl,rfl⟩ | ⟨x,t,rfl,rfl⟩
  ·rcases qx hv with ⟨j,u,rfl,rfl⟩ | ⟨y,u,rfl,rfl⟩
   ·rw[zRY] at h;exact wpAny_eqBool_int h
   ·rw[zPp] at h;exact SeqAt.EqAt.int_str i t y u _ _ _ _ h
  ·rcases qx hv with ⟨j,u,rfl,rfl⟩ | ⟨y,u,rfl,rfl⟩
   ·rw[zPU] at h;exact SeqAt.EqAt.str_int x t j u _ _ _ _ h
   ·rw[zP7] at h;exact wpAny_eqBool_str h
 «strs» := fun k x t v h=>by
  rcases qx h with ⟨i,u,rfl,e⟩ | ⟨y,u,rfl,e⟩
  ·exact nomatch e
  ·injection e with e1 _
   subst e1
   cases v<;>rfl
theorem zIW (prog:Program) (w:World) (i:Int) (t:Tok):(yI prog w).is (.inl i) (.int i t)=true:=zLk i t
theorem zIn (prog:Program) (w:World) (x:Str) (t:Tok):(yI prog w).is (.inr x) (.str x t)=true:=zKz x t
end L2
namespace L2
open PySem PySem.Spec PyProof.Rows
inductive V where
 | non | bl (b:Bool) | int (i:Int) | str (x:Str) | byt (b:Array UInt8) | flt (b:UInt64) | ref (a:Addr) | ty (n:String)
 deriving DecidableEq
noncomputable def zg:V->Value->Prop
 | .non,u=>u=Value.none
 | .bl b,u=>u=Value.bool b
 | .int i,u=>∃ t,u=Value.int i t
 | .str x,u=>∃ t,u=Value.str x t
 | .byt b,u=>∃ t,u=Value.bytes b t
 | .flt b,u=>∃ t,u=Value.float b t
 | .ref a,u=>u=Value.ref a
 | .ty n,u=>u=Value.type n
noncomputable abbrev zU:List V->List Value->Prop:=Paired zg
theorem zU.length {xs:List V}{us:List Value} (r:zU xs us):xs.length=us.length:=Paired.length r
theorem zU.get:∀ {xs:List V}{us:List Value}{i:Nat}{x:V},zU xs us->xs[i]? = some x->∃ u,us[i]? = some u/\zg x u
 | _,_,_,_,.nil,e=>by simp at e
 | _,_,0,_,.cons r _,e=>by simp at e;subst e;exact⟨_,rfl,r⟩
 | _,_,i+1,x,.cons _ t,e=>by
  obtain⟨u,h1,h2⟩:=zU.get (i:=i) (x:=x) t (by simpa using e)
  exact⟨u,by simpa using h1,h2⟩
theorem zU.set {x:V}{u:Value} (r:zg x u):∀ {xs:List V}{us:List Value} (i:Nat),zU xs us->zU (xs.set i x) (us.set i u)
 | _,_,_,.nil=>.nil
 | _,_,0,.cons _ t=>.cons r t
 | _,_,i+1,.cons q t=>.cons q (zU.set r i t)
theorem zU.append:∀ {xs ys:List V}{us ws:List Value},zU xs us->zU ys ws->zU (xs++ys) (us++ws)
 | _,_,_,_,.nil,s=>s
 | _,_,_,_,.cons r t,s=>.cons r (zU.append t s)
theorem zU.take:∀ {xs:List V}{us:List Value} (n:Nat),zU xs us->zU (xs.take n) (us.take n)
 | _,_,0,_=>.nil
 | _,_,_+1,.nil=>.nil
 | _,_,n+1,.cons r t=>.cons r (zU.take n t)
theorem zU.drop:∀ {xs:List V}{us:List Value} (n:Nat),zU xs us->zU (xs.drop n) (us.drop n)
 | _,_,0,r=>r
 | _,_,_+1,.nil=>.nil
 | _,_,n+1,.cons _ t=>zU.drop n t
noncomputable def Qi:Option V->Option Value->Prop
 | some v,some u=>zg v u
 | none,none=>True
 | _,_=>False
noncomputable def KV {κ:Type}:List (κ×V)->List (κ×Value)->Prop:=Paired fun (p:κ×V) (q:κ×Value)=>p.1=q.1/\zg p.2 q.2
noncomputable def kV:Key->V
 | .inl i=>.int i
 | .inr x=>.str x
inductive HO where
 | lst (xs:List V)
 | tup (xs:List V)
 | dK (kvs:List (Key×V)) | dT (kvs:List (List Key×V))
 | set (S:Int->Bool) (n:Nat)
 | ins (C dx:Addr) (fs:List (Str×V))
 | own (x:Addr)
 | xd (fs:List (Str×V))
 | met (f x:Addr)
 | rng (lo hi:Int)
 | frz (o:Obj) (u:HO)
 | tbl (ps:Array Value)
 | ext (φ:Heap->Prop)
noncomputable abbrev Hp:=Addr->Option HO
noncomputable def upd (H:Hp) (a:Addr) (o:HO):Hp:=fun b=>if b=a then some o else H b
theorem qD {H:Hp}{a:Addr}{o:HO}:upd H a o a=some o:=by unfold upd;rw[if_pos rfl]
theorem jP {H:Hp}{a b:Addr}{o:HO} (h:b≠a):upd H a o b=H b:=by unfold upd;rw[if_neg h]
theorem zRj {H:Hp}{a b:Addr}{o u:HO} (h:H a=some o) (h':H b=some u) (d:o≠u):a≠b:=by
 intro e;subst e;rw[h] at h';exact d (Option.some.inj h')
theorem Zg {H:Hp}{a b:Addr}{o:HO} (h:H a=some o) (h':H b=none):a≠b:=by
 intro e;subst e;rw[h] at h';cases h'
section
variable (P:Program) (w:World)
noncomputable def qN (H:Hp) (h:Heap) (a:Addr):HO->Prop
 | .lst xs=>xs.length <= sizeLine/\∃ (its:List Value) (n:Nat),zU xs its/\h.get? a=some { cls:=.type "list",data:=.seq its.toArray n }
 | .tup xs=>xs.length <= sizeLine/\∃ its:List Value,zU xs its/\IsTup h a its.toArray
 | .dK kvs=>kvs.length <= sizeLine/\(a == sysModules)=false/\∃ vs,KV kvs vs/\h.DictOf (yI P w) a vs
 | .dT kvs=>kvs.length <= sizeLine/\(a == sysModules)=false/\∃ xs:List (List Key×Addr×Value),
   Paired (fun (p:List Key×V) (q:List Key×Addr×Value)=>p.1=q.1/\H q.2.1=some (.tup (p.1.map kV))/\zg p.2 q.2.2) kvs xs /\
   ∃ o es ep,h.get? a=some o/\o.ExactDict/\o.data=.dict es ep/\es.toList=xs.map (entryOfKey (tupleKind (yI P w)))/\(xs.map (·.1)).Nodup
 | .set S n=>h.SetOf (intKind P w) a S n
 | .ins C dx fs=>H dx=some (.own a)/\fs.length <= 1000/\dx≠a/\h.get? a=some (PySem.W.instObj C dx) /\
   ∃ mA,h.Ns1 dx mA/\(∀ f,Qi (fs.lookup f) (mA f))/\PySem.Within mA (fs.map (·.1))
 | .own _=>∃ o,h.get? a=some o
 | .xd fs=>∃ mA,h.Ns1 a mA/\∀ f,Qi (fs.lookup f) (mA f)
 | .rng lo hi=>∃ t u v,h.get? a=some { cls:=.type "range",data:=.fields #[.int lo t,.int hi u,.int 1 v] }
 | .frz o u=>h.get? a=some o/\qN H h a u
 | .tbl ps=>h.get? a=some { cls:=.none,data:=.fields ps }
 | .met f x=>h.get? a=some (PySem.W.methodObj (.ref f) (.ref x))
 | .ext φ=>φ h/\(∃ o,h.get? a=some o)/\∀ h1 h2:Heap,φ h1->(∀ o,h1.get? a=some o->h2.get? a=some o)->φ h2
noncomputable def HOk (H:Hp) (h:Heap):Prop:=∀ a o,H a=some o->qN P w H h a o
end
section
variable {P:Program}{w:World}{H H':Hp}{h h':Heap}{a:Addr}{o:HO}
theorem qN.lt (x:qN P w H h a o):a < h.objs.size:=by
 cases o with
 | lst xs=>obtain⟨_,_,_,_,e⟩:=x;exact Heap.lt_size e
 | tup xs=>obtain⟨_,_,_,p⟩:=x;exact p.lt
 | dK kvs=>obtain⟨_,_,_,_,o,_,_,e,_⟩:=x;exact Heap.lt_size e
 | dT kvs=>obtain⟨_,_,_,_,o,_,_,e,_⟩:=x;exact Heap.lt_size e
 | set S n=>obtain⟨o,_,_,_,e,_⟩:=x;exact Heap.lt_size e
 | ins C dx fs=>obtain⟨_,_,_,e,_⟩:=x;exact Heap.lt_size e
 | own y=>obtain⟨_,e⟩:=x;exact Heap.lt_size e
 | xd fs=>obtain⟨_,⟨_,_,_,e,_⟩,_⟩:=x;exact Heap.lt_size e
 | rng lo hi=>obtain⟨_,_,_,e⟩:=x;exact Heap.lt_size e
 | frz ob u=>obtain⟨e,_⟩:=x;exact Heap.lt_size e
 | tbl ps=>exact Heap.lt_size (show h.get? a=some _ from x)
 | met f y=>exact Heap.lt_size (show h.get? a=some _ from x)
 | ext φ=>obtain⟨_,⟨_,e⟩,_⟩:=x;exact Heap.lt_size e
theorem Paired.mapP {α β:Type}{F G:α->β->Prop}:∀ {l₁:List α}{l₂:List β},Paired F l₁ l₂->(∀ a b,F a b->G a b)->Paired G l₁ l₂
 | _,_,.nil,_=>.nil
 | _,_,.cons r t,f=>.cons (f _ _ r) (Paired.mapP t f)
theorem qN.stay (x:qN P w H h a o) (k:∀ b u,(b=a\/H b=some (.own a))->h.get? b=some u->h'.get? b=some u)
  (ho:∀ b,H b=some (.own a)->H' b=some (.own a)) (ht:∀ b xs,H b=some (.tup xs)->H' b=some (.tup xs)):qN P w H' h' a o:=by
 induction o with
 | lst xs=>obtain⟨z,its,n,r,e⟩:=x;exact⟨z,its,n,r,k _ _ (.inl rfl) e⟩
 | tup xs=>obtain⟨z,its,r,ob,e,c⟩:=x;exact⟨z,its,r,ob,k _ _ (.inl rfl) e,c⟩
 | dK kvs=>obtain⟨z,y,vs,r,ob,es,ep,e,c⟩:=x;exact⟨z,y,vs,r,ob,es,ep,k _ _ (.inl rfl) e,c⟩
 | dT kvs =>
  obtain⟨z,y,xs,r,ob,es,ep,e,c⟩:=x
  exact⟨z,y,xs,Paired.mapP r fun p q z=>⟨z.1,ht _ _ z.2.1,z.2.2⟩,ob,es,ep,k _ _ (.inl rfl) e,c⟩
 | set S n=>obtain⟨ob,es,ep,t,e,c⟩:=x;exact⟨ob,es,ep,t,k _ _ (.inl rfl) e,c⟩
 | ins C dx fs =>
  obtain⟨d,z,ne,e,mA,⟨od,es,ep,e2,c⟩,r⟩:=x
  exact⟨ho _ d,z,ne,k _ _ (.inl rfl) e,mA,⟨od,es,ep,k _ _ (.inr d) e2,c⟩,r⟩
 | own y=>obtain⟨ob,e⟩:=x;exact⟨ob,k _ _ (.inl rfl) e⟩
 | xd fs=>obtain⟨mA,⟨od,es,ep,e,c⟩,r⟩:=x;exact⟨mA,⟨od,es,ep,k _ _ (.inl rfl) e,c⟩,r⟩
 | rng lo hi=>obtain⟨t,u,v,e⟩:=x;exact⟨t,u,v,k _ _ (.inl rfl) e⟩
 | frz ob u ih=>obtain⟨e,q⟩:=x;exact⟨k _ _ (.inl rfl) e,ih q⟩
 | tbl ps =>
  have e:h.get? a=some { cls:=.none,data:=.fields ps }:=x
  show h'.get? a=some { cls:=.none,data:=.fields ps }
  exact k a _ (.inl rfl) e
 | met f y =>
  have e:h.get? a=some (PySem.W.methodObj (.ref f) (.ref y)):=x
  show h'.get? a=some (PySem.W.methodObj (.ref f) (.ref y))
  exact k a _ (.inl rfl) e
 | ext φ=>obtain⟨p,⟨o,e⟩,st⟩:=x;exact⟨st _ _ p fun o q=>k _ _ (.inl rfl) q,⟨o,k _ _ (.inl rfl) e⟩,st⟩
theorem HOk.lt (x:HOk P w H h) (e:H a=some o):a < h.objs.size:=(x a o e).lt
theorem HOk.fresh (x:HOk P w H h) (e:h.objs.size <= a):H a=none:=by
 cases q:H a with
 | none=>rfl
 | some u=>exact absurd (Nat.lt_of_lt_of_le (x.lt q) e) (Nat.lt_irrefl _)
theorem HOk.kept (x:HOk P w H h) (k:∀ b u,h.get? b=some u->h'.get? b=some u):HOk P w H h':=fun a o e =>
 (x a o e).stay (fun b u _ q=>k b u q) (fun _ q=>q) fun _ _ q=>q
theorem HOk.laid (x:HOk P w H h) (k:∀ b u,h.get? b=some u->h'.get? b=some u) (hp:h.objs.size <= a) (new:qN P w (upd H a o) h' a o):HOk P w (upd H a o) h':=fun b u e=>by
 have hn:=x.fresh hp
 by_cases hb:b=a
 ·subst hb;rw[qD] at e;cases e;exact new
 ·rw[jP hb] at e
  exact (x b u e).stay (fun c v _ q=>k c v q) (fun c q=>by rw[jP (Zg q hn)];exact q) fun c xs q=>by rw[jP (Zg q hn)];exact q
end
noncomputable def Rd (H:Hp) (a:Addr) (u:HO):Prop:=H a=some u\/∃ o,H a=some (.frz o u)
theorem Rd.ok {P:Program}{w:World}{H:Hp}{h:Heap}{a:Addr}{u:HO} (r:Rd H a u) (x:HOk P w H h):qN P w H h a u:=by
 rcases r with r | ⟨o,r⟩
 ·exact x a u r
 ·obtain⟨_,q⟩:=x a _ r
  exact q
noncomputable def Mut:Option HO->Prop
 | some (.lst _)=>True
 | some (.dK _)=>True
 | some (.dT _)=>True
 | some (.set _ _)=>True
 | some (.ins _ _ _)=>True
 | some (.ext _)=>True
 | _=>False
section
variable {P:Program}{w:World}{H:Hp}{h h':Heap}{x e:Addr}{o':HO}
theorem HOk.write (ok:HOk P w H h) (mu:Mut (H x)) (he:e=x\/H e=some (.own x)) (k:∀ b u,b≠e->h.get? b=some u->h'.get? b=some u) (heo:∃ u,h'.get? e=some u)
  (new:qN P w (upd H x o') h' x o'):HOk P w (upd H x o') h':=fun b u q=>by
 have nown:∀ c y,H c=some (.own y)->c≠x:=fun c y r z=>by subst z;rw[r] at mu;exact mu
 have ntup:∀ c xs,H c=some (.tup xs)->c≠x:=fun c xs r z=>by subst z;rw[r] at mu;exact mu
 by_cases hb:b=x
 ·subst hb;rw[qD] at q;cases q;exact new
 ·rw[jP hb] at q
  by_cases hbe:b=e
  ·have q':H b=some (.own x):=by
    rcases he with z | z
    ·exact absurd (hbe.trans z) hb
    ·rw[hbe];exact z
   rw[q] at q';cases q'
   obtain⟨v,hv⟩:=heo
   exact⟨v,by rw[hbe];exact hv⟩
  ·refine (ok b u q).stay (fun c v hc r=>k c v ?_ r) (fun c r=>by rw[jP (nown c b r)];exact r) fun c xs r=>by rw[jP (ntup c xs r)];exact r
   rcases hc with rfl | hc
   ·exact hbe
   ·rintro rfl
    rcases he with z | z
    ·exact nown c b hc z
    ·rw[hc] at z;cases z;exact hb rfl
end
structure Un (fs ex:List Addr) (H H':Hp) (h h':Heap):Prop where
 keep:∀ b o,h.get? b=some o->H b=none->b∉fs->b∉ex->h'.get? b=some o
 slot:∀ b o,h.get? b=some o->H b=none->b∈fs->b∉ex->∃ sl,h'.get? b=some { o with slots:=sl }
 free:∀ b o,h.get? b=some o->H b=none->b∉ex->H' b=none
 there:∀ b o,h.get? b=some o->b∉ex->∃ o',h'.get? b=some o'
 tups:∀ b xs,H b=some (.tup xs)->H' b=some (.tup xs)
 frzs:∀ b o u,H b=some (.frz o u)->H' b=some (.frz o u)
 tbls:∀ b ps,H b=some (.tbl ps)->∃ more,H' b=some (.tbl (ps++more))
section
variable {fs fs' ex ex':List Addr}{H H1 H2:Hp}{h h1 h2 h':Heap}{a x e:Addr}{o:HO}
theorem Un.any (u:Un fs ex H H1 h h1) {b:Addr}{ob:Obj} (q:h.get? b=some ob) (n:H b=none) (hx:b∉ex):∃ sl,h1.get? b=some { ob with slots:=sl }:=by
 by_cases hb:b∈fs
 ·exact u.slot b ob q n hb hx
 ·exact⟨ob.slots,u.keep b ob q n hb hx⟩
theorem Un.kept (k:∀ b u,h.get? b=some u->h'.get? b=some u):Un fs ex H H h h' :=
 ⟨fun b ob q _ _ _=>k b ob q,fun b ob q _ _ _=>⟨ob.slots,k b ob q⟩,fun _ _ _ n _=>n,fun b ob q _=>⟨ob,k b ob q⟩,fun _ _ q=>q,fun _ _ _ q=>q,fun _ ps q=>⟨#[],by rw[q];simp⟩⟩
theorem Un.refl:Un fs ex H H h h:=Un.kept fun _ _ q=>q
theorem Un.laid (k:∀ b u,h.get? b=some u->h'.get? b=some u) (hp:h.objs.size <= a) (hn:H a=none):Un fs ex H (upd H a o) h h' where
 keep:=fun b u q _ _ _=>k b u q
 slot:=fun b u q _ _ _=>⟨u.slots,k b u q⟩
 free:=fun b u q n _=>by rw[jP (Nat.ne_of_lt (Nat.lt_of_lt_of_le (Heap.lt_size q) hp))];exact n
 there:=fun b u q _=>⟨u,k b u q⟩
 tups:=fun b xs q=>by rw[jP (Zg q hn)];exact q
 frzs:=fun b u xs q=>by rw[jP (Zg q hn)];exact q
 tbls:=fun b ps q=>⟨#[],by rw[jP (Zg q hn),q];simp⟩
theorem Un.write (mu:Mut (H x)) (he:e=x\/H e=some (.own x)) (k:∀ b u,b≠e->h.get? b=some u->h'.get? b=some u) (heo:∃ u,h'.get? e=some u):Un fs ex H (upd H x o) h h':=by
 have hx:∀ b,H b=none->b≠x:=fun b n z=>by subst z;rw[n] at mu;exact mu
 have hb:∀ b,H b=none->b≠e:=fun b n z=>by
  subst z
  rcases he with r | r
  ·exact hx b n r
  ·rw[n] at r;cases r
 have hm:∀ b u,H b=some u -> ¬ Mut (some u)->b≠x:=fun b u q nm z=>by subst z;rw[q] at mu;exact nm mu
 refine⟨fun b u q n _ _=>k b u (hb b n) q,fun b u q n _ _=>⟨u.slots,k b u (hb b n) q⟩,fun b u q n _=>by rw[jP (hx b n)];exact n,fun b u q _=>?_,
  fun b xs q=>by rw[jP (hm b _ q fun z=>z)];exact q,fun b u xs q=>by rw[jP (hm b _ q fun z=>z)];exact q,fun b ps q=>⟨#[],by rw[jP (hm b _ q fun z=>z),q];simp⟩⟩
 by_cases hbe:b=e
 ·subst hbe;exact heo
 ·exact⟨u,k b u hbe q⟩
end
noncomputable def trk (h:Heap) (H:Hp):List Addr:=(List.range h.objs.size).filter fun a=>(H a).isSome
noncomputable def zCX (h:Heap) (H:Hp):Heap:=PySem.W.hideAll h (trk h H)
theorem zLh (h:Heap) (H:Hp):(zCX h H).objs.size=h.objs.size:=PySem.W.hideAll_size _ _
theorem zNU {h:Heap}{H:Hp}{b:Addr}{o:Obj} (e:h.get? b=some o) (n:H b=none):(zCX h H).get? b=some o :=
 PySem.W.hideAll_get _ e fun hm=>by
  have q:(H b).isSome=true:=(List.mem_filter.mp hm).2
  rw[n] at q;simp at q
theorem zOv {h:Heap}{H:Hp}{b:Addr}{o:Obj} (e:(zCX h H).get? b=some o):h.get? b=some o/\H b=none:=by
 have e':h.get? b=some o:=PySem.W.of_hideAll (trk h H) e
 refine⟨e',?_⟩
 cases q:H b with
 | none=>rfl
 | some x =>
  have hm:b∈trk h H:=List.mem_filter.mpr ⟨List.mem_range.mpr (Heap.lt_size e'),by simp[q]⟩
  have z:(zCX h H).get? b=none:=PySem.W.hideAll_none (trk h H) hm
  rw[z] at e;cases e
noncomputable def zOl (g h:Heap) (L:Addr):List (Addr×Obj):=(List.range h.objs.size).filterMap fun a=>if a=L\/(g.get? a).isSome=true then none else (h.get? a).map fun o=>(a,o)
noncomputable def qU (g h:Heap) (L d:Addr):List (Addr×Obj):=(zOl g h L).filter fun p=>decide (p.1≠d)
end L2
namespace L2
open PySem PySem.Spec PyProof.Rows
structure Mod (K:PySem.W.Frag) (mg:Str->Option Value) (base:Heap):Prop where
 kin:K.In base
 glob:base.Ns mainGlobals mg
 blt:∃ mb,base.Ns builtinsNs mb/\∀ x:Str,x ≠ "__name__" -> mb x=bootBuiltins x
 nolimit:base.NoLimit
structure Cx where
 prog:Program
 w:World
 K:PySem.W.Frag
 mg:Str->Option Value
 base:Heap
 A:Around
 N:List Str
 s₀:Shared
 H₀:Hp
 env:Env
 outer:List Env
 stack:List Env
 ex:List Addr
 fn:Str->Bool
 calm:Bool
 pn:List (Addr×Obj)
 xe:Value->Shared->Prop
noncomputable def frs (l:List Env):List Addr:=l.filterMap (·.frame)
noncomputable abbrev Cx.fs (X:Cx):List Addr:=frs X.outer
noncomputable def Vis (sc:Scope) (x:Str):Prop:=sc.names.lookup x=some .local\/sc.names.lookup x=some .cell\/sc.names.lookup x=some .free
noncomputable def Loc (sc:Scope) (x:Str):Prop:=sc.names.lookup x=some .local\/sc.names.lookup x=some .cell
noncomputable def zSm (env:Env) (h:Heap) (m:Str->Option Value) (x:Str) (u:Value):Prop :=
 (env.kindOf x=some .local/\m x=some u)\/((env.kindOf x=some .cell\/env.kindOf x=some .free)/\∃ c,env.cells.lookup x=some c/\h.IsCell c (some u))
structure Cx.Ok (X:Cx):Prop where
 mod:Mod X.K X.mg X.base
 kind:X.env.scope.kind=.function
 glob:X.env.globals=mainGlobals
 blt:X.env.builtins=builtinsNs
 above:X.s₀.heap.objs.size <= X.env.locals
 inj:∀ x y c,X.env.cells.lookup x=some c->X.env.cells.lookup y=some c->x=y
 has:∀ x,(X.env.kindOf x=some .cell\/X.env.kindOf x=some .free)->∃ c,X.env.cells.lookup x=some c
 cab:∀ x c,X.fn x=true->X.env.cells.lookup x=some c->X.s₀.heap.objs.size <= c
 hd:X.calm=true->X.A.handled=none
 frames:X.A.frames=some X.stack
 stk:X.stack=X.outer\/(X.stack=X.env::X.outer/\X.env.frame=some X.env.locals)
 exf:∀ b∈X.ex,b≠X.env.locals/\∀ x c,X.env.cells.lookup x=some c->c≠b
 bs:∀ b o,X.base.get? b=some o->X.s₀.heap.get? b=some o/\X.H₀ b=none
 bsz:X.base.objs.size <= X.s₀.heap.objs.size
 noex:∀ b o,X.base.get? b=some o->b∉X.ex
 exfs:∀ b∈X.ex,b∉X.fs
 funs:X.s₀.heap.FunFrames X.base X.outer
 frf:∀ b∈X.fs,X.H₀ b=none
structure Inv (X:Cx) (pins:List (Addr×Obj)) (σ:List (Option V)) (H:Hp) (s:Shared):Prop where
 ok:X.Ok
 os:s.os=X.s₀.os
 bare:AllBare s.gens
 base:Un X.fs X.ex X.H₀ H X.s₀.heap s.heap
 loc:∃ m,s.heap.Ns X.env.locals m/\∀ (i:Nat) (x:Str) (v:V),X.N[i]? = some x->σ[i]? = some (some v)->Vis X.env.scope x->∃ u,zg v u/\zSm X.env s.heap m x u
 cell:∀ x c,X.env.cells.lookup x=some c->∃ v,s.heap.IsCell c v
 free:H X.env.locals=none
 freeC:∀ x c,X.env.cells.lookup x=some c->H c=none
 pin:∀ p∈X.pn++pins,s.heap.get? p.1=some p.2/\H p.1=none/\p.1≠X.env.locals/\p.1∉X.fs/\∀ v,p.2.data≠.cell v
 hok:HOk X.prog X.w H s.heap
 len:σ.length=X.N.length
 tk:0 < s.toks
section
variable {X:Cx}{pins:List (Addr×Obj)}{σ:List (Option V)}{H H':Hp}{s:Shared}{h':Heap}
theorem Cx.Ok.nofr (ok:X.Ok) {b:Addr}{o:Obj} (e:X.base.get? b=some o):b∉X.fs:=fun hb=>by
 have:=(ok.funs.mem hb).1
 rw[e] at this;cases this
theorem Inv.bs (I:Inv X pins σ H s):∀ b o,X.base.get? b=some o->s.heap.get? b=some o/\H b=none:=fun b o e =>
 ⟨I.base.keep b o (I.ok.bs b o e).1 (I.ok.bs b o e).2 (I.ok.nofr e) (I.ok.noex b o e),I.base.free b o (I.ok.bs b o e).1 (I.ok.bs b o e).2 (I.ok.noex b o e)⟩
theorem Inv.bk (I:Inv X pins σ H s):∀ b o,X.base.get? b=some o->s.heap.get? b=some o:=fun b o e=>(I.bs b o e).1
theorem Inv.mod (I:Inv X pins σ H s):Mod X.K X.mg X.base:=I.ok.mod
theorem Inv.kIn (I:Inv X pins σ H s):X.K.In s.heap:=I.ok.mod.kin.keeps I.bk
theorem Inv.fr (I:Inv X pins σ H s):∃ m,Fr X.base X.env.locals s.heap m :=
 let ⟨m,hn,_⟩:=I.loc
 ⟨m,hn,I.bk,Nat.le_trans I.ok.bsz I.ok.above⟩
theorem Inv.lt (I:Inv X pins σ H s):X.env.locals < s.heap.objs.size:=let ⟨_,hn,_⟩:=I.loc;hn.lt
theorem Inv.sz (I:Inv X pins σ H s):X.s₀.heap.objs.size <= s.heap.objs.size:=Nat.le_trans I.ok.above (Nat.le_of_lt I.lt)
theorem Inv.nofs (I:Inv X pins σ H s) {a:Addr} (h:s.heap.objs.size <= a):a∉X.fs:=fun hb=>by
 obtain⟨_,o,ho,_⟩:=I.ok.funs.mem hb
 exact absurd (Nat.lt_of_lt_of_le (Heap.lt_size ho) (Nat.le_trans I.sz h)) (Nat.lt_irrefl _)
theorem Inv.cne (I:Inv X pins σ H s):∀ x c,X.env.cells.lookup x=some c->c≠X.env.locals:=fun x c e z=>by
 obtain⟨v,o,ho,hd⟩:=I.cell x c e
 obtain⟨m,⟨o',es,ep,ho',hd',_⟩,_⟩:=I.loc
 rw[z,ho'] at ho;cases ho;rw[hd'] at hd;cases hd
theorem Inv.funs (I:Inv X pins σ H s):s.heap.FunFrames X.base X.outer:=by
 have all:∀ (l:List Env),(∀ b∈frs l,b∈X.fs)->X.s₀.heap.FunFrames X.base l->s.heap.FunFrames X.base l:=by
  intro l
  induction l with
  | nil=>intro _ _;trivial
  | cons env r ih =>
   intro hs hl
   obtain⟨hk,⟨L,o,hf,hn,ho,hd⟩,hr⟩:=hl
   have hL:L∈X.fs:=hs L (by unfold frs;rw[List.filterMap_cons,hf];exact List.mem_cons_self)
   obtain⟨sl,e⟩:=I.base.slot L o ho (I.ok.frf L hL) hL fun z=>I.ok.exfs L z hL
   exact⟨hk,⟨L,_,hf,hn,e,hd⟩,ih (fun b hb=>hs b (by unfold frs;rw[List.filterMap_cons,hf];exact List.mem_cons_of_mem _ hb)) hr⟩
 exact all X.outer (fun _ hb=>hb) I.ok.funs
theorem Inv.stack (I:Inv X pins σ H s):s.heap.FunFrames X.base X.stack:=by
 rcases I.ok.stk with e | ⟨e,hf⟩
 ·rw[e];exact I.funs
 ·rw[e]
  obtain⟨m,hn,_⟩:=I.loc
  refine .cons (by rw[I.ok.kind];decide) hf hn ?_ I.funs
  exact Heap.get?_none_of_le (Nat.le_trans I.ok.bsz I.ok.above)
theorem Inv.stkSub (I:Inv X pins σ H s):∀ b∈frs X.stack,b∈X.env.locals::X.fs:=fun b hb=>by
 rcases I.ok.stk with e | ⟨e,hf⟩
 ·rw[e] at hb;exact List.mem_cons_of_mem _ hb
 ·rw[e] at hb
  unfold frs at hb
  rw[List.filterMap_cons,hf] at hb
  exact hb
theorem Inv.stkFree (I:Inv X pins σ H s):∀ b∈frs X.stack,H b=none:=fun b hb=>by
 rcases List.mem_cons.mp (I.stkSub b hb) with e | hb
 ·rw[e];exact I.free
 ·obtain⟨_,o,ho,_⟩:=I.ok.funs.mem hb
  exact I.base.free b o ho (I.ok.frf b hb) fun z=>I.ok.exfs b z hb
theorem Inv.step {g':Array GenState}{t':Nat}{d':Drawn}{ch:List Addr} (I:Inv X pins σ H s)
  (hch:∀ b∈ch,(b∈X.ex\/X.s₀.heap.objs.size <= b)/\b≠X.env.locals/\(∀ x c,X.env.cells.lookup x=some c->c≠b)/\∀ p∈X.pn++pins,p.1≠b)
  (keep:∀ b o,b≠X.env.locals->b∉X.fs->b∉ch->s.heap.get? b=some o->H b=none->h'.get? b=some o)
  (slot:∀ b o,b≠X.env.locals->b∈X.fs->b∉ch->s.heap.get? b=some o->H b=none->∃ sl,h'.get? b=some { o with slots:=sl }) (free:∀ b o,b∉ch->s.heap.get? b=some o->H b=none->H' b=none)
  (there:∀ b o,b∉ch->s.heap.get? b=some o->∃ o',h'.get? b=some o')
  (tups:∀ b xs,H b=some (.tup xs)->H' b=some (.tup xs)) (frzs:∀ b o u,H b=some (.frz o u)->H' b=some (.frz o u)) (tbls:∀ b ps,H b=some (.tbl ps)->∃ more,H' b=some (.tbl (ps++more)))
  (ns:∀ m,s.heap.Ns X.env.locals m->h'.Ns X.env.locals m) (hok:HOk X.prog X.w H' h') (hg:AllBare g') (ht:0 < t':=by first | exact Nat.succ_pos _ | assumption | exact Inv.tk (by assumption) | omega) :
  Inv X pins σ H' { s with heap:=h',gens:=g',drawn:=d',toks:=t' }:=by
 have neL:∀ b o,X.s₀.heap.get? b=some o->b≠X.env.locals:=fun b o e=>Nat.ne_of_lt (Nat.lt_of_lt_of_le (Heap.lt_size e) I.ok.above)
 have neC:∀ b o,X.s₀.heap.get? b=some o->b∉X.ex->b∉ch:=fun b o e hx hb=>by
  rcases (hch b hb).1 with z | z
  ·exact hx z
  ·exact absurd (Nat.lt_of_lt_of_le (Heap.lt_size e) z) (Nat.lt_irrefl _)
 have cellK:∀ x c,X.env.cells.lookup x=some c->∀ v,s.heap.IsCell c v->h'.IsCell c v:=fun x c e v ⟨o,ho,hd⟩=>by
  have nch:c∉ch:=fun z=>(hch c z).2.2.1 x c e rfl
  by_cases hc:c∈X.fs
  ·obtain⟨sl,q⟩:=slot c o (I.cne x c e) hc nch ho (I.freeC x c e)
   exact⟨_,q,hd⟩
  ·exact⟨o,keep c o (I.cne x c e) hc nch ho (I.freeC x c e),hd⟩
 refine⟨I.ok,I.os,hg,⟨fun b o e n hb hx=>?_,fun b o e n hb hx=>?_,fun b o e n hx=>?_,fun b o e hx=>?_,fun b xs e=>tups b xs (I.base.tups b xs e),fun b o xs e=>frzs b o xs (I.base.frzs b o xs e),fun b ps e=>?_⟩,?_,fun x c e=>?_,?_,fun x c e=>?_,fun p hp=>?_,hok,I.len,ht⟩
 ·exact keep b o (neL b o e) hb (neC b o e hx) (I.base.keep b o e n hb hx) (I.base.free b o e n hx)
 ·obtain⟨sl,e1⟩:=I.base.slot b o e n hb hx
  obtain⟨sl',e2⟩:=slot b _ (neL b o e) hb (neC b o e hx) e1 (I.base.free b o e n hx)
  exact⟨sl',e2⟩
 ·obtain⟨o',e1⟩:=I.base.there b o e hx
  exact free b o' (neC b o e hx) e1 (I.base.free b o e n hx)
 ·obtain⟨o',e1⟩:=I.base.there b o e hx
  exact there b o' (neC b o e hx) e1
 ·obtain⟨m1,e1⟩:=I.base.tbls b ps e
  obtain⟨m2,e2⟩:=tbls b _ e1
  exact⟨m1++m2,by rw[e2,Array.append_assoc]⟩
 ·obtain⟨m,hn,hl⟩:=I.loc
  refine⟨m,ns m hn,fun i x v e1 e2 e3=>?_⟩
  obtain⟨u,r,l⟩:=hl i x v e1 e2 e3
  refine⟨u,r,?_⟩
  rcases l with l | ⟨k,c,e,z⟩
  ·exact .inl l
  ·exact .inr ⟨k,c,e,cellK x c e _ z⟩
 ·obtain⟨v,z⟩:=I.cell x c e
  exact⟨v,cellK x c e v z⟩
 ·obtain⟨m,⟨o,_,_,ho,_⟩,_⟩:=I.loc
  exact free _ o (fun z=>(hch _ z).2.1 rfl) ho I.free
 ·obtain⟨v,o,ho,hd⟩:=I.cell x c e
  exact free c o (fun z=>(hch c z).2.2.1 x c e rfl) ho (I.freeC x c e)
 ·obtain⟨e,n,ne,nf,d⟩:=I.pin p hp
  have nch:p.1∉ch:=fun z=>(hch p.1 z).2.2.2 p hp rfl
  exact⟨keep p.1 p.2 ne nf nch e n,free p.1 p.2 nch e n,ne,nf,d⟩
theorem Inv.un {t':Nat} (I:Inv X pins σ H s) (u:Un X.fs [] H H' s.heap h') (hok:HOk X.prog X.w H' h') (ht:0 < t':=by first | exact Nat.succ_pos _ | assumption | exact Inv.tk (by assumption) | omega):Inv X pins σ H' { s with heap:=h',toks:=t' }:=by
 obtain⟨m,⟨o,es,ep,ho,r⟩,_⟩:=id I.loc
 obtain⟨sl,hL⟩:=u.any ho I.free (by simp)
 exact I.step (g':=s.gens) (d':=s.drawn) (ch:=[]) (fun _ z=>nomatch z) (fun b o _ hb _ e n=>u.keep b o e n hb (by simp)) (fun b o _ hb _ e n=>u.slot b o e n hb (by simp)) (fun b o _ e n=>u.free b o e n (by simp)) (fun b o _ e=>u.there b o e (by simp)) u.tups u.frzs u.tbls (fun m' hm=>by
  obtain⟨o',es',ep',ho',r'⟩:=hm
  rw[ho] at ho';cases ho'
  exact⟨_,es',ep',hL,r'⟩) hok I.bare ht
theorem Inv.call {g':Array GenState}{t':Nat}{d':Drawn}{ch:List Addr} (I:Inv X pins σ H s) (u:Un (frs X.stack) ch H H' s.heap h') (hok:HOk X.prog X.w H' h') (hg:AllBare g')
  (hch:∀ b∈ch,(b∈X.ex\/X.s₀.heap.objs.size <= b)/\b≠X.env.locals/\(∀ x c,X.env.cells.lookup x=some c->c≠b)/\∀ p∈X.pn++pins,p.1≠b) (ht:0 < t':=by first | exact Nat.succ_pos _ | assumption | exact Inv.tk (by assumption) | omega) :
  Inv X pins σ H' { s with heap:=h',gens:=g',drawn:=d',toks:=t' }:=by
 obtain⟨m,⟨o,es,ep,ho,r⟩,_⟩:=id I.loc
 obtain⟨sl,hL⟩:=u.any ho I.free fun z=>(hch _ z).2.1 rfl
 exact I.step (ch:=ch) hch (fun b o hL hb hc e n=>u.keep b o e n (fun z=>(List.mem_cons.mp (I.stkSub b z)).elim hL hb) hc) (fun b o _ _ hc e n=>u.any e n hc) (fun b o hc e n=>u.free b o e n hc) (fun b o hc e=>u.there b o e hc) u.tups u.frzs u.tbls (fun m' hm=>by
  obtain⟨o',es',ep',ho',r'⟩:=hm
  rw[ho] at ho';cases ho'
  exact⟨_,es',ep',hL,r'⟩) hok hg ht
theorem Inv.turned {t':Nat}{it:Addr} (I:Inv X pins σ H s) (k:∀ b o,b≠it->s.heap.get? b=some o->h'.get? b=some o) (hn:H it=none) (hL:it≠X.env.locals)
  (h1:it∈X.ex\/X.s₀.heap.objs.size <= it) (h2:∀ x c,X.env.cells.lookup x=some c->c≠it) (h3:∀ p∈X.pn++pins,p.1≠it) (ht:0 < t':=by first | exact Nat.succ_pos _ | assumption | exact Inv.tk (by assumption) | omega):Inv X pins σ H { s with heap:=h',toks:=t' }:=by
 have nit:∀ b u,H b=some u->b≠it:=fun b u e z=>by rw[z,hn] at e;cases e
 refine I.step (g':=s.gens) (d':=s.drawn) (ch:=[it]) (fun b hb=>?_) (fun b o _ _ hc e _=>k b o (fun z=>hc (by simp[z])) e) (fun b o _ _ hc e _=>⟨o.slots,k b o (fun z=>hc (by simp[z])) e⟩) (fun _ _ _ _ n=>n)
  (fun b o hc e=>⟨o,k b o (fun z=>hc (by simp[z])) e⟩) (fun _ _ e=>e) (fun _ _ _ e=>e) (fun b ps e=>⟨#[],by rw[e];simp⟩) (fun m hm=>?_) (fun b u e=>?_) I.bare ht
 ·have e:b=it:=by simpa using hb
  subst e
  exact⟨h1,hL,h2,h3⟩
 ·obtain⟨o,es,ep,ho,r⟩:=hm
  exact⟨o,es,ep,k _ o (Ne.symm hL) ho,r⟩
 ·refine (I.hok b u e).stay (fun c v hc q=>k c v ?_ q) (fun _ q=>q) fun _ _ q=>q
  rcases hc with z | z
  ·rw[z];exact nit b u e
  ·exact nit c _ z
theorem Inv.tok (I:Inv X pins σ H s) (t:Nat) (ht:0 < t:=by first | exact Nat.succ_pos _ | assumption | exact Inv.tk (by assumption) | omega):Inv X pins σ H { s with toks:=t }:=I.un (h':=s.heap) (t':=t) Un.refl I.hok ht
theorem Inv.kept {t':Nat} (I:Inv X pins σ H s) (k:∀ b u,s.heap.get? b=some u->h'.get? b=some u) (ht:0 < t':=by first | exact Nat.succ_pos _ | assumption | exact Inv.tk (by assumption) | omega):Inv X pins σ H { s with heap:=h',toks:=t' }:=I.un (Un.kept k) (I.hok.kept k) ht
theorem Inv.laid {a:Addr}{o:HO}{t':Nat} (I:Inv X pins σ H s) (k:∀ b u,s.heap.get? b=some u->h'.get? b=some u) (hp:s.heap.objs.size <= a) (new:qN X.prog X.w (upd H a o) h' a o) (ht:0 < t':=by first | exact Nat.succ_pos _ | assumption | exact Inv.tk (by assumption) | omega) :
  Inv X pins σ (upd H a o) { s with heap:=h',toks:=t' }:=I.un (Un.laid k hp (I.hok.fresh hp)) (I.hok.laid k hp new) ht
theorem Inv.write {x e:Addr}{o:HO}{t':Nat} (I:Inv X pins σ H s) (mu:Mut (H x)) (he:e=x\/H e=some (.own x)) (k:∀ b u,b≠e->s.heap.get? b=some u->h'.get? b=some u) (heo:∃ u,h'.get? e=some u)
  (new:qN X.prog X.w (upd H x o) h' x o) (ht:0 < t':=by first | exact Nat.succ_pos _ | assumption | exact Inv.tk (by assumption) | omega):Inv X pins σ (upd H x o) { s with heap:=h',toks:=t' }:=I.un (Un.write mu he k heo) (I.hok.write mu he k heo new) ht
theorem Inv.weak {σ':List (Option V)} (I:Inv X pins σ H s) (hl:σ'.length=σ.length) (w:∀ (i:Nat) v,σ'[i]? = some (some v)->σ[i]? = some (some v)):Inv X pins σ' H s :=
 ⟨I.ok,I.os,I.bare,I.base,let ⟨m,hn,hl'⟩:=I.loc;⟨m,hn,fun i x v e1 e2 e3=>hl' i x v e1 (w i v e2) e3⟩,I.cell,I.free,I.freeC,I.pin,I.hok,hl.trans I.len,I.tk⟩
theorem Inv.pins_of {pins':List (Addr×Obj)} (I:Inv X pins σ H s) (h:∀ p∈pins',s.heap.get? p.1=some p.2/\H p.1=none/\p.1≠X.env.locals/\p.1∉X.fs/\∀ v,p.2.data≠.cell v):Inv X pins' σ H s :=
 ⟨I.ok,I.os,I.bare,I.base,I.loc,I.cell,I.free,I.freeC,fun p hp=>(List.mem_append.mp hp).elim (fun z=>I.pin p (List.mem_append_left _ z)) (h p),I.hok,I.len,I.tk⟩
theorem zHj {N:List Str} (hN:N.Nodup) {i j:Nat}{x:Str} (a:N[i]? = some x) (b:N[j]? = some x):i=j:=by
 obtain⟨h1,e1⟩:=List.getElem?_eq_some_iff.mp a
 obtain⟨h2,e2⟩:=List.getElem?_eq_some_iff.mp b
 exact (List.getElem_inj hN).mp (e1.trans e2.symm)
theorem zGC {M:Model}{A:Around}{E:Value->Shared->Prop}{i:Nat}{x:Str}{v:V}{u:Value}{Q:Unit->Shared->Prop} (I:Inv X pins σ H s) (hN:X.N.Nodup) (hi:X.N[i]? = some x) (hx:Loc X.env.scope x) (r:zg v u)
  (h:∀ s',Inv X pins (σ.set i (some v)) H s'->(∃ a,Heap.SameBut a s.heap s'.heap/\(a=X.env.locals\/X.env.cells.lookup x=some a))->Q () s') (hf:X.fn x=true\/X.env.scope.names.lookup x=some .local:=by first | exact .inl rfl | exact .inr rfl | assumption):wpAny M A (storeName X.env x u) Q E s:=by
 obtain⟨m,hn,hl⟩:=id I.loc
 have hcls:(X.env.scope.kind == .class || (X.env.scope.kind == .module && X.env.locals != X.env.globals))=false:=by rw[I.ok.kind];rfl
 have hiσ:i < σ.length:=by rw[I.len];exact (List.getElem?_eq_some_iff.mp hi).1
 have cne:=I.cne
 have tracked:∀ {a:Addr}{h':Heap},(∃ o,s.heap.get? a=some o/\H a=none)->Heap.SameBut a s.heap h'->HOk X.prog X.w H h':=fun {a h'} ha hs b ob e=>by
  obtain⟨_,_,hfree⟩:=ha
  refine (I.hok b ob e).stay (fun c w' hc q=>(hs.2 c ?_).trans q) (fun _ q=>q) fun _ _ q=>q
  rintro rfl
  rcases hc with rfl | hc
  ·rw[hfree] at e;cases e
  ·rw[hfree] at hc;cases hc
 rcases hx with hk | hk
 ·refine wpAny_storeName_local hk hn (fun h' hn' hs=>?_) hcls
  obtain⟨oL,_,_,hoL,_⟩:=id hn
  refine h _ ⟨I.ok,I.os,I.bare,⟨fun b o e n hb hx=>?_,fun b o e n hb hx=>?_,I.base.free,fun b o e hx=>?_,I.base.tups,I.base.frzs,I.base.tbls⟩,⟨_,hn',fun j y v' e1 e2 e3=>?_⟩,fun y c e=>?_,I.free,I.freeC,fun p hp=>?_,tracked ⟨oL,hoL,I.free⟩ hs,by simpa using I.len,Nat.succ_pos _⟩ ⟨_,hs,.inl rfl⟩
  ·exact (hs.2 b (Nat.ne_of_lt (Nat.lt_of_lt_of_le (Heap.lt_size e) I.ok.above))).trans (I.base.keep b o e n hb hx)
  ·obtain⟨sl,e1⟩:=I.base.slot b o e n hb hx
   exact⟨sl,(hs.2 b (Nat.ne_of_lt (Nat.lt_of_lt_of_le (Heap.lt_size e) I.ok.above))).trans e1⟩
  ·obtain⟨o',e1⟩:=I.base.there b o e hx
   exact⟨o',(hs.2 b (Nat.ne_of_lt (Nat.lt_of_lt_of_le (Heap.lt_size e) I.ok.above))).trans e1⟩
  ·by_cases hj:j=i
   ·subst hj
    rw[hi] at e1;cases e1
    rw[List.getElem?_set_self hiσ] at e2
    cases e2
    exact⟨u,r,.inl ⟨hk,by simp⟩⟩
   ·rw[List.getElem?_set_ne (Ne.symm hj)] at e2
    obtain⟨u',r',q⟩:=hl j y v' e1 e2 e3
    refine⟨u',r',?_⟩
    rcases q with ⟨k,e⟩ | ⟨k,c,e,z⟩
    ·refine .inl ⟨k,?_⟩
     have:y≠x:=fun e=>hj (zHj hN e1 (e ▸ hi))
     simp[this,e]
    ·exact .inr ⟨k,c,e,z.sameBut hs (cne y c e)⟩
  ·obtain⟨w',z⟩:=I.cell y c e
   exact⟨w',z.sameBut hs (cne y c e)⟩
  ·obtain⟨e,n,ne,nf,d⟩:=I.pin p hp
   exact⟨(hs.2 p.1 ne).trans e,n,ne,nf,d⟩
 ·have hfn:X.fn x=true:=by
   rcases hf with z | z
   ·exact z
   ·rw[z] at hk;cases hk
  obtain⟨c,hc⟩:=I.ok.has x (.inl hk)
  obtain⟨w',z⟩:=I.cell x c hc
  refine wpAny_storeName_cell I.ok.kind hk hc z (fun h' hc' hs=>?_)
  obtain⟨oc,hoc,hocd⟩:=id z
  refine h { s with heap:=h' } ⟨I.ok,I.os,I.bare,⟨fun b o e n hb hx=>?_,fun b o e n hb hx=>?_,I.base.free,fun b o e hx=>?_,I.base.tups,I.base.frzs,I.base.tbls⟩,⟨m,hn.sameBut hs (Ne.symm (cne x c hc)),fun j y v' e1 e2 e3=>?_⟩,fun y c' e=>?_,I.free,I.freeC,fun p hp=>?_,tracked ⟨oc,hoc,I.freeC x c hc⟩ hs,by simpa using I.len,I.tk⟩ ⟨c,hs,.inr hc⟩
  ·exact (hs.2 b (Nat.ne_of_lt (Nat.lt_of_lt_of_le (Heap.lt_size e) (I.ok.cab x c hfn hc)))).trans (I.base.keep b o e n hb hx)
  ·obtain⟨sl,e1⟩:=I.base.slot b o e n hb hx
   exact⟨sl,(hs.2 b (Nat.ne_of_lt (Nat.lt_of_lt_of_le (Heap.lt_size e) (I.ok.cab x c hfn hc)))).trans e1⟩
  ·obtain⟨o',e1⟩:=I.base.there b o e hx
   exact⟨o',(hs.2 b (Nat.ne_of_lt (Nat.lt_of_lt_of_le (Heap.lt_size e) (I.ok.cab x c hfn hc)))).trans e1⟩
  ·by_cases hj:j=i
   ·subst hj
    rw[hi] at e1;cases e1
    rw[List.getElem?_set_self hiσ] at e2
    cases e2
    exact⟨u,r,.inr ⟨.inl hk,c,hc,hc'⟩⟩
   ·rw[List.getElem?_set_ne (Ne.symm hj)] at e2
    obtain⟨u',r',q⟩:=hl j y v' e1 e2 e3
    refine⟨u',r',?_⟩
    rcases q with q | ⟨k,c',e,z'⟩
    ·exact .inl q
    ·refine .inr ⟨k,c',e,z'.sameBut hs ?_⟩
     rintro rfl
     exact hj (zHj hN e1 (I.ok.inj _ _ _ e hc ▸ hi))
  ·by_cases hcc:c'=c
   ·subst hcc;exact⟨_,hc'⟩
   ·obtain⟨w2,z2⟩:=I.cell y c' e
    exact⟨w2,z2.sameBut hs hcc⟩
  ·obtain⟨e,n,ne,nf,d⟩:=I.pin p hp
   refine⟨(hs.2 p.1 ?_).trans e,n,ne,nf,d⟩
   intro q
   rw[q,hoc] at e
   have q':oc=p.2:=Option.some.inj e
   exact d w' (by rw[<- q'];exact hocd)
theorem zHu {M:Model}{A:Around}{E:Value->Shared->Prop}{i:Nat}{x:Str}{v:V}{u:Value}{Q:Unit->Shared->Prop} (I:Inv X pins σ H s) (hN:X.N.Nodup) (hi:X.N[i]? = some x) (hx:Loc X.env.scope x) (r:zg v u)
  (h:∀ s',Inv X pins (σ.set i (some v)) H s'->Q () s') (hf:X.fn x=true\/X.env.scope.names.lookup x=some .local:=by first | exact .inl rfl | exact .inr rfl | assumption):wpAny M A (storeName X.env x u) Q E s :=
 zGC I hN hi hx r (fun s' I' _=>h s' I') hf
theorem Inv.call' {s':Shared}{ch:List Addr} (I:Inv X pins σ H s) (ho:s'.os=s.os) (u:Un (frs X.stack) ch H H' s.heap s'.heap) (hok:HOk X.prog X.w H' s'.heap) (hg:AllBare s'.gens)
  (hch:∀ b∈ch,(b∈X.ex\/X.s₀.heap.objs.size <= b)/\b≠X.env.locals/\(∀ x c,X.env.cells.lookup x=some c->c≠b)/\∀ p∈X.pn++pins,p.1≠b) (ht:0 < s'.toks):Inv X pins σ H' s':=by
 obtain⟨h',g',d',t',o'⟩:=s'
 have e:o'=s.os:=ho
 subst e
 exact I.call (g':=g') (t':=t') (d':=d') u hok hg hch ht
end
noncomputable abbrev XK:=Value->Option Addr->Hp->Prop
noncomputable abbrev St:=List (Option V)
noncomputable abbrev VK:=V->Hp->Prop
noncomputable abbrev TE:=St->Hp->VK->Prop
noncomputable abbrev TT:=St->Hp->(Bool->Hp->Prop)->Prop
noncomputable abbrev TA:=St->Hp->(List V->Hp->Prop)->Prop
structure zCj where
 nx:St->Hp->Prop
 rt:VK
 bk:St->Hp->Prop:=fun _ _=>False
 ct:St->Hp->Prop:=fun _ _=>False
noncomputable abbrev TS:=zCj->St->Hp->Prop
noncomputable def EP (X:Cx) (pins:List (Addr×Obj)) (σ:St) (Q:VK) (u:Value) (s':Shared):Prop:=∃ v H',Inv X pins σ H' s'/\zg v u/\Q v H'
noncomputable def TP (X:Cx) (pins:List (Addr×Obj)) (σ:St) (Q:Bool->Hp->Prop) (b:Bool) (s':Shared):Prop:=∃ H',Inv X pins σ H' s'/\Q b H'
noncomputable def AP (X:Cx) (pins:List (Addr×Obj)) (σ:St) (Q:List V->Hp->Prop) (us:List Value) (s':Shared):Prop:=∃ vs H',Inv X pins σ H' s'/\zU vs us/\Q vs H'
noncomputable def SP (X:Cx) (pins:List (Addr×Obj)) (D:zCj) (f:Flow) (s':Shared):Prop :=
 match f with
 | .next=>∃ σ' H',Inv X pins σ' H' s'/\D.nx σ' H'
 | .brk=>∃ σ' H',Inv X pins σ' H' s'/\D.bk σ' H'
 | .cont=>∃ σ' H',Inv X pins σ' H' s'/\D.ct σ' H'
 | .ret u=>∃ v σ' H',Inv X pins σ' H' s'/\zg v u/\D.rt v H'
noncomputable def PE (X:Cx) (e:Expr) (t:TE):Prop :=
 ∀ (pins:List (Addr×Obj)) (s:Shared) (σ:St) (H:Hp) (Q:VK),Inv X pins σ H s->t σ H Q->wpAny (model X.prog X.w) X.A (eval e X.env) (EP X pins σ Q) X.xe s
noncomputable def PT (X:Cx) (e:Expr) (t:TT):Prop :=
 ∀ (pins:List (Addr×Obj)) (s:Shared) (σ:St) (H:Hp) (Q:Bool->Hp->Prop),Inv X pins σ H s->t σ H Q->wpAny (model X.prog X.w) X.A (isTrue e X.env (eval e X.env)) (TP X pins σ Q) X.xe s
noncomputable def PW (X:Cx) (e:Expr) (t:TT):Prop :=
 ∀ (whole:Sem Value) (pins:List (Addr×Obj)) (s:Shared) (σ:St) (H:Hp) (Q:Bool->Hp->Prop),Inv X pins σ H s->t σ H Q->wpAny (model X.prog X.w) X.A (isTrue e X.env whole) (TP X pins σ Q) X.xe s
theorem PW.pt {X:Cx}{e:Expr}{t:TT} (h:PW X e t):PT X e t:=h _
noncomputable def PA (X:Cx) (es:List Expr) (t:TA):Prop :=
 ∀ (pos:Pos) (pins:List (Addr×Obj)) (s:Shared) (σ:St) (H:Hp) (Q:List V->Hp->Prop),Inv X pins σ H s->t σ H Q->wpAny (model X.prog X.w) X.A (spliced (backTo pos (starEach es X.env))) (AP X pins σ Q) X.xe s
noncomputable def PS (X:Cx) (st:Stmt) (t:TS):Prop :=
 ∀ (pins:List (Addr×Obj)) (s:Shared) (σ:St) (H:Hp) (D:zCj),Inv X pins σ H s->t D σ H->wpAny (model X.prog X.w) X.A (exec st X.env) (SP X pins D) X.xe s
noncomputable def PSs (X:Cx) (st:List Stmt) (t:TS):Prop :=
 ∀ (pins:List (Addr×Obj)) (s:Shared) (σ:St) (H:Hp) (D:zCj),Inv X pins σ H s->t D σ H->wpAny (model X.prog X.w) X.A (execs st X.env) (SP X pins D) X.xe s
theorem thn {α:Type}{t:Sem α}{Q Q':α->Shared->Prop}{M:Model}{A:Around}{E:Value->Shared->Prop}{s:Shared} (h:wpAny M A t Q E s) (hQ:∀ a s,Q a s->Q' a s):wpAny M A t Q' E s:=wpAny_mono h hQ fun _ _ x=>x
end L2
namespace L2
open PySem PySem.Spec PyProof.Rows
section
variable {X:Cx}
noncomputable def zSP (i:Nat):TE:=fun σ H Q=>∃ v,σ[i]? = some (some v)/\Q v H
noncomputable def tC (v:V):TE:=fun _ H Q=>Q v H
theorem zPn {i:Nat}{x:Str}{pos:Pos} (hN:X.N[i]? = some x) (hv:Vis X.env.scope x) (hd:(x == ("__debug__" : Str))=false:=by decide) (hcd:(x == ("__classdict__" : Str))=false:=by decide):PE X (.Name x pos) (zSP i):=by
 intro pins s σ H Q I h
 obtain⟨v,e,h⟩:=h
 obtain⟨m,hn,hl⟩:=I.loc
 obtain⟨u,r,l⟩:=hl i x v hN e hv
 have fin:EP X pins σ Q u s:=⟨v,H,I,r,h⟩
 rcases l with ⟨hk,hm⟩ | ⟨hk,c,hc,hcell⟩
 ·exact wpAny_Name (wpAny_loadName_local I.ok.kind hk hn hm fin) hd
 ·rcases hk with hk | hk
  ·exact wpAny_Name (wpAny_loadName_cell I.ok.kind hk hc hcell fin) hd
  ·exact wpAny_Name (wpAny_loadName_free I.ok.kind hk hc hcell fin hcd) hd
theorem zHi {i j pos}:PE X (.Constant (.int i) j pos) (tC (.int i)):=fun _ _ _ H _ I h=>wpAny_Constant_int ⟨.int i,H,I.tok _,⟨_,rfl⟩,h⟩
theorem zRa {b j pos}:PE X (.Constant (.bool b) j pos) (tC (.bl b)):=fun _ _ _ H _ I h=>Constant_bool ⟨.bl b,H,I,rfl,h⟩
theorem zP0 {j pos}:PE X (.Constant .none j pos) (tC .non):=fun _ _ _ H _ I h=>Constant_none ⟨.non,H,I,rfl,h⟩
theorem zRI {x j pos}:PE X (.Constant (.str x) j pos) (tC (.str x)):=fun _ _ _ H _ I h=>Calls.Constant_str ⟨.str x,H,I.tok _,⟨_,rfl⟩,h⟩
noncomputable def Gl (X:Cx) (x:Str):Prop:=X.env.kindOf x=some .globalImplicit
theorem zFz {E:Value->Shared->Prop}{pins:List (Addr×Obj)}{s:Shared}{σ:St}{H:Hp}{x:Str}{u:Value}{pos:Pos}{Q:Value->Shared->Prop} (I:Inv X pins σ H s) (hg:Gl X x) (hm:X.mg x=some u) (h:Q u s)
  (hd:(x == ("__debug__" : Str))=false:=by decide):wpAny (model X.prog X.w) X.A (eval (.Name x pos) X.env) Q E s :=
 Calls.Name_function_global I.ok.kind hg (Calls.loadGlobal_global (by rw[I.ok.glob];exact I.mod.glob.keeps I.bk) hm h) hd
theorem zCA {E:Value->Shared->Prop}{pins:List (Addr×Obj)}{s:Shared}{σ:St}{H:Hp}{x:Str}{u:Value}{pos:Pos}{Q:Value->Shared->Prop} (I:Inv X pins σ H s) (hg:Gl X x) (hm:X.mg x=none) (hv:bootBuiltins x=some u) (h:Q u s)
  (hn:x ≠ "__name__" := by decide) (hd:(x == ("__debug__" : Str))=false:=by decide):wpAny (model X.prog X.w) X.A (eval (.Name x pos) X.env) Q E s:=by
 obtain⟨mb,h1,h2⟩:=I.mod.blt
 exact Calls.Name_function_global I.ok.kind hg (Calls.loadGlobal_builtin (by rw[I.ok.glob];exact I.mod.glob.keeps I.bk) hm (by rw[I.ok.blt];exact h1.keeps I.bk) ((h2 x hn).trans hv) h) hd
theorem zOM {x:Str}{v:V}{u:Value}{pos:Pos} (hg:Gl X x) (hm:X.mg x=some u) (r:zg v u) (hd:(x == ("__debug__" : Str))=false:=by decide):PE X (.Name x pos) (tC v) :=
 fun _ _ _ H _ I h=>zFz I hg hm ⟨v,H,I,r,h⟩ hd
theorem zOH {x:Str}{v:V}{u:Value}{pos:Pos} (hg:Gl X x) (hm:X.mg x=none) (hv:bootBuiltins x=some u) (r:zg v u) (hn:x ≠ "__name__" := by decide) (hd:(x == ("__debug__" : Str))=false:=by decide):PE X (.Name x pos) (tC v) :=
 fun _ _ _ H _ I h=>zCA I hg hm hv ⟨v,H,I,r,h⟩ hn hd
variable {a b:Expr}{ta tb:TE}{pos:Pos}
noncomputable def PC (X:Cx) (op:CmpOp) (a b:Expr) (t:TE):Prop :=
 ∀ (pins:List (Addr×Obj)) (s:Shared) (σ:St) (H:Hp) (Q:VK),Inv X pins σ H s->t σ H Q ->
  wpAny (model X.prog X.w) X.A (eval a X.env) (fun v s₁=>wpAny (model X.prog X.w) X.A (eval b X.env) (fun u s₂=>wpAny (model X.prog X.w) X.A (compareOp op v u) (EP X pins σ Q) X.xe s₂) X.xe s₁) X.xe s
theorem zNY (b:Expr) {op:CmpOp} (h:op≠.In) (h2:op≠.NotIn):behindInMarks op b=false:=by
 have e1:(op == CmpOp.In)=false:=by cases op<;>first | rfl | exact absurd rfl h
 have e2:(op == CmpOp.NotIn)=false:=by cases op<;>first | rfl | exact absurd rfl h2
 cases b<;>simp[behindInMarks,e1,e2]
noncomputable def zDW (ta:TE):TE:=fun σ H Q=>ta σ H fun x H1=>Q (.bl (decide (x=.non))) H1
theorem zg.none_iff {x:V}{v:Value} (r:zg x v):(v == Value.none)=decide (x=.non):=by
 cases x with
 | non=>cases r;rfl
 | bl _=>cases r;rfl
 | int _=>obtain⟨t,rfl⟩:=r;rfl
 | str _=>obtain⟨t,rfl⟩:=r;rfl
 | byt _=>obtain⟨t,rfl⟩:=r;rfl
 | flt _=>obtain⟨t,rfl⟩:=r;rfl
 | ref _=>cases r;rfl
 | ty _=>cases r;rfl
theorem zQP {j pos'} (ha:PE X a ta):PC X .Is a (.Constant .none j pos') (zDW ta):=by
 intro pins s σ H Q I h
 refine thn (ha pins s σ H _ I h) fun v s1 ⟨x,H1,I1,r1,q1⟩=>?_
 exact Constant_none (is_none_gen ⟨.bl _,H1,I1,by rw[r1.none_iff];rfl,q1⟩)
noncomputable def tB (t:TE):TT:=fun σ H Q=>t σ H fun x H1=>∃ c,x=.bl c/\Q c H1
theorem zQZ {op:CmpOp}{t:TE} (h:PC X op a b t) (h1:behindInMarks op b=false:=by first | exact zNY _ (by decide) (by decide) | rfl):PT X (.Compare a [op] [b] pos) (tB t):=by
 intro pins s σ H Q I hw
 refine wpAny_isTrue_Compare1 (thn (h pins s σ H _ I hw) fun v s1 h1=>thn h1 fun u s2 h2=>thn h2 fun c s3 ⟨x,H1,I1,r1,q1⟩=>?_) h1
 obtain⟨d,rfl,q⟩:=q1
 cases r1
 exact wpAny_truthy_bool ⟨H1,I1,q⟩
variable {tA tB':TT}{qU:List Expr}
noncomputable def zFg (t u:TT):TT:=fun σ H Q=>t σ H fun c H1=>if c=true then u σ H1 Q else Q false H1
noncomputable def tOr (t u:TT):TT:=fun σ H Q=>t σ H fun c H1=>if c=true then Q true H1 else u σ H1 Q
noncomputable def zEA (t:TT):TT:=fun σ H Q=>t σ H fun c H1=>Q (!c) H1
theorem zOp (ha:PT X a tA):PW X (.BoolOp .And [a] pos) tA:=by
 intro wh pins s σ H Q I h
 refine isTrue_and (thn (ha pins s σ H Q I h) fun c s1 e=>?_)
 cases c with
 | true=>exact isTrue_and_nil e
 | false=>exact e
theorem zRU (ha:PT X a tA):PW X (.BoolOp .Or [a] pos) tA:=by
 intro wh pins s σ H Q I h
 refine isTrue_or (thn (ha pins s σ H Q I h) fun c s1 e=>?_)
 cases c with
 | false=>exact isTrue_or_nil e
 | true=>exact e
theorem zQX (ha:PT X a tA) (hb:PW X (.BoolOp .And (b::qU) pos) tB'):PW X (.BoolOp .And (a::b::qU) pos) (zFg tA tB'):=by
 intro wh pins s σ H Q I h
 refine isTrue_and (thn (ha pins s σ H _ I h) fun c s1 ⟨H1,I1,q1⟩=>?_)
 cases c with
 | true=>exact hb wh pins s1 σ H1 Q I1 q1
 | false=>exact⟨H1,I1,q1⟩
theorem zRs (ha:PT X a tA) (hb:PW X (.BoolOp .Or (b::qU) pos) tB'):PW X (.BoolOp .Or (a::b::qU) pos) (tOr tA tB'):=by
 intro wh pins s σ H Q I h
 refine isTrue_or (thn (ha pins s σ H _ I h) fun c s1 ⟨H1,I1,q1⟩=>?_)
 cases c with
 | true=>exact⟨H1,I1,q1⟩
 | false=>exact hb wh pins s1 σ H1 Q I1 q1
theorem zP9 (ha:PT X a tA):PT X (.UnaryOp .Not a pos) (zEA tA):=by
 intro pins s σ H Q I h
 exact isTrue_not (ha pins s σ H (fun c H1=>Q (!c) H1) I h)
noncomputable def zRf (ta tb:TE):TE:=fun σ H Q=>ta σ H fun x H1=>∃ c,x=.bl c/\if c=true then tb σ H1 Q else Q (.bl false) H1
theorem zQl {op}{t:TE} (h:PE X a t):PE X (.BoolOp op [a] pos) t:=fun pins s σ H Q I hw=>BoolOp_one (h pins s σ H Q I hw)
theorem zQ5 (ha:PE X a ta) (hb:PE X (.BoolOp .And (b::qU) pos) tb):PE X (.BoolOp .And (a::b::qU) pos) (zRf ta tb):=by
 intro pins s σ H Q I h
 refine BoolOp_and (thn (ha pins s σ H _ I h) fun v s1 ⟨x,H1,I1,r1,q1⟩=>?_)
 obtain⟨c,rfl,q1⟩:=q1
 cases r1
 refine wpAny_truthy_bool ?_
 cases c with
 | true=>exact hb pins s1 σ H1 Q I1 q1
 | false=>exact⟨.bl false,H1,I1,rfl,q1⟩
noncomputable def tIf (t:TT) (ta tb:TE):TE:=fun σ H Q=>t σ H fun c H1=>if c=true then ta σ H1 Q else tb σ H1 Q
theorem zM9 {c:Expr} (hc:PT X c tA) (ha:PE X a ta) (hb:PE X b tb):PE X (.IfExp c a b pos) (tIf tA ta tb):=by
 intro pins s σ H Q I h
 refine wpAny_IfExp (thn (hc pins s σ H _ I h) fun d s1 ⟨H1,I1,q1⟩=>?_)
 cases d with
 | true=>exact ha pins s1 σ H1 Q I1 q1
 | false=>exact hb pins s1 σ H1 Q I1 q1
end
end L2
namespace L2
open PySem PySem.Spec PyProof.Rows
noncomputable def SqL (K:PySem.W.Frag) (H:Hp) (a:Addr) (xs:List V):Prop :=
 Rd H a (.lst xs) \/
  ∃ (o:Obj) (its:Array Value) (n:Nat),K.lookup a=some o/\o.cls=.type "list" /\ o.dict=none/\o.data=.seq its n/\its.size <= sizeLine/\zU xs its.toList
noncomputable def SqT (K:PySem.W.Frag) (H:Hp) (a:Addr) (xs:List V):Prop :=
 Rd H a (.tup xs) \/
  ∃ (o:Obj) (its:Array Value) (n:Nat),K.lookup a=some o/\o.cls=.type "tuple" /\ o.data=.seq its n/\its.size <= sizeLine/\zU xs its.toList
noncomputable def zSU:Value->Option V
 | .none=>some .non
 | .bool b=>some (.bl b)
 | .int i _=>some (.int i)
 | .str x _=>some (.str x)
 | .bytes b _=>some (.byt b)
 | .float b _=>some (.flt b)
 | .ref a=>some (.ref a)
 | .type n=>some (.ty n)
 | _=>none
theorem zg.abs {x:V}{u:Value} (r:zg x u):zSU u=some x:=by
 cases x with
 | non=>cases r;rfl
 | bl _=>cases r;rfl
 | int _=>obtain⟨t,rfl⟩:=r;rfl
 | str _=>obtain⟨t,rfl⟩:=r;rfl
 | byt _=>obtain⟨t,rfl⟩:=r;rfl
 | flt _=>obtain⟨t,rfl⟩:=r;rfl
 | ref _=>cases r;rfl
 | ty _=>cases r;rfl
theorem zg.inj {x y:V}{u:Value} (r:zg x u) (q:zg y u):x=y:=Option.some.inj (r.abs.symm.trans q.abs)
theorem zU.inj:∀ {xs ys:List V}{us:List Value},zU xs us->zU ys us->xs=ys
 | _,_,_,.nil,.nil=>rfl
 | _,_,_,.cons r t,.cons r' t'=>by rw[r.inj r',zU.inj t t']
section
variable {X:Cx}{pins:List (Addr×Obj)}{σ:St}{H:Hp}{s:Shared}{a:Addr}{xs ys:List V}
theorem SqL.of {K:PySem.W.Frag} (h:H a=some (.lst xs)):SqL K H a xs:=.inl (.inl h)
theorem SqT.of {K:PySem.W.Frag} (h:H a=some (.tup xs)):SqT K H a xs:=.inl (.inl h)
theorem Inv.list (I:Inv X pins σ H s) (h:SqL X.K H a xs):∃ its:List Value,zU xs its/\PlainL s.heap a its.toArray/\xs.length <= sizeLine:=by
 rcases h with h | ⟨o,its,n,hk,hc,hd,hs,hz,r⟩
 ·obtain⟨z,its,n,r,e⟩:=h.ok I.hok
  exact⟨its,r,⟨_,n,e,rfl,rfl,rfl⟩,z⟩
 ·refine⟨its.toList,r,⟨o,n,I.kIn a o hk,hc,hd,by simpa using hs⟩,?_⟩
  have e:=r.length
  simp only[Array.length_toList] at e
  omega
theorem Inv.tuple (I:Inv X pins σ H s) (h:SqT X.K H a xs):∃ its:List Value,zU xs its/\IsTup s.heap a its.toArray/\xs.length <= sizeLine:=by
 rcases h with h | ⟨o,its,n,hk,hc,hs,hz,r⟩
 ·obtain⟨z,its,r,p⟩:=h.ok I.hok
  exact⟨its,r,p,z⟩
 ·refine⟨its.toList,r,⟨o,I.kIn a o hk,hc,n,by simpa using hs⟩,?_⟩
  have e:=r.length
  simp only[Array.length_toList] at e
  omega
theorem Inv.list_inj (I:Inv X pins σ H s) (h:SqL X.K H a xs) (h':SqL X.K H a ys):xs=ys:=by
 obtain⟨its,r,⟨o,n,e,_,_,d⟩,_⟩:=I.list h
 obtain⟨its',r',⟨o',n',e',_,_,d'⟩,_⟩:=I.list h'
 rw[e] at e';cases e'
 rw[d] at d'
 injection d' with d1 _
 have:its=its':=by simpa using congrArg Array.toList d1
 subst this
 exact r.inj r'
theorem Inv.tuple_inj (I:Inv X pins σ H s) (h:SqT X.K H a xs) (h':SqT X.K H a ys):xs=ys:=by
 obtain⟨its,r,⟨o,e,_,n,d⟩,_⟩:=I.tuple h
 obtain⟨its',r',⟨o',e',_,n',d'⟩,_⟩:=I.tuple h'
 rw[e] at e';cases e'
 rw[d] at d'
 injection d' with d1 _
 have:its=its':=by simpa using congrArg Array.toList d1
 subst this
 exact r.inj r'
end
noncomputable abbrev Cx.wish (X:Cx) (E:Value->Shared->Prop):Cx:={ X with xe:=E }
noncomputable abbrev Cx.nox (X:Cx):Cx:=X.wish fun _ _=>False
theorem Cx.Ok.wish {X:Cx} (ok:X.Ok) (E:Value->Shared->Prop):(X.wish E).Ok :=
 ⟨ok.mod,ok.kind,ok.glob,ok.blt,ok.above,ok.inj,ok.has,ok.cab,ok.hd,ok.frames,ok.stk,ok.exf,ok.bs,ok.bsz,ok.noex,ok.exfs,ok.funs,ok.frf⟩
theorem Cx.Ok.unwish {X:Cx}{E:Value->Shared->Prop} (ok:(X.wish E).Ok):X.Ok :=
 ⟨ok.mod,ok.kind,ok.glob,ok.blt,ok.above,ok.inj,ok.has,ok.cab,ok.hd,ok.frames,ok.stk,ok.exf,ok.bs,ok.bsz,ok.noex,ok.exfs,ok.funs,ok.frf⟩
section
variable {X:Cx}{pins:List (Addr×Obj)}{σ:St}{H:Hp}{s:Shared}{E:Value->Shared->Prop}
theorem Inv.wish (I:Inv X pins σ H s) (E:Value->Shared->Prop):Inv (X.wish E) pins σ H s:=⟨I.ok.wish E,I.os,I.bare,I.base,I.loc,I.cell,I.free,I.freeC,I.pin,I.hok,I.len,I.tk⟩
theorem Inv.unwish (I:Inv (X.wish E) pins σ H s):Inv X pins σ H s:=⟨I.ok.unwish,I.os,I.bare,I.base,I.loc,I.cell,I.free,I.freeC,I.pin,I.hok,I.len,I.tk⟩
theorem SP.unwish {D:zCj}{f:Flow}{s':Shared} (h:SP (X.wish E) pins D f s'):SP X pins D f s':=by
 cases f with
 | next=>obtain⟨σ',H',I,q⟩:=h;exact⟨σ',H',I.unwish,q⟩
 | brk=>obtain⟨σ',H',I,q⟩:=h;exact⟨σ',H',I.unwish,q⟩
 | cont=>obtain⟨σ',H',I,q⟩:=h;exact⟨σ',H',I.unwish,q⟩
 | ret u=>obtain⟨v,σ',H',I,r,q⟩:=h;exact⟨v,σ',H',I.unwish,r,q⟩
theorem PSs.nox {st:List Stmt}{t:TS} (h:PSs X.nox st t):PSs X st t:=fun pins s σ H D I hw =>
 wpAny_mono (h pins s σ H D (I.wish _) hw) (fun _ _ q=>q.unwish) fun _ _ z=>False.elim z
end
section
variable {X:Cx}{st:Stmt}{qU:List Stmt}{t u:TS}{e:Expr}{te:TE}{pos:Pos}
noncomputable def zSD:TS:=fun D σ H=>D.nx σ H
noncomputable def zSG (t u:TS):TS:=fun D σ H=>t { D with nx:=u D } σ H
theorem zPD:PSs X [] zSD:=fun _ _ σ H _ I h=>wpAny_execs_nil ⟨σ,H,I,h⟩
theorem zMc (h1:PS X st t) (h2:PSs X qU u):PSs X (st::qU) (zSG t u):=by
 intro pins s σ H D I h
 refine wpAny_execs_cons (thn (h1 pins s σ H { D with nx:=u D } I h) fun f s1 q=>?_)
 cases f with
 | next =>
  obtain⟨σ',H',I',q⟩:=q
  exact h2 pins s1 σ' H' D I' q
 | ret v=>exact q
 | brk=>exact q
 | cont=>exact q
theorem zPE (h1:PS X st t):PSs X [st] t:=by
 intro pins s σ H D I h
 refine wpAny_execs_cons (thn (h1 pins s σ H D I h) fun f s1 q=>?_)
 cases f with
 | next=>exact wpAny_execs_nil q
 | ret v=>exact q
 | brk=>exact q
 | cont=>exact q
theorem Inv.quiet {pins:List (Addr×Obj)}{σ:St}{H:Hp}{s:Shared} (I:Inv X pins σ H s):interactive X.env=false:=by simp[interactive,I.ok.kind]
noncomputable def zRh (te:TE):TS:=fun D σ H=>te σ H fun _ H1=>D.nx σ H1
theorem zOd (he:PE X e te) (hs:swapsWith e none pos.line X.env=pure false:=by rfl):PS X (.Expr e pos) (zRh te):=by
 intro pins s σ H D I h
 exact wpAny_Expr_any (thn (he pins s σ H _ I h) fun v s1 ⟨x,H1,I1,r1,q1⟩=>⟨σ,H1,I1,q1⟩) I.quiet hs
noncomputable def zSh (te:TE):TS:=fun D σ H=>te σ H D.rt
theorem zQC (he:PE X e te):PS X (.Return (some e) pos) (zSh te):=by
 intro pins s σ H D I h
 exact wpAny_Return_some (thn (he pins s σ H _ I h) fun v s1 ⟨x,H1,I1,r1,q1⟩=>⟨x,σ,H1,I1,r1,q1⟩)
noncomputable def zSf (c:TT) (t u:TS):TS:=fun D σ H=>c σ H fun b H1=>if b=true then t D σ H1 else u D σ H1
theorem zRk {c:Expr}{a b:List Stmt}{tc:TT} (hc:PT X c tc) (ha:PSs X a t) (hb:PSs X b u):PS X (.If c a b pos) (zSf tc t u):=by
 intro pins s σ H D I h
 refine wpAny_If (thn (hc pins s σ H _ I h) fun d s1 ⟨H1,I1,q1⟩=>?_)
 cases d with
 | true=>exact ha pins s1 σ H1 D I1 q1
 | false=>exact hb pins s1 σ H1 D I1 q1
end
noncomputable abbrev TG:=V->St->Hp->(St->Hp->Prop)->Prop
noncomputable def PG (X:Cx) (target:Expr) (t:TG):Prop :=
 ∀ (pins:List (Addr×Obj)) (s:Shared) (σ:St) (H:Hp) (v:V) (u:Value) (Q:St->Hp->Prop),Inv X pins σ H s->zg v u->t v σ H Q ->
  wpAny (model X.prog X.w) X.A (assign target X.env u) (fun _ s'=>∃ σ' H',Inv X pins σ' H' s'/\Q σ' H') X.xe s
noncomputable abbrev zNR:=V->V->V->Hp->(Hp->Prop)->Prop
noncomputable def zPP (X:Cx) (t:zNR):Prop :=
 ∀ (pins:List (Addr×Obj)) (s:Shared) (σ:St) (H:Hp) (o i v:V) (ov iv u:Value) (Q:Hp->Prop),Inv X pins σ H s->zg o ov->zg i iv->zg v u->t o i v H Q ->
  wpAny (model X.prog X.w) X.A (setItem ov iv u) (fun _ s'=>∃ H',Inv X pins σ H' s'/\Q H') X.xe s
noncomputable abbrev TIp:=V->V->Hp->VK->Prop
noncomputable def PIp (X:Cx) (op:Operator) (t:TIp):Prop :=
 ∀ (pins:List (Addr×Obj)) (s:Shared) (σ:St) (H:Hp) (x y:V) (v u:Value) (Q:VK),Inv X pins σ H s->zg x v->zg y u->t x y H Q ->
  wpAny (model X.prog X.w) X.A (inplaceOp op v u) (EP X pins σ Q) X.xe s
section
variable {X:Cx}{pos:Pos}
noncomputable def jW (i:Nat):TG:=fun v σ H Q=>Q (σ.set i (some v)) H
theorem zPG {i:Nat}{x:Str} (hN:X.N.Nodup) (hi:X.N[i]? = some x) (hx:Loc X.env.scope x) (hf:X.fn x=true\/X.env.scope.names.lookup x=some .local:=by first | exact .inl rfl | exact .inr rfl | assumption):PG X (.Name x pos) (jW i):=by
 intro pins s σ H v u Q I r h
 exact wpAny_assign_Name (zHu I hN hi hx r (fun s' I'=>⟨_,H,I',h⟩) hf)
noncomputable def zSg (to ti:TE) (t:zNR):TG:=fun v σ H Q=>to σ H fun o H1=>ti σ H1 fun i H2=>t o i v H2 fun H3=>Q σ H3
theorem zQ8 {o i:Expr}{to ti:TE}{t:zNR} (ho:PE X o to) (hi:PE X i ti) (hs:zPP X t)
  (ha:∀ v,assign (.Subscript o i pos) X.env v=(do
   let ov <- holding [v] (eval o X.env)
   let iv <- holding [v,ov] (eval i X.env)
   standAt pos
   holding [v,ov,iv] (setItem ov iv v)
   release [v,ov,iv] []):=by intro _;rfl):PG X (.Subscript o i pos) (zSg to ti t):=by
 intro pins s σ H v u Q I r h
 rw[ha]
 refine wpAny_bind (wpAny_holding (thn (ho pins s σ H _ I h) fun ov s1 ⟨x,H1,I1,r1,q1⟩=>?_))
 refine wpAny_bind (wpAny_holding (thn (hi pins s1 σ H1 _ I1 q1) fun iv s2 ⟨y,H2,I2,r2,q2⟩=>?_))
 refine wpAny_bind (wpAny_standAt (wpAny_bind (wpAny_holding (thn (hs pins s2 σ H2 x y v ov iv u _ I2 r1 r2 r q2) fun _ s3 ⟨H3,I3,q3⟩=>?_))))
 exact wpAny_release ⟨σ,H3,I3,q3⟩
noncomputable def zM4 (te:TE) (g:TG):TS:=fun D σ H=>te σ H fun x H1=>g x σ H1 D.nx
theorem zP8 {tg e:Expr}{te:TE}{g:TG} (he:PE X e te) (hg:PG X tg g) (hs:swapsWithSole [tg] e pos.line X.env=pure false:=by rfl) (hw:swappedStores [tg] e X.env=pure none:=by rfl)
  (h1:(assignEach [tg] X.env).map (·.2)=[assign tg X.env]:=by rfl):PS X (.Assign [tg] e pos) (zM4 te g):=by
 intro pins s σ H D I h
 refine wpAny_Assign_stores (thn (he pins s σ H _ I h) fun v s1 ⟨x,H1,I1,r1,q1⟩=>?_) hs hw
 rw[h1]
 exact thn (hg pins s1 σ H1 x v _ I1 r1 q1) fun _ s2 q=>q
theorem zP3 {i:Nat}{x:Str}{e:Expr}{te:TE}{pos':Pos} (hN:X.N.Nodup) (hi:X.N[i]? = some x) (hx:Loc X.env.scope x) (he:PE X e te) (hs:swapsWith e (some (.Name x pos')) pos.line X.env=pure false:=by rfl) (hf:X.fn x=true\/X.env.scope.names.lookup x=some .local:=by first | exact .inl rfl | exact .inr rfl | assumption) :
  PS X (.Assign [.Name x pos'] e pos) (zM4 te (jW i)):=by
 intro pins s σ H D I h
 refine wpAny_Assign_Name (thn (he pins s σ H _ I h) fun v s1 ⟨y,H1,I1,r1,q1⟩=>?_) hs
 exact zHu I1 hN hi hx r1 (fun s2 I2=>⟨_,H1,I2,q1⟩) hf
noncomputable def ipI (f:Int->Int->Int):TIp:=fun x y H Q=>∃ i j,x=.int i/\y=.int j/\Q (.int (f i j)) H
theorem zQi:PIp X .Add (ipI fun i j=>i+j):=by
 intro pins s σ H x y v u Q I r1 r2 h
 obtain⟨i,j,e1,e2,q⟩:=h
 subst e1;subst e2
 obtain⟨t,rfl⟩:=r1
 obtain⟨t',rfl⟩:=r2
 exact iadd_int ⟨.int _,H,I.tok _,⟨_,rfl⟩,q⟩
end
section
variable {X:Cx}{pos:Pos}
noncomputable def zQL (c:TT) (tb:TS):TS:=fun D σ H=>∃ W:Nat->St->Hp->Prop,(∃ m,W m σ H)/\∀ m σ H,W m σ H ->
 c σ H fun b H1=>if b=true then ∃ N:St->Hp->Prop,(∀ σ' H',N σ' H'->∃ m',m' < m/\W m' σ' H')/\tb { D with nx:=N,ct:=N,bk:=D.nx } σ H1 else D.nx σ H1
theorem zMr {c:Expr}{body:List Stmt}{tc:TT}{tb:TS} (hp:PassesOwn (model X.prog X.w) X.A X.env X.xe) (hc:PT X c tc) (hb:PSs X body tb):PS X (.While c body [] pos) (zQL tc tb):=by
 intro pins s σ H D I h
 obtain⟨W,⟨m0,w0⟩,turn⟩:=h
 refine wpAny_While (codeAny_whileLoop (fun n s'=>∃ σ' H',Inv X pins σ' H' s'/\W n σ' H') ?_ m0 ⟨σ,H,I,w0⟩)
 rintro n s1 ⟨σ1,H1,I1,w1⟩
 refine wpAny_passesOwn hp (thn (hc pins s1 σ1 H1 _ I1 (turn n σ1 H1 w1)) fun b s2 ⟨H2,I2,q2⟩=>?_)
 cases b with
 | true =>
  obtain⟨N,hN,q2⟩:=q2
  rw[if_pos rfl]
  refine wpAny_passesOwn hp (thn (hb pins s2 σ1 H2 _ I2 q2) fun f s3 q3=>?_)
  cases f with
  | next =>
   obtain⟨σ3,H3,I3,n3⟩:=q3
   obtain⟨m',hm,w3⟩:=hN σ3 H3 n3
   exact⟨m',hm,σ3,H3,I3,w3⟩
  | cont =>
   obtain⟨σ3,H3,I3,n3⟩:=q3
   obtain⟨m',hm,w3⟩:=hN σ3 H3 n3
   exact⟨m',hm,σ3,H3,I3,w3⟩
  | brk=>exact q3
  | ret v=>exact q3
 | false =>
  rw[if_neg Bool.false_ne_true]
  exact wpAny_execs_nil ⟨σ1,H2,I2,q2⟩
end
structure It where
 go:Nat->Hp->Prop
 yld:Nat->Hp->V->Hp->Prop
 stop:Nat->Hp->Prop
noncomputable def zCn (X:Cx) (pins:List (Addr×Obj)) (H:Hp) (b:Addr):Prop :=
 H b=none/\b≠X.env.locals/\b∉X.fs/\(b∈X.ex\/X.s₀.heap.objs.size <= b)/\(∀ x c,X.env.cells.lookup x=some c->c≠b)/\∀ p∈X.pn++pins,p.1≠b
theorem Inv.fpOk {X:Cx}{pins:List (Addr×Obj)}{σ:St}{H H':Hp}{s:Shared}{b:Addr} (I:Inv X pins σ H s) (hb:s.heap.objs.size <= b) (hn:H' b=none):zCn X pins H' b:=by
 refine⟨hn,Nat.ne_of_gt (Nat.lt_of_lt_of_le I.lt hb),I.nofs hb,.inr (Nat.le_trans I.sz hb),fun x c e z=>?_,fun p hp z=>?_⟩
 ·obtain⟨v,q⟩:=I.cell x c e
  exact absurd (Nat.lt_of_lt_of_le q.lt (by rw[z];exact hb)) (Nat.lt_irrefl _)
 ·exact absurd (Nat.lt_of_lt_of_le (Heap.lt_size (I.pin p hp).1) (by rw[z];exact hb)) (Nat.lt_irrefl _)
structure zDS (P:Program) (w:World) (K:PySem.W.Frag) (tg:Expr) (J:It) (fp:List Addr) (it:Addr) (tn:Nat->Heap->Prop):Prop where
 mem:it∈fp
 obj:∀ i h,tn i h->∀ b∈fp,∃ o,h.get? b=some o/\∀ v,o.data≠.cell v
 keep:∀ i h h',tn i h->(∀ b∈fp,∀ o,h.get? b=some o->h'.get? b=some o)->tn i h'
 item:∀ (X:Cx),X.prog=P->X.w=w->X.K=K->X.calm=true->∀ (i:Nat) (pins:List (Addr×Obj)) (s:Shared) (σ:St) (H:Hp) (E:Value->Shared->Prop),Inv X pins σ H s->(∀ b∈fp,zCn X pins H b)->tn i s.heap->J.go i H ->
  wpAny (model P w) X.A (pyNext (.ref it)) (fun r s1=>∃ u,r=some u /\
   wpAny (model P w) X.A (letOwnedTupleGo tg (.ref it) u) (fun _ s2=>∃ x H',Inv X pins σ H' s2/\zg x u/\J.yld i H x H'/\tn (i+1) s2.heap/\∀ b∈fp,H' b=none) E s1) E s
 done:∀ (X:Cx),X.prog=P->X.w=w->X.K=K->X.calm=true->∀ (i:Nat) (pins:List (Addr×Obj)) (s:Shared) (σ:St) (H:Hp) (E:Value->Shared->Prop),Inv X pins σ H s->(∀ b∈fp,zCn X pins H b)->tn i s.heap->J.stop i H ->
  wpAny (model P w) X.A (pyNext (.ref it)) (fun r s1=>r=none/\Inv X pins σ H s1) E s
 self:∀ (A:Around) (i:Nat) (s:Shared) (Q:Value->Shared->Prop) (E:Value->Shared->Prop),tn i s.heap->Q (.ref it) s->wpAny (model P w) A (pyIter (.ref it)) Q E s
noncomputable abbrev TI:=St->Hp->(It->Hp->Prop)->Prop
noncomputable def PIE (X:Cx) (pins:List (Addr×Obj)) (σ:St) (tg:Expr) (R:It->Hp->Prop) (itv:Value) (s2:Shared):Prop :=
 ∃ (it:Addr) (fp:List Addr) (tn:Nat->Heap->Prop) (J:It) (H':Hp),itv=.ref it/\Inv X pins σ H' s2/\zDS X.prog X.w X.K tg J fp it tn/\tn 0 s2.heap/\(∀ b∈fp,zCn X pins H' b)/\R J H'
noncomputable def PI (X:Cx) (tg iter:Expr) (wi:TI):Prop :=
 ∀ (pins:List (Addr×Obj)) (s:Shared) (σ:St) (H:Hp) (R:It->Hp->Prop),Inv X pins σ H s->wi σ H R ->
  wpAny (model X.prog X.w) X.A (eval iter X.env) (fun v s1=>wpAny (model X.prog X.w) X.A (pyIter v) (PIE X pins σ tg R) X.xe s1) X.xe s
theorem zDg {M:Model}{A:Around}{E:Value->Shared->Prop}{s:Shared}{tg:Expr}{it:Addr}{u:Value}{o:Obj}{n:String}{vs:Array Value}{Q:Unit->Shared->Prop} (ho:s.heap.get? it=some o) (hc:o.cls=.type n) (hd:o.data=.fields vs)
  (hn:["enumerate","zip","dict_itemiterator","dict_reverseitemiterator","odict_iterator","itertools.zip_longest","itertools.pairwise"].contains n=false) (hQ:Q () s):wpAny M A (letOwnedTupleGo tg (.ref it) u) Q E s:=by
 unfold letOwnedTupleGo
 cases tg<;>first
  | exact wpAny_pure hQ
  | (cases u<;>first
      | exact wpAny_pure hQ
      | (refine wpAny_bind (wpAny_load ho ?_)
         rw[hc,hd]
         show wpAny M A (if (["enumerate","zip","dict_itemiterator","dict_reverseitemiterator","odict_iterator","itertools.zip_longest","itertools.pairwise"].contains n && vs[0]? == some (rawInt _))=true then _ else _) Q E s
         rw[if_neg (by intro h;rw[hn,Bool.false_and] at h;cases h)]
         exact wpAny_pure hQ))
noncomputable def Itl (K:PySem.W.Frag) (a:Addr):It :=
 ⟨fun i H=>∃ xs x,SqL K H a xs/\xs[i]? = some x,fun i H x H'=>H'=H/\∀ xs,SqL K H a xs->xs[i]? = some x,fun i H=>∃ xs,SqL K H a xs/\xs.length <= i⟩
noncomputable def Itt (K:PySem.W.Frag) (a:Addr):It :=
 ⟨fun i H=>∃ xs x,SqT K H a xs/\xs[i]? = some x,fun i H x H'=>H'=H/\∀ xs,SqT K H a xs->xs[i]? = some x,fun i H=>∃ xs,SqT K H a xs/\xs.length <= i⟩
noncomputable def Itr (lo:Int) (n:Nat):It:=⟨fun i _=>i < n,fun i H x H'=>H'=H/\x=.int (lo+i),fun i _=>n <= i⟩
theorem zKk {P:Program}{w:World}{K:PySem.W.Frag}{tg:Expr} (a it:Addr):zDS P w K tg (Itl K a) [it] it (fun i h=>h.IsListIter it a i) where
 mem:=by simp
 obj:=fun i h st b hb=>by
  have e:b=it:=by simpa using hb
  subst e
  obtain⟨o,e,c,d⟩:=st
  exact⟨o,e,fun v z=>by rw[d] at z;cases z⟩
 keep:=fun i h h' st k=>st.at fun o e=>k it (by simp) o e
 item:=by
  intro X hP hw hK hc i pins s σ H E I hf st hg
  subst hP hw hK
  obtain⟨xs,x,hq,hx⟩:=hg
  obtain⟨its,rv,p,hz⟩:=I.list hq
  obtain⟨u,hu,ru⟩:=rv.get hx
  obtain⟨f0,f1,f2,f3,f4,f5⟩:=hf it (by simp)
  refine wpAny_pyNext_list_item st p.isList (x:=u) (by simpa using hu) fun h' st' sb=>?_
  have I1:Inv X pins σ H { s with heap:=h' }:=I.turned (t':=s.toks) (fun b o hb e=>(sb.2 b hb).trans e) f0 f1 f3 f4 f5
  obtain⟨o,e,c,d⟩:=id st'
  exact⟨u,rfl,zDg (s:={ s with heap:=h' }) e c d (by decide) ⟨x,H,I1,ru,⟨rfl,fun ys hy=>by rw[I.list_inj hy hq];exact hx⟩,st',fun b hb=>(hf b hb).1⟩⟩
 done:=by
  intro X hP hw hK hc i pins s σ H E I hf st hg
  subst hP hw hK
  obtain⟨xs,hq,hx⟩:=hg
  obtain⟨its,rv,p,hz⟩:=I.list hq
  obtain⟨f0,f1,f2,f3,f4,f5⟩:=hf it (by simp)
  have hl:=rv.length
  exact wpAny_pyNext_list_end (I.ok.hd hc) st p.isList (by simp;omega) fun h' eb=>⟨rfl,I.turned (t':=s.toks) (fun b o hb e=>eb b o hb e) f0 f1 f3 f4 f5⟩
 self:=fun _ _ _ _ _ st h=>wpAny_pyIter_listiter st h
theorem zJj {P:Program}{w:World}{K:PySem.W.Frag}{tg:Expr} (a it:Addr):zDS P w K tg (Itt K a) [it] it (fun i h=>h.IsTupleIter it a i) where
 mem:=by simp
 obj:=fun i h st b hb=>by
  have e:b=it:=by simpa using hb
  subst e
  obtain⟨o,e,c,d⟩:=st
  exact⟨o,e,fun v z=>by rw[d] at z;cases z⟩
 keep:=fun i h h' st k=>st.at fun o e=>k it (by simp) o e
 item:=by
  intro X hP hw hK hc i pins s σ H E I hf st hg
  subst hP hw hK
  obtain⟨xs,x,hq,hx⟩:=hg
  obtain⟨its,rv,p,hz⟩:=I.tuple hq
  obtain⟨u,hu,ru⟩:=rv.get hx
  obtain⟨f0,f1,f2,f3,f4,f5⟩:=hf it (by simp)
  refine wpAny_pyNext_tuple_item st (show s.heap.IsTuple a its.toArray from p) (x:=u) (by simpa using hu) fun h' st' sb=>?_
  have I1:Inv X pins σ H { s with heap:=h' }:=I.turned (t':=s.toks) (fun b o hb e=>(sb.2 b hb).trans e) f0 f1 f3 f4 f5
  obtain⟨o,e,c,d⟩:=id st'
  exact⟨u,rfl,zDg (s:={ s with heap:=h' }) e c d (by decide) ⟨x,H,I1,ru,⟨rfl,fun ys hy=>by rw[I.tuple_inj hy hq];exact hx⟩,st',fun b hb=>(hf b hb).1⟩⟩
 done:=by
  intro X hP hw hK hc i pins s σ H E I hf st hg
  subst hP hw hK
  obtain⟨xs,hq,hx⟩:=hg
  obtain⟨its,rv,p,hz⟩:=I.tuple hq
  obtain⟨f0,f1,f2,f3,f4,f5⟩:=hf it (by simp)
  have hl:=rv.length
  exact wpAny_pyNext_tuple_end (I.ok.hd hc) st (show s.heap.IsTuple a its.toArray from p) (by simp;omega) fun h' eb=>⟨rfl,I.turned (t':=s.toks) (fun b o hb e=>eb b o hb e) f0 f1 f3 f4 f5⟩
 self:=fun _ _ _ _ _ st h=>wpAny_pyIter_tupleiter st h
theorem zKS {P:Program}{w:World}{K:PySem.W.Frag}{tg:Expr} (it:Addr) (lo:Int) (n:Nat):zDS P w K tg (Itr lo n) [it] it (fun i h=>IsRangeIter h it (lo+(i:Nat) * 1) ((n:Int) - (i:Nat)) 1) where
 mem:=by simp
 obj:=fun i h st b hb=>by
  have e:b=it:=by simpa using hb
  subst e
  exact⟨_,st,fun v z=>by
   have z':Data.fields _=Data.cell v:=z
   cases z'⟩
 keep:=fun i h h' st k=>k it (by simp) _ st
 item:=by
  intro X hP hw hK hc i pins s σ H E I hf st hg
  subst hP hw hK
  obtain⟨f0,f1,f2,f3,f4,f5⟩:=hf it (by simp)
  have W:=Walks.range (prog:=X.prog) (w:=X.w) (I.ok.hd hc) it lo 1 n
  refine wpAny_with_toks (n:=1) I.tk (W.item i s _ _ hg st fun v h' tk hv st' kk htk=>?_)
  obtain⟨t,rfl⟩:=hv
  have I1:Inv X pins σ H { s with heap:=h',toks:=tk }:=I.turned (fun b o hb e=>kk b o (by simpa using hb) e) f0 f1 f3 f4 f5
  refine⟨_,rfl,zDg (s:={ s with heap:=h',toks:=tk }) (n := "range_iterator") st' rfl rfl (by decide) ⟨.int (lo+i),H,I1,⟨t,?_⟩,⟨rfl,rfl⟩,st',fun b hb=>(hf b hb).1⟩⟩
  rw[Int.mul_one]
 done:=by
  intro X hP hw hK hc i pins s σ H E I hf st hg
  subst hP hw hK
  obtain⟨f0,f1,f2,f3,f4,f5⟩:=hf it (by simp)
  exact wpAny_pyNext_range_end (I.ok.hd hc) st (by have:n <= i:=hg;omega) fun h' eb=>⟨rfl,I.turned (t':=s.toks) (fun b o hb e=>eb b o hb e) f0 f1 f3 f4 f5⟩
 self:=fun _ _ _ _ _ st h=>wpAny_pyIter_rangeiter st h
end L2
namespace L2
open PySem PySem.Spec PyProof.Rows
section
variable {X:Cx}{tg:Expr}
noncomputable def zRd (K:PySem.W.Frag) (tl:TE):TI:=fun σ H R=>tl σ H fun x H1=>∃ a,x=.ref a/\(∃ xs,SqL K H1 a xs)/\R (Itl K a) H1
noncomputable def zSH (K:PySem.W.Frag) (tl:TE):TI:=fun σ H R=>tl σ H fun x H1=>∃ a,x=.ref a/\(∃ xs,SqT K H1 a xs)/\R (Itt K a) H1
theorem zPJ {l:Expr}{tl:TE} (hl:PE X l tl):PI X tg l (zRd X.K tl):=by
 intro pins s σ H R I h
 refine thn (hl pins s σ H _ I h) fun v s1 ⟨x,H1,I1,r1,q1⟩=>?_
 obtain⟨a,e,⟨xs,hq⟩,q⟩:=q1
 subst e
 cases r1
 obtain⟨its,rv,p,hz⟩:=I1.list hq
 refine wpAny_pyIter_list p.isList ?_
 refine⟨s1.heap.objs.size,[s1.heap.objs.size],_,_,H1,rfl,I1.kept (t':=s1.toks) fun b o e=>Heap.get?_push_of_some _ e,zKk a _,⟨_,Heap.get?_push_size _ rfl,rfl,rfl⟩,fun b hb=>?_,q⟩
 have e:b=s1.heap.objs.size:=by simpa using hb
 subst e
 exact I1.fpOk (Nat.le_refl _) (I1.hok.fresh (Nat.le_refl _))
theorem zRX {l:Expr}{tl:TE} (hl:PE X l tl):PI X tg l (zSH X.K tl):=by
 intro pins s σ H R I h
 refine thn (hl pins s σ H _ I h) fun v s1 ⟨x,H1,I1,r1,q1⟩=>?_
 obtain⟨a,e,⟨xs,hq⟩,q⟩:=q1
 subst e
 cases r1
 obtain⟨its,rv,p,hz⟩:=I1.tuple hq
 refine wpAny_pyIter_tuple (show s1.heap.IsTuple a its.toArray from p) ?_
 refine⟨s1.heap.objs.size,[s1.heap.objs.size],_,_,H1,rfl,I1.kept (t':=s1.toks) fun b o e=>Heap.get?_push_of_some _ e,zJj a _,⟨_,Heap.get?_push_size _ rfl,rfl,rfl⟩,fun b hb=>?_,q⟩
 have e:b=s1.heap.objs.size:=by simpa using hb
 subst e
 exact I1.fpOk (Nat.le_refl _) (I1.hok.fresh (Nat.le_refl _))
theorem zMK {pins:List (Addr×Obj)}{σ:St}{H:Hp}{s:Shared}{R:It->Hp->Prop}{E:Value->Shared->Prop}{lo hi:Int}{t u v:Tok}{tk:Nat} (I:Inv X pins σ H s) (h1:-(2 ^ 62) <= lo) (h2:lo < 2 ^ 62) (h3:-(2 ^ 62) <= hi) (h4:hi < 2 ^ 62)
  (q:R (Itr lo (hi - lo).toNat) H) (htk:0 < tk:=by first | exact Nat.succ_pos _ | assumption | exact Inv.tk (by assumption) | omega):wpAny (model X.prog X.w) X.A (pyIter (.ref s.heap.objs.size)) (PIE X pins σ tg R) E { s with heap:=s.heap.push { cls:=.type "range",data:=.fields #[.int lo t,.int hi u,.int 1 v] },toks:=tk }:=by
 refine wpAny_pyIter_range (IsRange.new ..) (small_one h1 h2 h3 h4) ?_
 have I1:Inv X pins σ H { s with heap:=s.heap.push { cls:=.type "range",data:=.fields #[.int lo t,.int hi u,.int 1 v] },toks:=tk }:=I.kept fun b o e=>Heap.get?_push_of_some _ e
 refine⟨(s.heap.push { cls:=.type "range",data:=.fields #[.int lo t,.int hi u,.int 1 v] }).objs.size,[(s.heap.push { cls:=.type "range",data:=.fields #[.int lo t,.int hi u,.int 1 v] }).objs.size],_,_,H,rfl,
  I1.kept (t':=tk) fun b o e=>Heap.get?_push_of_some _ e,zKS _ lo (hi - lo).toNat,?_,fun b hb=>?_,q⟩
 ·have e1:lo+((0:Nat):Int) * 1=lo:=by simp
  have e2:(((hi - lo).toNat:Nat):Int) - ((0:Nat):Int)=Builtin.Range.rangeSize lo hi 1:=by rw[rangeSize_one];split<;>omega
  show IsRangeIter _ _ (lo+((0:Nat):Int) * 1) ((((hi - lo).toNat:Nat):Int) - ((0:Nat):Int)) 1
  rw[e1,e2]
  exact Heap.get?_push_size _ rfl
 ·have e:b=(s.heap.push { cls:=.type "range",data:=.fields #[.int lo t,.int hi u,.int 1 v] }).objs.size:=by simpa using hb
  subst e
  exact I1.fpOk (Nat.le_refl _) (I1.hok.fresh (Nat.le_refl _))
noncomputable def zSB (ta:TA):TI:=fun σ H R=>ta σ H fun vs H1=>∃ j:Int,vs=[.int j] /\ -(2 ^ 62) <= j/\j < 2 ^ 62/\R (Itr 0 j.toNat) H1
theorem zLF {a:Expr}{ta:TA}{p pos:Pos} (hg:Gl X "range") (hm:X.mg "range" = none) (ha:PA X [a] ta) (hs:starEach [a] X.env=[(false,eval a X.env)]:=by rfl):PI X tg (.Call (.Name "range" p) [a] [] pos) (zSB ta):=by
 intro pins s σ H R I h
 refine Call_ (zCA I hg hm boot_range (PyProof.Rows.callWith_type1 (thn (ha pos pins s σ H _ I h) fun us s1 ⟨vs,H1,I1,r1,q1⟩=>?_) hs rfl))
 obtain⟨j,e,q1,q2,q⟩:=q1
 subst e
 cases r1 with
 | cons r rr =>
  cases rr
  obtain⟨t,rfl⟩:=r
  exact call_range_1 (zMK I1 (by omega) (by omega) q1 q2 (by simpa using q))
noncomputable def zSQ (wi:TI) (g:TG) (tb:TS):TS:=fun D σ H=>wi σ H fun J H1=>∃ W:Nat->Nat->St->Hp->Prop,(∃ m,W 0 m σ H1)/\∀ i m σ H,W i m σ H ->
 (J.stop i H/\D.nx σ H)\/(J.go i H/\∃ N:St->Hp->Prop,(∀ σ' H',N σ' H'->∃ m',m' < m/\W (i+1) m' σ' H')/\∀ x H',J.yld i H x H'->g x σ H' fun σ2 H2=>tb { D with nx:=N,ct:=N,bk:=D.nx } σ2 H2)
noncomputable def Qo (fp:List Addr) (h:Heap):List (Addr×Obj):=fp.filterMap fun b=>(h.get? b).map fun o=>(b,o)
theorem zAp {fp:List Addr}{h:Heap}{b:Addr}{o:Obj} (hb:b∈fp) (e:h.get? b=some o):(b,o)∈Qo fp h:=List.mem_filterMap.mpr ⟨b,hb,by rw[e];rfl⟩
theorem zF9 {fp:List Addr}{h:Heap}{p:Addr×Obj} (hp:p∈Qo fp h):p.1∈fp/\h.get? p.1=some p.2:=by
 obtain⟨b,hb,e⟩:=List.mem_filterMap.mp hp
 cases q:h.get? b with
 | none=>rw[q] at e;cases e
 | some o =>
  rw[q] at e
  have e':(b,o)=p:=Option.some.inj e
  subst e'
  exact⟨hb,q⟩
theorem Inv.pinned {pins:List (Addr×Obj)}{σ:St}{H:Hp}{s:Shared}{fp:List Addr} (I:Inv X pins σ H s) (hf:∀ b∈fp,zCn X pins H b) (ho:∀ b∈fp,∃ o,s.heap.get? b=some o/\∀ v,o.data≠.cell v):Inv X (pins++Qo fp s.heap) σ H s :=
 I.pins_of fun p hp=>(List.mem_append.mp hp).elim (fun z=>I.pin p (List.mem_append_right _ z)) fun z=>by
  obtain⟨hb,e⟩:=zF9 z
  obtain⟨f0,f1,f2,_⟩:=hf p.1 hb
  obtain⟨o,e',d⟩:=ho p.1 hb
  rw[e] at e';cases e'
  exact⟨e,f0,f1,f2,d⟩
theorem Inv.unpinned {pins pl:List (Addr×Obj)}{σ:St}{H:Hp}{s:Shared} (I:Inv X (pins++pl) σ H s):Inv X pins σ H s:=I.pins_of fun p hp=>I.pin p (List.mem_append_right _ (List.mem_append_left _ hp))
theorem zPe {iter:Expr}{body:List Stmt}{wi:TI}{g:TG}{tb:TS}{pos:Pos} (hp:PassesOwn (model X.prog X.w) X.A X.env X.xe) (hc:X.calm=true) (hi:PI X tg iter wi) (hg:PG X tg g) (hb:PSs X body tb)
  (hs:∀ x,foldedSetIterable iter X.env x=pure x:=by intro _;rfl):PS X (.For tg iter body [] pos) (zSQ wi g tb):=by
 intro pins s σ H D I h
 refine wpAny_For (thn (hi pins s σ H _ I h) fun v s1 h1=>thn h1 fun itv s2 h2=>?_) hs
 obtain⟨it,fp,tn,J,H2,e,I2,T,st2,f2,W,⟨m0,w0⟩,turn⟩:=h2
 subst e
 have stat:∀ {H':Hp},(∀ b∈fp,H' b=none)->∀ b∈fp,zCn X pins H' b:=fun hn b hb=>⟨hn b hb,(f2 b hb).2⟩
 refine codeAny_forLoop_any (fun n s'=>∃ i σ' H',Inv X pins σ' H' s'/\tn i s'.heap/\(∀ b∈fp,H' b=none)/\W i n σ' H') ?_ m0 ⟨0,σ,H2,I2,st2,fun b hb=>(f2 b hb).1,w0⟩
 rintro n s3 ⟨i,σ3,H3,I3,st3,fr3,w3⟩
 rcases turn i n σ3 H3 w3 with ⟨stop,qn⟩ | ⟨go,N,hN,step⟩
 ·refine wpAny_passesOwn hp (thn (T.done X rfl rfl rfl hc i pins s3 σ3 H3 X.xe I3 (stat fr3) st3 stop) fun r s4 ⟨hr,I4⟩=>?_)
  subst hr
  exact wpAny_execs_nil ⟨σ3,H3,I4,qn⟩
 ·refine wpAny_passesOwn hp (thn (T.item X rfl rfl rfl hc i pins s3 σ3 H3 X.xe I3 (stat fr3) st3 go) fun r s4 ⟨u,hr,h4⟩=>?_)
  subst hr
  refine wpAny_passesOwn hp (thn h4 fun _ s5 ⟨x,H5,I5,r5,y5,st5,fr5⟩=>?_)
  have I5':=I5.pinned (stat fr5) (T.obj _ _ st5)
  refine wpAny_passesOwn hp (thn (hg _ s5 σ3 H5 x u _ I5' r5 (step x H5 y5)) fun _ s6 ⟨σ6,H6,I6,q6⟩=>?_)
  refine wpAny_passesOwn hp (thn (hb _ s6 σ6 H6 _ I6 q6) fun f s7 q7=>?_)
  have again:∀ {σ7:St}{H7:Hp},Inv X (pins++Qo fp s5.heap) σ7 H7 s7->N σ7 H7->∃ m,m < n/\∃ i σ' H',Inv X pins σ' H' s7/\tn i s7.heap/\(∀ b∈fp,H' b=none)/\W i m σ' H':=fun {σ7 H7} I7 n7=>by
   obtain⟨m',hm,w7⟩:=hN σ7 H7 n7
   refine⟨m',hm,i+1,σ7,H7,I7.unpinned,T.keep _ _ _ st5 fun b hb o e=>(I7.pin (b,o) (List.mem_append_right _ (List.mem_append_right _ (zAp hb e)))).1,fun b hb=>?_,w7⟩
   obtain⟨o,e,d⟩:=T.obj _ _ st5 b hb
   exact (I7.pin (b,o) (List.mem_append_right _ (List.mem_append_right _ (zAp hb e)))).2.1
  cases f with
  | next=>obtain⟨σ7,H7,I7,n7⟩:=q7;exact again I7 n7
  | cont=>obtain⟨σ7,H7,I7,n7⟩:=q7;exact again I7 n7
  | brk=>obtain⟨σ7,H7,I7,q7⟩:=q7;exact⟨σ7,H7,I7.unpinned,q7⟩
  | ret v=>obtain⟨x7,σ7,H7,I7,r7,q7⟩:=q7;exact⟨x7,σ7,H7,I7.unpinned,r7,q7⟩
end
end L2
namespace L2
open PySem PySem.Spec PyProof.Rows
noncomputable abbrev R2:=V->V->Hp->VK->Prop
noncomputable def OpR (X:Cx) (f:Value->Value->Sem Value) (r:R2):Prop :=
 ∀ (pins:List (Addr×Obj)) (s:Shared) (σ:St) (H:Hp) (x y:V) (v u:Value) (Q:VK),Inv X pins σ H s->zg x v->zg y u->r x y H Q ->
  wpAny (model X.prog X.w) X.A (f v u) (EP X pins σ Q) X.xe s
noncomputable def UnR (X:Cx) (f:Value->Sem Value) (r:V->Hp->VK->Prop):Prop :=
 ∀ (pins:List (Addr×Obj)) (s:Shared) (σ:St) (H:Hp) (x:V) (v:Value) (Q:VK),Inv X pins σ H s->zg x v->r x H Q ->
  wpAny (model X.prog X.w) X.A (f v) (EP X pins σ Q) X.xe s
noncomputable def j9 (X:Cx) (f:Value) (r:List V->Hp->VK->Prop):Prop :=
 ∀ (pins:List (Addr×Obj)) (s:Shared) (σ:St) (H:Hp) (xs:List V) (us:List Value) (Q:VK),Inv X pins σ H s->zU xs us->r xs H Q ->
  wpAny (model X.prog X.w) X.A (call f us) (EP X pins σ Q) X.xe s
noncomputable def zSR (X:Cx) (r:V->Hp->(Bool->Hp->Prop)->Prop):Prop :=
 ∀ (pins:List (Addr×Obj)) (s:Shared) (σ:St) (H:Hp) (x:V) (v:Value) (Q:Bool->Hp->Prop),Inv X pins σ H s->zg x v->r x H Q ->
  wpAny (model X.prog X.w) X.A (truthy v) (TP X pins σ Q) X.xe s
noncomputable def tOp (r:R2) (ta tb:TE):TE:=fun σ H Q=>ta σ H fun x H1=>tb σ H1 fun y H2=>r x y H2 Q
noncomputable def tUn (r:V->Hp->VK->Prop) (ta:TE):TE:=fun σ H Q=>ta σ H fun x H1=>r x H1 Q
noncomputable def rI (C:Int->Int->Prop) (g:Int->Int->V):R2:=fun x y H Q=>∃ i j,x=.int i/\y=.int j/\C i j/\Q (g i j) H
noncomputable def rI0 (g:Int->Int->V):R2:=fun x y H Q=>∃ i j,x=.int i/\y=.int j/\Q (g i j) H
noncomputable def rU (g:Int->V):V->Hp->VK->Prop:=fun x H Q=>∃ i,x=.int i/\Q (g i) H
section
variable {X:Cx}{a b c:Expr}{ta tb tc:TE}{pos:Pos}
theorem zNa (ha:PE X a ta) (hb:PE X b tb) {pins:List (Addr×Obj)}{s:Shared}{σ:St}{H:Hp}{R:V->V->Hp->Prop} (I:Inv X pins σ H s)
  (h:ta σ H fun x H1=>tb σ H1 fun y H2=>R x y H2) {Q:Value->Shared->Prop}{f:Value->Value->Sem Value}
  (hf:∀ v u s2 x y H2,Inv X pins σ H2 s2->zg x v->zg y u->R x y H2->wpAny (model X.prog X.w) X.A (f v u) Q X.xe s2) :
  wpAny (model X.prog X.w) X.A (eval a X.env) (fun v s₁=>wpAny (model X.prog X.w) X.A (eval b X.env) (fun u s₂=>wpAny (model X.prog X.w) X.A (f v u) Q X.xe s₂) X.xe s₁) X.xe s:=by
 refine thn (ha pins s σ H _ I h) fun v s1 ⟨x,H1,I1,r1,q1⟩=>?_
 refine thn (hb pins s1 σ H1 _ I1 q1) fun u s2 ⟨y,H2,I2,r2,q2⟩=>?_
 exact hf v u s2 x y H2 I2 r1 r2 q2
theorem zRr {op:Operator}{r:R2} (ho:OpR X (binaryOp op) r) (ha:PE X a ta) (hb:PE X b tb):PE X (.BinOp a op b pos) (tOp r ta tb):=by
 intro pins s σ H Q I h
 exact wpAny_BinOp (zNa ha hb I h fun v u s2 x y H2 I2 rx ry q=>ho pins s2 σ H2 x y v u Q I2 rx ry q)
theorem zKD {op:UnaryOp}{r:V->Hp->VK->Prop} (ho:UnR X (unaryOp op) r) (ha:PE X a ta):PE X (.UnaryOp op a pos) (tUn r ta):=by
 intro pins s σ H Q I h
 exact UnaryOp_ (thn (ha pins s σ H _ I h) fun v s1 ⟨x,H1,I1,r1,q1⟩=>ho pins s1 σ H1 x v Q I1 r1 q1)
theorem opI {f:Value->Value->Sem Value}{C:Int->Int->Prop}{g:Int->Int->Int}
  (rule:∀ (i j:Int) (t u:Tok) (s:Shared) (Q:Value->Shared->Prop) (E:Value->Shared->Prop),C i j->Q (.int (g i j) s.toks) { s with toks:=s.toks+1 }->wpAny (model X.prog X.w) X.A (f (.int i t) (.int j u)) Q E s) :
  OpR X f (rI C fun i j=>.int (g i j)):=by
 intro pins s σ H x y v u Q I rx ry h
 obtain⟨i,j,rfl,rfl,hc,q⟩:=h
 obtain⟨t,rfl⟩:=rx
 obtain⟨t',rfl⟩:=ry
 exact rule i j t t' s _ _ hc ⟨.int (g i j),H,I.tok _,⟨_,rfl⟩,q⟩
theorem zQT {f:Value->Value->Sem Value}{g:Int->Int->Int}
  (rule:∀ (i j:Int) (t u:Tok) (s:Shared) (Q:Value->Shared->Prop) (E:Value->Shared->Prop),Q (.int (g i j) s.toks) { s with toks:=s.toks+1 }->wpAny (model X.prog X.w) X.A (f (.int i t) (.int j u)) Q E s) :
  OpR X f (rI0 fun i j=>.int (g i j)):=by
 intro pins s σ H x y v u Q I rx ry h
 obtain⟨i,j,rfl,rfl,q⟩:=h
 obtain⟨t,rfl⟩:=rx
 obtain⟨t',rfl⟩:=ry
 exact rule i j t t' s _ _ ⟨.int (g i j),H,I.tok _,⟨_,rfl⟩,q⟩
theorem zNd {f:Value->Value->Sem Value}{g:Int->Int->Bool}
  (rule:∀ (i j:Int) (t u:Tok) (s:Shared) (Q:Value->Shared->Prop) (E:Value->Shared->Prop),Q (.bool (g i j)) s->wpAny (model X.prog X.w) X.A (f (.int i t) (.int j u)) Q E s) :
  OpR X f (rI0 fun i j=>.bl (g i j)):=by
 intro pins s σ H x y v u Q I rx ry h
 obtain⟨i,j,rfl,rfl,q⟩:=h
 obtain⟨t,rfl⟩:=rx
 obtain⟨t',rfl⟩:=ry
 exact rule i j t t' s _ _ ⟨.bl (g i j),H,I,rfl,q⟩
noncomputable def zSe (i j:Int):Prop:=0 < j/\j < 1073741824
noncomputable def zKb (i j:Int):Prop:=(-(2 ^ 64) < i/\i < 2 ^ 64)\/(-(2 ^ 64) < j/\j < 2 ^ 64)
theorem zKb.ok {i j:Int} (h:zKb i j):IntMulOk i j:=by
 rcases h with ⟨h1,h2⟩ | ⟨h1,h2⟩
 ·exact .of_left (intBits_le_64 h1 h2)
 ·exact .of_right (intBits_le_64 h1 h2)
theorem zQM:OpR X (binaryOp .Add) (rI0 fun i j=>.int (i+j)):=zQT fun _ _ _ _ _ _ _ q=>add_int q
theorem zPi:OpR X (binaryOp .Sub) (rI0 fun i j=>.int (i - j)):=zQT fun _ _ _ _ _ _ _ q=>sub_int q
theorem zQt:OpR X (binaryOp .Mult) (rI zKb fun i j=>.int (i * j)):=opI fun _ _ _ _ _ _ _ hc q=>mul_int q hc.ok
theorem zOO:OpR X (binaryOp .FloorDiv) (rI zSe fun i j=>.int (i / j)):=opI fun i j _ _ _ _ _ hc q=>by
 have h1:(0:Int) < j:=hc.1
 have h2:j < 1073741824:=hc.2
 exact floordiv_int (by omega) (by rw[Int.fdiv_eq_ediv_of_nonneg i (by omega)];exact q) (.inl (PyProof.noPylong_small (by omega)))
theorem zQh:OpR X (binaryOp .Mod) (rI (fun _ j=>0 < j) fun i j=>.int (i % j)):=opI fun i j _ _ _ _ _ hc q=>by
 have h1:(0:Int) < j:=hc
 exact mod_int' (by omega) (by rw[Int.fmod_eq_emod_of_nonneg i (by omega)];exact q)
theorem unI {f:Value->Sem Value}{g:Int->Int}
  (rule:∀ (i:Int) (t:Tok) (s:Shared) (Q:Value->Shared->Prop) (E:Value->Shared->Prop),Q (.int (g i) s.toks) { s with toks:=s.toks+1 }->wpAny (model X.prog X.w) X.A (f (.int i t)) Q E s) :
  UnR X f (rU fun i=>.int (g i)):=by
 intro pins s σ H x v Q I rx h
 obtain⟨i,rfl,q⟩:=h
 obtain⟨t,rfl⟩:=rx
 exact rule i t s _ _ ⟨.int (g i),H,I.tok _,⟨_,rfl⟩,q⟩
theorem zHm:UnR X (unaryOp .USub) (rU fun i=>.int (-i)):=unI fun _ _ _ _ _ q=>neg_int q
end
noncomputable def zF5:V->V->Bool
 | .non,.non=>true | .non,.int _=>true | .int _,.non=>true | .non,.bl _=>true | .bl _,.non=>true | .non,.str _=>true | .str _,.non=>true
 | .int _,.int _=>true | .bl _,.bl _=>true | .str _,.str _=>true | .byt _,.byt _=>true
 | .int _,.str _=>true | .str _,.int _=>true | .bl _,.str _=>true | .str _,.bl _=>true
 | _,_=>false
noncomputable def rEq:R2:=fun x y H Q=>zF5 x y=true/\Q (.bl (decide (x=y))) H
noncomputable def rNe:R2:=fun x y H Q=>zF5 x y=true/\Q (.bl (!decide (x=y))) H
theorem zJN {i j:Int}:decide (V.int i=V.int j)=(i == j):=by
 rw[Bool.eq_iff_iff]
 simp
theorem zLz {i j:Bool}:decide (V.bl i=V.bl j)=(i == j):=by
 rw[Bool.eq_iff_iff]
 simp
theorem zI9 {i j:Str}:decide (V.str i=V.str j)=(i == j):=by
 rw[Bool.eq_iff_iff]
 simp
theorem zJG {i j:Array UInt8}:decide (V.byt i=V.byt j)=(i.toList == j.toList):=by
 rw[Bool.eq_iff_iff]
 cases i
 cases j
 simp
section
variable {X:Cx}{a b c:Expr}{ta tb tc:TE}{pos:Pos}
theorem jV {pins:List (Addr×Obj)}{σ:St}{H:Hp}{s:Shared}{Q:VK}{k k':Bool} (I:Inv X pins σ H s) (q:Q (.bl k) H) (e:k=k'):EP X pins σ Q (.bool k') s:=by
 subst e
 exact⟨.bl k,H,I,rfl,q⟩
theorem zRi:OpR X (compareOp .Eq) rEq:=by
 intro pins s σ H x y v u Q I rx ry h
 obtain⟨hs,q⟩:=h
 cases x with
 | non =>
  cases rx
  cases y with
  | non=>cases ry;exact PySem.EqNone.eq_none_none (jV I q (by simp))
  | bl j=>cases ry;exact PySem.EqNone.eq_none_bool (jV I q (by simp))
  | int j=>obtain⟨t',rfl⟩:=ry;exact PySem.EqNone.eq_none_int (jV I q (by simp))
  | str j=>obtain⟨t',rfl⟩:=ry;exact PySem.EqNone.eq_none_str (jV I q (by simp))
  | _=>exact absurd (show false=true from hs) Bool.false_ne_true
 | bl i =>
  cases rx
  cases y with
  | non=>cases ry;exact PySem.EqNone.eq_bool_none (jV I q (by simp))
  | bl j=>cases ry;exact eq_bool (jV I q zLz)
  | str j=>obtain⟨t',rfl⟩:=ry;exact PySem.EqMixed.eq_bool_str (jV I q (by simp))
  | _=>exact absurd (show false=true from hs) Bool.false_ne_true
 | int i =>
  obtain⟨t,rfl⟩:=rx
  cases y with
  | non=>cases ry;exact PySem.EqNone.eq_int_none (jV I q (by simp))
  | int j=>obtain⟨t',rfl⟩:=ry;exact eq_int (jV I q zJN)
  | str j=>obtain⟨t',rfl⟩:=ry;exact PySem.EqMixed.eq_int_str (jV I q (by simp))
  | _=>exact absurd (show false=true from hs) Bool.false_ne_true
 | str i =>
  obtain⟨t,rfl⟩:=rx
  cases y with
  | non=>cases ry;exact PySem.EqNone.eq_str_none (jV I q (by simp))
  | bl j=>cases ry;exact PySem.EqMixed.eq_str_bool (jV I q (by simp))
  | int j=>obtain⟨t',rfl⟩:=ry;exact PySem.EqMixed.eq_str_int (jV I q (by simp))
  | str j=>obtain⟨t',rfl⟩:=ry;exact eq_str (jV I q zI9)
  | _=>exact absurd (show false=true from hs) Bool.false_ne_true
 | byt i =>
  obtain⟨t,rfl⟩:=rx
  cases y with
  | byt j=>obtain⟨t',rfl⟩:=ry;exact PySem.W.eq_bytes (jV I q zJG)
  | _=>exact absurd (show false=true from hs) Bool.false_ne_true
 | _=>cases y<;>exact absurd (show false=true from hs) Bool.false_ne_true
theorem zRu:OpR X (compareOp .NotEq) rNe:=by
 intro pins s σ H x y v u Q I rx ry h
 obtain⟨hs,q⟩:=h
 cases x with
 | non =>
  cases rx
  cases y with
  | non=>cases ry;exact PySem.EqNone.ne_none_none (jV I q (by simp))
  | bl j=>cases ry;exact PySem.EqNone.ne_none_bool (jV I q (by simp))
  | int j=>obtain⟨t',rfl⟩:=ry;exact PySem.EqNone.ne_none_int (jV I q (by simp))
  | str j=>obtain⟨t',rfl⟩:=ry;exact PySem.EqNone.ne_none_str (jV I q (by simp))
  | _=>exact absurd (show false=true from hs) Bool.false_ne_true
 | bl i =>
  cases rx
  cases y with
  | non=>cases ry;exact PySem.EqNone.ne_bool_none (jV I q (by simp))
  | bl j=>cases ry;exact ne_bool (jV I q (congrArg not zLz))
  | str j=>obtain⟨t',rfl⟩:=ry;exact PySem.EqMixed.ne_bool_str (jV I q (by simp))
  | _=>exact absurd (show false=true from hs) Bool.false_ne_true
 | int i =>
  obtain⟨t,rfl⟩:=rx
  cases y with
  | non=>cases ry;exact PySem.EqNone.ne_int_none (jV I q (by simp))
  | int j=>obtain⟨t',rfl⟩:=ry;exact ne_int (jV I q (congrArg not zJN))
  | str j=>obtain⟨t',rfl⟩:=ry;exact PySem.EqMixed.ne_int_str (jV I q (by simp))
  | _=>exact absurd (show false=true from hs) Bool.false_ne_true
 | str i =>
  obtain⟨t,rfl⟩:=rx
  cases y with
  | non=>cases ry;exact PySem.EqNone.ne_str_none (jV I q (by simp))
  | bl j=>cases ry;exact PySem.EqMixed.ne_str_bool (jV I q (by simp))
  | int j=>obtain⟨t',rfl⟩:=ry;exact PySem.EqMixed.ne_str_int (jV I q (by simp))
  | str j=>obtain⟨t',rfl⟩:=ry;exact ne_str (jV I q (congrArg not zI9))
  | _=>exact absurd (show false=true from hs) Bool.false_ne_true
 | byt i =>
  obtain⟨t,rfl⟩:=rx
  cases y with
  | byt j=>obtain⟨t',rfl⟩:=ry;exact PySem.W.ne_bytes (jV I q (congrArg not zJG))
  | _=>exact absurd (show false=true from hs) Bool.false_ne_true
 | _=>cases y<;>exact absurd (show false=true from hs) Bool.false_ne_true
theorem zR5:OpR X (compareOp .Lt) (rI0 fun i j=>.bl (decide (i < j))):=zNd fun _ _ _ _ _ _ _ q=>lt_int q
theorem zR4:OpR X (compareOp .LtE) (rI0 fun i j=>.bl (decide (i <= j))):=zNd fun _ _ _ _ _ _ _ q=>le_int q
theorem zRp:OpR X (compareOp .Gt) (rI0 fun i j=>.bl (decide (j < i))):=zNd fun _ _ _ _ _ _ _ q=>gt_int q
theorem zLg:OpR X (compareOp .Lt) (fun x y H Q=>∃ i j,x=.str i/\y=.str j/\Q (.bl (decide (i.cps.toList < j.cps.toList))) H):=by
 intro pins s σ H x y v u Q I rx ry h
 obtain⟨i,j,rfl,rfl,q⟩:=h
 obtain⟨t,rfl⟩:=rx
 obtain⟨t',rfl⟩:=ry
 exact lt_str (jV I q rfl)
theorem zKx:OpR X (compareOp .In) (fun x y H Q=>∃ i j,x=.str i/\y=.str j/\Q (.bl (!(Builtin.Str.occurrences j i 0 j.length 1).isEmpty)) H):=by
 intro pins s σ H x y v u Q I rx ry h
 obtain⟨i,j,rfl,rfl,q⟩:=h
 obtain⟨t,rfl⟩:=rx
 obtain⟨t',rfl⟩:=ry
 exact in_str (jV I q rfl)
theorem zHa:OpR X (compareOp .NotIn) (fun x y H Q=>∃ i j,x=.str i/\y=.str j/\Q (.bl (!(!(Builtin.Str.occurrences j i 0 j.length 1).isEmpty))) H):=by
 intro pins s σ H x y v u Q I rx ry h
 obtain⟨i,j,rfl,rfl,q⟩:=h
 obtain⟨t,rfl⟩:=rx
 obtain⟨t',rfl⟩:=ry
 exact notIn_str (jV I q rfl)
theorem OpR.or {f:Value->Value->Sem Value}{r r':R2} (h:OpR X f r) (h':OpR X f r'):OpR X f (fun x y H Q=>r x y H Q\/r' x y H Q):=by
 intro pins s σ H x y v u Q I rx ry q
 rcases q with q | q
 ·exact h pins s σ H x y v u Q I rx ry q
 ·exact h' pins s σ H x y v u Q I rx ry q
theorem jI (b:Expr) {op:CmpOp} (h:op≠.In:=by decide) (h2:op≠.NotIn:=by decide):behindInMarks op b=false:=by
 have e1:(op == CmpOp.In)=false:=by cases op<;>first | rfl | exact absurd rfl h
 have e2:(op == CmpOp.NotIn)=false:=by cases op<;>first | rfl | exact absurd rfl h2
 cases b<;>simp[behindInMarks,e1,e2]
theorem zOw {op:CmpOp}{r:R2} (ho:OpR X (compareOp op) r) (ha:PE X a ta) (hb:PE X b tb) (hm:behindInMarks op b=false):PE X (.Compare a [op] [b] pos) (tOp r ta tb):=by
 intro pins s σ H Q I h
 exact wpAny_Compare1 (zNa ha hb I h fun v u s2 x y H2 I2 rx ry q=>ho pins s2 σ H2 x y v u Q I2 rx ry q) hm
noncomputable def zNv (t:TE):TT:=fun σ H Q=>t σ H fun x H'=>∃ k,x=.bl k/\Q k H'
theorem zOD {op:CmpOp}{r:R2} (ho:OpR X (compareOp op) r) (ha:PE X a ta) (hb:PE X b tb) (hm:behindInMarks op b=false):PT X (.Compare a [op] [b] pos) (zNv (tOp r ta tb)):=by
 intro pins s σ H Q I h
 refine wpAny_isTrue_Compare1 (thn (ha pins s σ H _ I h) fun v s1 ⟨x,H1,I1,r1,q1⟩=>thn (hb pins s1 σ H1 _ I1 q1) fun u s2 ⟨y,H2,I2,r2,q2⟩ =>
  thn (ho pins s2 σ H2 x y v u _ I2 r1 r2 q2) fun c s3 ⟨z,H3,I3,r3,k,e,q3⟩=>?_) hm
 subst e
 cases r3
 exact wpAny_truthy_bool ⟨H3,I3,q3⟩
noncomputable def zB5 (r r':R2) (ta tb tc:TE):TE:=fun σ H Q=>ta σ H fun x H1=>tb σ H1 fun y H2=>r x y H2 fun z H3=>∃ k,z=.bl k /\
 (if k=true then tc σ H3 fun w' H4=>r' y w' H4 Q else Q (.bl false) H3)
theorem zMk {op op':CmpOp}{r r':R2} (ho:OpR X (compareOp op) r) (ho':OpR X (compareOp op') r') (ha:PE X a ta) (hb:PE X b tb) (hc:PE X c tc)
  (hm:lastMarks [op,op'] [b,c]=false:=by with_unfolding_all rfl):PE X (.Compare a [op,op'] [b,c] pos) (zB5 r r' ta tb tc):=by
 intro pins s σ H Q I h
 refine Compare_chain (thn (ha pins s σ H _ I h) fun v s1 ⟨x,H1,I1,r1,q1⟩=>chain_link (thn (hb pins s1 σ H1 _ I1 q1) fun u s2 ⟨y,H2,I2,r2,q2⟩ =>
  thn (ho pins s2 σ H2 x y v u _ I2 r1 r2 q2) fun d s3 ⟨z,H3,I3,r3,k,e,q3⟩=>?_)) hm
 subst e
 cases r3
 refine wpAny_truthy_bool ?_
 cases k with
 | false=>exact ite_ff ⟨.bl false,H3,I3,rfl,q3⟩
 | true=>exact ite_tt (chain_last (thn (hc pins s3 σ H3 _ I3 q3) fun w' s4 ⟨z',H4,I4,r4,q4⟩=>ho' pins s4 σ H4 y z' u w' Q I4 r2 r4 q4))
theorem zMH {op op':CmpOp}{r r':R2} (ho:OpR X (compareOp op) r) (ho':OpR X (compareOp op') r') (ha:PE X a ta) (hb:PE X b tb) (hc:PE X c tc)
  (hm:lastMarks [op,op'] [b,c]=false:=by with_unfolding_all rfl):PT X (.Compare a [op,op'] [b,c] pos) (zNv (zB5 r r' ta tb tc)):=by
 intro pins s σ H Q I h
 refine isTrue_chain (thn (ha pins s σ H _ I h) fun v s1 ⟨x,H1,I1,r1,q1⟩=>test_link (thn (hb pins s1 σ H1 _ I1 q1) fun u s2 ⟨y,H2,I2,r2,q2⟩ =>
  thn (ho pins s2 σ H2 x y v u _ I2 r1 r2 q2) fun d s3 ⟨z,H3,I3,r3,k,e,q3⟩=>?_)) hm
 subst e
 cases r3
 refine wpAny_truthy_bool ?_
 cases k with
 | false =>
  obtain⟨k',e',q'⟩:=q3
  cases e'
  exact ite_ff ⟨H3,I3,q'⟩
 | true =>
  refine ite_tt (test_last (thn (hc pins s3 σ H3 _ I3 q3) fun w' s4 ⟨z',H4,I4,r4,q4⟩=>thn (ho' pins s4 σ H4 y z' u w' _ I4 r2 r4 q4) fun d' s5 ⟨z2,H5,I5,r5,k2,e2,q5⟩=>?_))
  subst e2
  cases r5
  exact wpAny_truthy_bool ⟨H5,I5,q5⟩
noncomputable def zQE (K:PySem.W.Frag) (x:V) (H:Hp) (k:Bool):Prop :=
 match x with
 | .non=>k=false
 | .bl b=>k=b
 | .int i=>k=(i != 0)
 | .str y=>y.length <= sizeLine/\k=((y.length:Int) != 0)
 | .byt y=>y.size <= sizeLine/\k=((y.size:Int) != 0)
 | .ref p=>(∃ xs,SqL K H p xs/\k = !xs.isEmpty)\/(∃ xs,SqT K H p xs/\k = !xs.isEmpty)\/∃ kvs,H p=some (.dK kvs)/\k = !kvs.isEmpty
 | _=>False
theorem zJ3 {κ:Type}{kvs:List (κ×V)}{vs:List (κ×Value)} (r:KV kvs vs):(!vs.isEmpty) = !kvs.isEmpty:=by
 cases r<;>rfl
theorem zFR {xs:List V}{its:List Value} (r:zU xs its):(!its.toArray.isEmpty) = !xs.isEmpty:=by
 cases r<;>simp
theorem zA7:(sizeLine:Nat) < 2 ^ 63:=by rw[sizeLine_eq];decide
theorem zPV:zSR X (fun x H Q=>∃ k,zQE X.K x H k/\Q k H):=by
 intro pins s σ H x v Q I rx h
 obtain⟨k,e,q⟩:=h
 have hl:=zA7
 have hs:sizeLine=16777216:=sizeLine_eq
 cases x with
 | non =>
  cases rx
  have e':k=false:=e
  subst e'
  exact truthy_none ⟨H,I,q⟩
 | bl b =>
  cases rx
  have e':k=b:=e
  subst e'
  exact wpAny_truthy_bool ⟨H,I,q⟩
 | int i =>
  obtain⟨t,rfl⟩:=rx
  have e':k=(i != 0):=e
  subst e'
  exact PySem.P.truthy_int ⟨H,I,q⟩
 | str y =>
  obtain⟨t,rfl⟩:=rx
  obtain⟨hy,e'⟩:y.length <= sizeLine/\k=((y.length:Int) != 0):=e
  subst e'
  exact PySem.P.truthy_str (by omega) ⟨H,I.tok _,q⟩
 | byt y =>
  obtain⟨t,rfl⟩:=rx
  obtain⟨hy,e'⟩:y.size <= sizeLine/\k=((y.size:Int) != 0):=e
  subst e'
  exact PySem.W.truthy_bytes (by omega) ⟨H,I.tok _,q⟩
 | ref p =>
  cases rx
  have e':(∃ xs,SqL X.K H p xs/\k = !xs.isEmpty)\/(∃ xs,SqT X.K H p xs/\k = !xs.isEmpty)\/∃ kvs,H p=some (.dK kvs)/\k = !kvs.isEmpty:=e
  rcases e' with ⟨xs,hx,e'⟩ | ⟨xs,hx,e'⟩ | ⟨kvs,hx,e'⟩
  ·subst e'
   obtain⟨its,r,pl,hz⟩:=I.list hx
   have hlen:=r.length
   exact wpAny_truthy_list pl.isList (by simp only[List.size_toArray];omega) ⟨H,I.tok _,by rw[zFR r];exact q⟩
  ·subst e'
   obtain⟨its,r,pl,hz⟩:=I.tuple hx
   have hlen:=r.length
   exact truthy_tuple pl (by simp only[List.size_toArray];omega) ⟨H,I.tok _,by rw[zFR r];exact q⟩
  ·subst e'
   obtain⟨hz,hS,vs,r,m⟩:kvs.length <= sizeLine/\(p == sysModules)=false/\∃ vs,KV kvs vs/\s.heap.DictOf (yI X.prog X.w) p vs:=I.hok p _ hx
   have hlen:kvs.length=vs.length:=Paired.length r
   exact wpAny_truthy_dict hS m (by omega) ⟨H,I.tok _,by rw[zJ3 r];exact q⟩
 | _=>exact (show False from e).elim
theorem zMR (ha:PE X a ta) (he:∀ whole,isTrue a X.env whole=(do let v <- whole;standAt a.pos;holding [v] (truthy v))) :
  PT X a (fun σ H Q=>ta σ H fun x H'=>∃ k,zQE X.K x H' k/\Q k H'):=by
 intro pins s σ H Q I h
 exact isTrue_plain (thn (ha pins s σ H _ I h) fun v s1 ⟨x,H1,I1,r1,q1⟩=>zPV pins s1 σ H1 x v Q I1 r1 q1) (he _)
theorem zKa:OpR X (binaryOp .Add) (fun x y H Q=>∃ i j,x=.str i/\y=.str j/\i.length+j.length <= sizeLine/\Q (.str (i++j)) H):=by
 intro pins s σ H x y v u Q I rx ry h
 obtain⟨i,j,rfl,rfl,hz,q⟩:=h
 obtain⟨t,rfl⟩:=rx
 obtain⟨t',rfl⟩:=ry
 exact wpAny_with_toks (n:=1) I.tk (add_str (fun t' tk htk=>⟨.str (i++j),H,I.tok _ htk,⟨_,rfl⟩,q⟩) hz)
theorem zIh:OpR X (inplaceOp .Add) (fun x y H Q=>∃ i j,x=.str i/\y=.str j/\i.length+j.length <= sizeLine/\Q (.str (i++j)) H):=by
 intro pins s σ H x y v u Q I rx ry h
 obtain⟨i,j,rfl,rfl,hz,q⟩:=h
 obtain⟨t,rfl⟩:=rx
 obtain⟨t',rfl⟩:=ry
 exact wpAny_with_toks (n:=1) I.tk (iadd_str (fun t' tk htk=>⟨.str (i++j),H,I.tok _ htk,⟨_,rfl⟩,q⟩) hz)
theorem QV {x:V}{us:List Value} (r:zU [x] us):∃ u,us=[u]/\zg x u:=by
 cases r with
 | cons r1 r2=>cases r2;exact⟨_,rfl,r1⟩
theorem zJ0 {x y:V}{us:List Value} (r:zU [x,y] us):∃ u w',us=[u,w']/\zg x u/\zg y w':=by
 cases r with
 | cons r1 r2 =>
  cases r2 with
  | cons r3 r4=>cases r4;exact⟨_,_,rfl,r1,r3⟩
theorem zK2 (hc:X.calm=true):j9 X (.builtin "max") (fun xs H Q=>∃ i j,xs=[.int i,.int j]/\Q (.int (if j > i then j else i)) H):=by
 intro pins s σ H xs us Q I r h
 obtain⟨i,j,rfl,q⟩:=h
 obtain⟨u,w',rfl,⟨t,rfl⟩,⟨t',rfl⟩⟩:=zJ0 r
 refine wpAny_with_toks (n:=1) I.tk (max_two_ints (I.ok.hd hc) fun h' tk k htk=>⟨_,H,I.kept k htk,?_,q⟩)
 by_cases hj:j > i
 ·rw[if_pos hj,if_pos hj];exact⟨_,rfl⟩
 ·rw[if_neg hj,if_neg hj];exact⟨_,rfl⟩
theorem zL6 (hc:X.calm=true):j9 X (.builtin "min") (fun xs H Q=>∃ i j,xs=[.int i,.int j]/\Q (.int (if j < i then j else i)) H):=by
 intro pins s σ H xs us Q I r h
 obtain⟨i,j,rfl,q⟩:=h
 obtain⟨u,w',rfl,⟨t,rfl⟩,⟨t',rfl⟩⟩:=zJ0 r
 refine wpAny_with_toks (n:=1) I.tk (min_two_ints (I.ok.hd hc) fun h' tk k htk=>⟨_,H,I.kept k htk,?_,q⟩)
 by_cases hj:j < i
 ·rw[if_pos hj,if_pos hj];exact⟨_,rfl⟩
 ·rw[if_neg hj,if_neg hj];exact⟨_,rfl⟩
theorem zDJ:j9 X (.type "int") (fun xs H Q=>(∃ i,xs=[.int i]/\Q (.int i) H)\/∃ k,xs=[.bl k]/\Q (.int (if k then 1 else 0)) H):=by
 intro pins s σ H xs us Q I r h
 rcases h with ⟨i,rfl,q⟩ | ⟨k,rfl,q⟩
 ·obtain⟨u,rfl,t,rfl⟩:=QV r
  exact call_int_int ⟨.int i,H,I,⟨_,rfl⟩,q⟩
 ·obtain⟨u,rfl,r1⟩:=QV r
  cases r1
  exact call_int_bool ⟨.int (if k then 1 else 0),H,I.tok _,⟨_,rfl⟩,q⟩
theorem zHO:j9 X (.type "str") (fun xs H Q=>∃ i,xs=[.int i]/\i.natAbs.log2 < 1920/\Q (.str (toString i)) H):=by
 intro pins s σ H xs us Q I r h
 obtain⟨i,rfl,hz,q⟩:=h
 obtain⟨u,rfl,t,rfl⟩:=QV r
 exact PySem.P.str_of_int hz ⟨.str _,H,I.tok _,⟨_,rfl⟩,q⟩
end
end L2
namespace L2
open PySem PySem.Spec PyProof.Rows
structure zEF (h:Heap) (x dx C:Addr) (mA:Str->Option Value):Prop where
 obj:h.get? x=some (PySem.W.instObj C dx)
 ns:h.Ns1 dx mA
 ne:dx≠x
theorem zLX {h:Heap}{dx:Addr}{mA:Str->Option Value} (n:h.Ns1 dx mA):∃ od,h.get? dx=some od/\∀ name,PySem.W.lookIn name od=some (mA name):=by
 obtain⟨o,es,ep,ho,hd,hk,_,hm⟩:=n
 refine⟨o,ho,fun name=>?_⟩
 have e:=hm name
 unfold nsFind findBy at e
 rw[<- Array.find?_toList] at e
 unfold PySem.W.lookIn
 rw[hd]
 dsimp only
 split
 ·rename_i y q
  rw[q] at e
  exact congrArg some e
 ·rename_i q
  rw[q] at e
  have a:es.toList.any (·.refKey)=false:=by
   rw[List.any_eq_false]
   intro y hy
   obtain⟨z,t,hkey⟩:=hk y (Array.mem_toList_iff.mp hy)
   simp[DictEntry.refKey,hkey]
  have a':¬ es.toList.any (·.refKey)=true:=by rw[a];exact Bool.false_ne_true
  rw[if_neg a']
  exact congrArg some e
theorem zEF.look {h:Heap}{x dx C:Addr}{mA:Str->Option Value} (I:zEF h x dx C mA):∃ od,PySem.W.InstAt h x (PySem.W.instObj C dx) C (some od)/\∀ name,PySem.W.lookIn name od=some (mA name) :=
 let ⟨od,ho,hl⟩:=zLX I.ns
 ⟨od,⟨I.obj,rfl,rfl,ho⟩,hl⟩
section
variable {prog:Program}{w:World}{A:Around}{E:Value->Shared->Prop}{s:Shared}{K:PySem.W.Frag}{x dx C f:Addr}{mA:Str->Option Value}{name:Str}{v:Value}
theorem zOc {expr:Bool}{Q:Value->Shared->Prop} (X:K.In s.heap) (I:zEF s.heap x dx C mA) (hg:PySem.W.plainGet K C name=true) (hh:PySem.W.hasDictIn K C=true)
  (ha:PySem.W.findIn K (.ref C) name=some none) (hv:mA name=some v) (hv':PySem.W.handedIn v=true) (h:Q v { s with toks:=s.toks+1 }) :
  wpAny (model prog w) A (getAttr (.ref x) name expr) Q E s:=by
 obtain⟨od,J,hl⟩:=I.look
 exact PySem.W.get_value X J (PySem.W.plainGet_of hg).1 (PySem.W.findObj_own hh ha rfl (by rw[hl,hv])) hv' h
theorem zM3 {pl:Sem Bool}{Q:Value×List Value->Shared->Prop} (X:K.In s.heap) (I:zEF s.heap x dx C mA) (hg:PySem.W.plainGet K C name=true)
  (hf:PySem.W.findIn K (.ref C) name=some (some (.ref f))) (ht:PySem.W.isFn K (.ref f)=true) (hv:mA name=none) (h:Q (.ref f,[.ref x]) s) :
  wpAny (model prog w) A (getMethod (.ref x) name pl) Q E s:=by
 obtain⟨od,J,hl⟩:=I.look
 exact PySem.W.method_fn X J (PySem.W.plainGet_of hg).1 (PySem.W.plainGet_of hg).2 hf (beq_iff_eq.mp ht) (by show (PySem.W.lookIn name od).map (·.isSome)=some false;rw[hl,hv];rfl) h
theorem zOk {ns:List Str}{Q:Unit->Shared->Prop} (X:K.In s.heap) (I:zEF s.heap x dx C mA)
  (hs:PySem.W.findIn K (.ref C) "__setattr__" = some (some (.builtin "object.__setattr__"))) (hp:PySem.W.plainOver K C=true) (ht:PySem.W.takerIn K C name=some none) (hh:PySem.W.hasDictIn K C=true)
  (hw:PySem.Within mA ns) (hsz:ns.length <= sizeLine)
  (h:∀ h',zEF h' x dx C (fun y=>if y=name then some v else mA y)->Heap.SameBut dx s.heap h'->Q () { s with heap:=h',toks:=s.toks+2 }) :
  wpAny (model prog w) A (setAttr (.ref x) name v) Q E s:=by
 obtain⟨od,J,hl⟩:=I.look
 refine PySem.W.set_plain X J hs (PySem.W.osa_open (s:={ s with toks:=s.toks+1 }) (r:=none) X J hp ht fun b=>?_)
 obtain⟨cd,hc,hd'⟩:=PySem.W.any_some hh
 have hx:s.heap.get? x=some ⟨.ref C,some dx,.plain,#[]⟩:=I.obj
 refine wpAny_bind (wpAny_pure (wpAny_bind (wpAny_bind (wpAny_loadPart hx (wpAny_bind (PySem.W.Looks.here (s:={ s with toks:=s.toks+1 }) (PySem.W.looks_clsIn X hc) ?_))))))
 rw[hd']
 refine wpAny_pure (a:=some dx) (wpAny_bind (wpAny_pure (wpAny_bind ?_)))
 refine wpAny_nsSet1 (s:={ s with toks:=s.toks+1 }) I.ns fun h' hn2 hs2=>?_
 obtain⟨oD,esD,epD,hoD,hdD,hcD⟩:=hn2.count (PySem.Within.cons name v hw)
 refine wpAny_bind (wpAny_lookBehind hoD (by rw[hdD];exact pastItsLine_dict (Nat.le_trans hcD (by rw[List.length_cons];omega))) ?_)
 exact wpAny_pure (h _ ⟨(hs2.2 _ (Ne.symm I.ne)).trans I.obj,hn2,I.ne⟩ hs2)
theorem zMA {R:Result->Shared->Prop}{vs:List Value}{kw:List (Str×Value)} (X:K.In s.heap) (hm:PySem.W.makesIn K C=true)
  (hi:PySem.W.findIn K (.ref C) "__init__" = some (some (.ref f))) (hf:PySem.W.typeIn K (.ref f)=some (.type "function"))
  (h:codeAny (model prog w) (A.under (.builtin "type.__call__" ⟨.ref C::vs,kw⟩)) (.call (.ref f) ⟨.ref (s.heap.objs.size+1)::vs,kw⟩) (PySem.W.InitBack (s.heap.objs.size+1) R)
   { s with heap:=(s.heap.push PySem.W.emptyDict).push (PySem.W.instObj C s.heap.objs.size) }) :
  codeAny (model prog w) A (.call (.ref C) ⟨vs,kw⟩) R s:=by
 obtain⟨hh,g,d,t,os⟩:=s
 exact PySem.W.make_core (PySem.W.makes_of X hm) (PySem.W.looks_findIn X hi) (fun self=>PySem.W.bind_fn X self hf) (.inl rfl) h
end
noncomputable def yR (f:Str) (v:V):List (Str×V)->List (Str×V)
 | []=>[(f,v)]
 | (g,x)::r=>if g=f then (g,v)::r else (g,x)::yR f v r
theorem zBe (f g:Str) (v:V):∀ fs:List (Str×V),(yR f v fs).lookup g=if g=f then some v else fs.lookup g
 | []=>by
  show List.lookup g [(f,v)]=_
  by_cases h:g=f
  ·have hb:(g == f)=true:=beq_iff_eq.mpr h
   simp only[List.lookup,hb,if_pos h]
  ·have hb:(g == f)=false:=beq_eq_false_iff_ne.mpr h
   simp only[List.lookup,hb,if_neg h]
 | (k,x)::r=>by
  have ih:=zBe f g v r
  rw[show yR f v ((k,x)::r)=(if k=f then (k,v)::r else (k,x)::yR f v r) from rfl]
  by_cases hk:k=f
  ·rw[if_pos hk]
   by_cases h:g=k
   ·have hb:(g == k)=true:=beq_iff_eq.mpr h
    simp only[List.lookup,hb,if_pos (h.trans hk)]
   ·have hb:(g == k)=false:=beq_eq_false_iff_ne.mpr h
    simp only[List.lookup,hb,if_neg (fun e:g=f=>h (e.trans hk.symm))]
  ·rw[if_neg hk]
   by_cases h:g=k
   ·have hb:(g == k)=true:=beq_iff_eq.mpr h
    simp only[List.lookup,hb,if_neg (fun e:g=f=>hk (h.symm.trans e))]
   ·have hb:(g == k)=false:=beq_eq_false_iff_ne.mpr h
    simp only[List.lookup,hb]
    exact ih
theorem zDC (f:Str) (v:V):∀ fs:List (Str×V),f∈(yR f v fs).map (·.1)/\∀ g,g∈fs.map (·.1)->g∈(yR f v fs).map (·.1)
 | []=>⟨by simp[yR],fun g h=>by simp at h⟩
 | (k,x)::r=>by
  obtain⟨i1,i2⟩:=zDC f v r
  rw[show yR f v ((k,x)::r)=(if k=f then (k,v)::r else (k,x)::yR f v r) from rfl]
  by_cases hk:k=f
  ·rw[if_pos hk]
   subst hk
   exact⟨by simp,fun g h=>by simpa using h⟩
  ·rw[if_neg hk]
   refine⟨?_,fun g h=>?_⟩
   ·rw[List.map_cons]
    exact List.mem_cons_of_mem _ i1
   ·rw[List.map_cons] at h ⊢
    rcases List.mem_cons.mp h with e | e
    ·exact List.mem_cons.mpr (.inl e)
    ·exact List.mem_cons_of_mem _ (i2 g e)
theorem zD9 (f:Str) (v:V):∀ fs:List (Str×V),(yR f v fs).length <= fs.length+1
 | []=>by simp[yR]
 | (k,x)::r=>by
  have ih:=zD9 f v r
  rw[show yR f v ((k,x)::r)=(if k=f then (k,v)::r else (k,x)::yR f v r) from rfl]
  by_cases hk:k=f
  ·rw[if_pos hk,List.length_cons,List.length_cons];omega
  ·rw[if_neg hk,List.length_cons,List.length_cons];omega
theorem Qi.some_of {v:V}{o:Option Value} (r:Qi (some v) o):∃ u,o=some u/\zg v u:=by
 cases o with
 | none=>exact (show False from r).elim
 | some u=>exact⟨u,rfl,r⟩
theorem Qi.none_of {o:Option Value} (r:Qi none o):o=none:=by
 cases o with
 | none=>rfl
 | some u=>exact (show False from r).elim
theorem zLT {v:V}{u:Value} (r:zg v u):PySem.W.handedIn u=true:=by
 cases v with
 | non=>cases (show u=Value.none from r);rfl
 | bl b=>cases (show u=Value.bool b from r);rfl
 | int i=>obtain⟨t,e⟩:=(show ∃ t,u=Value.int i t from r);cases e;rfl
 | str x=>obtain⟨t,e⟩:=(show ∃ t,u=Value.str x t from r);cases e;rfl
 | byt b=>obtain⟨t,e⟩:=(show ∃ t,u=Value.bytes b t from r);cases e;rfl
 | flt b=>obtain⟨t,e⟩:=(show ∃ t,u=Value.float b t from r);cases e;rfl
 | ref a=>cases (show u=Value.ref a from r);rfl
 | ty n=>cases (show u=Value.type n from r);rfl
section
variable {P:Program}{w:World}{H H':Hp}{h h':Heap}{a C dx:Addr}{fs fs':List (Str×V)}
theorem zDr (hok:HOk P w H h) (e:H a=some (.ins C dx fs)):∃ mA,zEF h a dx C mA/\(∀ f,Qi (fs.lookup f) (mA f))/\PySem.Within mA (fs.map (·.1))/\fs.length <= 1000/\H dx=some (.own a):=by
 obtain⟨d,z,ne,ob,mA,n,r,q⟩:=(show qN P w H h a (.ins C dx fs) from hok a _ e)
 exact⟨mA,⟨ob,n,ne⟩,r,q,z,d⟩
end
structure Cls (K:PySem.W.Frag) (C:Addr):Prop where
 pg:PySem.W.plainGet K C Str.empty=true
 hd:PySem.W.hasDictIn K C=true
 po:PySem.W.plainOver K C=true
 sa:PySem.W.findIn K (.ref C) "__setattr__" = some (some (.builtin "object.__setattr__"))
theorem Cls.get {K:PySem.W.Frag}{C:Addr} (c:Cls K C) (f:Str):PySem.W.plainGet K C f=true:=c.pg
noncomputable def zAX (K:PySem.W.Frag) (C:Addr) (f:Str):Prop:=PySem.W.findIn K (.ref C) f=some none
theorem zAX.taker {K:PySem.W.Frag}{C:Addr}{f:Str} (n:zAX K C f):PySem.W.takerIn K C f=some none:=by
 unfold PySem.W.takerIn
 rw[show PySem.W.findIn K (.ref C) f=some none from n]
 rfl
structure Con (K:PySem.W.Frag) (C:Addr) (f:Str) (v:V) (u:Value):Prop where
 at_:PySem.W.findIn K (.ref C) f=some (some u)
 rel:zg v u
 get:PySem.W.specialIn K u "__get__" = some none
 cp:PySem.W.copiedNames.contains f=false
structure zJX (K:PySem.W.Frag) (C:Addr) (m:Str) (f:Addr):Prop where
 at_:PySem.W.findIn K (.ref C) m=some (some (.ref f))
 fn:PySem.W.isFn K (.ref f)=true
 kp:PySem.W.keepIn K (.ref f)=true
section
variable {X:Cx}{pins:List (Addr×Obj)}{σ:St}{H:Hp}{s:Shared}{a C dx:Addr}{fs:List (Str×V)}{f:Str}{v:V}{A:Around}{E:Value->Shared->Prop}
theorem zFA {b:Bool}{Q:Value->Shared->Prop} (I:Inv X pins σ H s) (e:H a=some (.ins C dx fs)) (c:Cls X.K C) (n:zAX X.K C f) (l:fs.lookup f=some v)
  (h:∀ u s',Inv X pins σ H s'->zg v u->Q u s'):wpAny (model X.prog X.w) A (getAttr (.ref a) f b) Q E s:=by
 obtain⟨mA,O,r,_,_,_⟩:=zDr I.hok e
 obtain⟨u,hu,ru⟩:=Qi.some_of (v:=v) (o:=mA f) (by rw[<- l];exact r f)
 exact zOc I.kIn O (c.get f) c.hd n hu (zLT ru) (h u _ (I.tok _) ru)
theorem zEi {m:Str}{g:Addr}{pl:Sem Bool}{Q:Value×List Value->Shared->Prop} (I:Inv X pins σ H s) (e:H a=some (.ins C dx fs)) (c:Cls X.K C) (k:zJX X.K C m g) (l:fs.lookup m=none)
  (h:Q (.ref g,[.ref a]) s):wpAny (model X.prog X.w) A (getMethod (.ref a) m pl) Q E s:=by
 obtain⟨mA,O,r,_,_,_⟩:=zDr I.hok e
 have hn:mA m=none:=Qi.none_of (by rw[<- l];exact r m)
 exact zM3 I.kIn O (c.get m) k.at_ k.fn hn h
theorem zEu {y:V}{u:Value}{Q:Unit->Shared->Prop} (I:Inv X pins σ H s) (e:H a=some (.ins C dx fs)) (c:Cls X.K C) (n:zAX X.K C f) (hl:fs.length < 1000) (ry:zg y u)
  (h:∀ s',Inv X pins σ (upd H a (.ins C dx (yR f y fs))) s'->Q () s'):wpAny (model X.prog X.w) A (setAttr (.ref a) f u) Q E s:=by
 obtain⟨mA,O,r,wi,_,ho⟩:=zDr I.hok e
 have hz:(fs.map (·.1)).length <= sizeLine:=by rw[List.length_map,sizeLine_eq];omega
 refine zOk I.kIn O c.sa c.po n.taker c.hd wi hz fun h' O' sb=>h _ ?_
 have hd:∃ o,h'.get? dx=some o:=let ⟨o,_,_,e',_⟩:=O'.ns;⟨o,e'⟩
 refine I.write (x:=a) (e:=dx) (by rw[e];exact True.intro) (.inr ho) (fun b q hb z=>(sb.2 b hb).trans z) hd ?_
 refine⟨by rw[jP O.ne];exact ho,?_,O.ne,O'.obj,_,O'.ns,fun g=>?_,fun g hg=>?_⟩
 ·have:=zD9 f y fs;omega
 ·show Qi ((yR f y fs).lookup g) (if g=f then some u else mA g)
  rw[zBe]
  by_cases q:g=f
  ·rw[if_pos q,if_pos q];exact ry
  ·rw[if_neg q,if_neg q];exact r g
 ·by_cases q:g=f
  ·rw[q];exact (zDC f y fs).1
  ·refine (zDC f y fs).2 g (wi g fun z=>hg ?_)
   show (if g=f then some u else mA g)=none
   rw[if_neg q];exact z
theorem Inv.made (I:Inv X pins σ H s):Inv X pins σ (upd (upd H s.heap.objs.size (.own (s.heap.objs.size+1))) (s.heap.objs.size+1) (.ins C s.heap.objs.size []))
  { s with heap:=(s.heap.push PySem.W.emptyDict).push (PySem.W.instObj C s.heap.objs.size) }:=by
 have e1:(s.heap.push PySem.W.emptyDict).get? s.heap.objs.size=some PySem.W.emptyDict:=Heap.get?_push_size s.heap rfl
 have e2:((s.heap.push PySem.W.emptyDict).push (PySem.W.instObj C s.heap.objs.size)).get? (s.heap.objs.size+1)=some (PySem.W.instObj C s.heap.objs.size):=by
  have:=Heap.get?_push_size (s.heap.push PySem.W.emptyDict) (o:=PySem.W.instObj C s.heap.objs.size) rfl
  rwa [Heap.size_push] at this
 have e3:(s.heap.push PySem.W.emptyDict).Ns s.heap.objs.size (fun _=>none):=⟨PySem.W.emptyDict,#[],_,e1,rfl,(fun e he=>absurd he (by simp)),fun _=>rfl⟩
 have I1:=I.laid (a:=s.heap.objs.size) (o:=.own (s.heap.objs.size+1)) (h':=s.heap.push PySem.W.emptyDict) (t':=s.toks) (fun b u q=>Heap.get?_push_of_some _ q) (Nat.le_refl _) ⟨_,e1⟩
 refine I1.laid (a:=s.heap.objs.size+1) (o:=.ins C s.heap.objs.size []) (t':=s.toks) (fun b u q=>Heap.get?_push_of_some _ q) (Nat.le_of_eq (Heap.size_push _ _)) ?_
 have ne:s.heap.objs.size≠s.heap.objs.size+1:=Nat.ne_of_lt (Nat.lt_succ_self _)
 refine⟨by rw[jP ne,qD],Nat.zero_le _,ne,e2,fun _=>none,(Heap.Ns1.of_empty e3).at fun o q=>Heap.get?_push_of_some _ q,fun _=>True.intro,fun y hy=>absurd rfl hy⟩
theorem zOa {prog:Program}{w:World}{env:Env}{e:Expr}{f:Str}{pos:Pos}{s:Shared}{Q:Value->Shared->Prop} (hb:attributeBase e f env (eval e env)=eval e env)
  (h:wpAny (model prog w) A (eval e env) (fun o s₁=>wpAny (model prog w) A (getAttr o f true) Q E s₁) E s):wpAny (model prog w) A (eval (.Attribute e f pos) env) Q E s :=
 Attribute_any_ h (by rw[arm_eval_Attribute,hb])
end
noncomputable def zSV (K:PySem.W.Frag) (ta:TE) (f:Str):TE:=fun σ H Q=>ta σ H fun x H1=>∃ a C dx fs v,x=.ref a/\H1 a=some (.ins C dx fs)/\Cls K C/\zAX K C f/\fs.lookup f=some v/\Q v H1
noncomputable def J9 (K:PySem.W.Frag) (ta tv:TE) (f:Str):TS:=fun D σ H=>tv σ H fun y H1=>ta σ H1 fun x H2=>∃ a C dx fs,x=.ref a/\H2 a=some (.ins C dx fs)/\Cls K C/\zAX K C f/\fs.length < 1000 /\
 D.nx σ (upd H2 a (.ins C dx (yR f y fs)))
noncomputable def zSi (X:Cx) (op:Operator) (rd:V->V->Hp->VK->Prop):Prop :=
 ∀ (pins:List (Addr×Obj)) (s:Shared) (σ:St) (H:Hp) (x y:V) (u v:Value) (Q:VK),Inv X pins σ H s->zg x u->zg y v->rd x y H Q->wpAny (model X.prog X.w) X.A (inplaceOp op u v) (EP X pins σ Q) X.xe s
noncomputable def ZL (K:PySem.W.Frag) (ta tv:TE) (rd:V->V->Hp->VK->Prop) (f:Str):TS:=fun D σ H=>ta σ H fun x H1=>∃ a C dx fs v,x=.ref a/\H1 a=some (.ins C dx fs)/\Cls K C/\zAX K C f/\fs.lookup f=some v /\
 tv σ H1 fun y H2=>rd v y H2 fun z H3=>∃ dx' fs',H3 a=some (.ins C dx' fs')/\fs'.length < 1000/\D.nx σ (upd H3 a (.ins C dx' (yR f z fs')))
section
variable {X:Cx}{o e value:Expr}{f:Str}{pos pos' tpos:Pos}{ta tv:TE}
theorem zRA (he:PE X e ta) (hb:attributeBase e f X.env (eval e X.env)=eval e X.env):PE X (.Attribute e f pos) (zSV X.K ta f):=by
 intro pins s σ H Q I h
 refine zOa hb (thn (he pins s σ H _ I h) fun u s1 ⟨x,H1,I1,rx,a,C,dx,fs,v,ex,ea,c,n,l,q⟩=>?_)
 subst ex
 obtain rfl:u=Value.ref a:=rx
 exact zFA I1 ea c n l fun u' s2 I2 ru=>⟨v,H1,I2,ru,q⟩
theorem zQs (ha:PE X o ta) (hv:PE X value tv) (hs:swapsWith value (some (.Attribute o f pos')) pos.line X.env=pure false):PS X (.Assign [.Attribute o f pos'] value pos) (J9 X.K ta tv f):=by
 intro pins s σ H D I h
 refine plainObj_wpAny_Assign_Attribute (thn (hv pins s σ H _ I h) fun u s1 ⟨y,H1,I1,ry,q⟩=>thn (ha pins s1 σ H1 _ I1 q) fun ov s2 ⟨x,H2,I2,rx,a,C,dx,fs,ex,ea,c,n,l,q2⟩=>?_) hs
 subst ex
 obtain rfl:ov=Value.ref a:=rx
 exact zEu I2 ea c n l ry fun s3 I3=>⟨σ,_,I3,q2⟩
theorem zL7 {op:Operator}{rd:V->V->Hp->VK->Prop} (ha:PE X o ta) (hv:PE X value tv) (hop:zSi X op rd):PS X (.AugAssign (.Attribute o f tpos) op value pos) (ZL X.K ta tv rd f):=by
 intro pins s σ H D I h
 refine wpAny_AugAssign_AttributeAny (thn (ha pins s σ H _ I h) fun ov s1 ⟨x,H1,I1,rx,a,C,dx,fs,v,ex,ea,c,n,l,q⟩=>?_)
 subst ex
 obtain rfl:ov=Value.ref a:=rx
 refine zFA I1 ea c n l fun u s2 I2 ru=>thn (hv pins s2 σ H1 _ I2 q) fun w3 s3 ⟨y,H2,I3,ry,q3⟩=>thn (hop pins s3 σ H2 v y u w3 _ I3 ru ry q3) fun w4 s4 ⟨z,H3,I4,rz,dx',fs',ea',l',q4⟩=>?_
 exact zEu I4 ea' c n l' rz fun s5 I5=>⟨σ,_,I5,q4⟩
end
section
variable {X:Cx}{pins:List (Addr×Obj)}{σ:St}{H:Hp}{s:Shared}{A:Around}{E:Value->Shared->Prop}{Q:Value->Shared->Prop}{c:Value}{b:Bool}
inductive Jt (K:PySem.W.Frag) (H:Hp):V->Value->Prop where
 | non:Jt K H .non (.type "NoneType")
 | bl (x:Bool):Jt K H (.bl x) (.type "bool")
 | int (i:Int):Jt K H (.int i) (.type "int")
 | str (x:Str):Jt K H (.str x) (.type "str")
 | flt (x:UInt64):Jt K H (.flt x) (.type "float")
 | lst {a:Addr}{xs:List V} (e:H a=some (.lst xs)):Jt K H (.ref a) (.type "list")
 | frz {a:Addr}{o:Obj}{xs:List V} (e:H a=some (.frz o (.lst xs))):Jt K H (.ref a) (.type "list")
 | tup {a:Addr}{xs:List V} (e:H a=some (.tup xs)):Jt K H (.ref a) (.type "tuple")
 | dK {a:Addr}{kvs:List (Key×V)} (e:H a=some (.dK kvs)):Jt K H (.ref a) (.type "dict")
 | dT {a:Addr}{kvs:List (List Key×V)} (e:H a=some (.dT kvs)):Jt K H (.ref a) (.type "dict")
 | ins {a C dx:Addr}{fs:List (Str×V)} (e:H a=some (.ins C dx fs)) (cl:Cls K C) (ha:PySem.W.findIn K (.ref C) "__class__" = some (some (.builtin "object.__class__")))
   (hn:PySem.W.specialIn K (.builtin "object.__class__") "__get__" = some (some (.builtin "getset_descriptor.__get__"))) (htk:PySem.W.takesIn K (.builtin "object.__class__")=some true)
   (hm:PySem.W.mroIn K C (.type "object")=some true):Jt K H (.ref a) (.ref C)
theorem zLm {x:V}{u t:Value} (I:Inv X pins σ H s) (rx:zg x u) (ty:Jt X.K H x t) (e:PySem.W.kitOne X.K t c=some b) (h:∀ tk,Q (.bool b) { s with toks:=tk }) :
  wpAny (model X.prog X.w) A (call (.builtin "isinstance") [u,c]) Q E s:=by
 cases ty with
 | non=>cases (show u=Value.none from rx);exact PySem.W.kia_one PySem.W.kitx_none I.kIn True.intro e (fun z=>nomatch z) h
 | bl y=>cases (show u=Value.bool y from rx);exact PySem.W.kia_one PySem.W.kitx_bool I.kIn True.intro e (fun z=>nomatch z) h
 | int i=>obtain⟨t,q⟩:=(show ∃ t,u=Value.int i t from rx);cases q;exact PySem.W.kia_one PySem.W.kitx_int I.kIn True.intro e (fun z=>nomatch z) h
 | str y=>obtain⟨t,q⟩:=(show ∃ t,u=Value.str y t from rx);cases q;exact PySem.W.kia_one PySem.W.kitx_str I.kIn True.intro e (fun z=>nomatch z) h
 | flt y=>obtain⟨t,q⟩:=(show ∃ t,u=Value.float y t from rx);cases q;exact PySem.W.kia_one PySem.W.kitx_float I.kIn True.intro e (fun z=>nomatch z) h
 | @lst a xs ea =>
  cases (show u=Value.ref a from rx)
  obtain⟨_,_,n,_,h1⟩:=(show qN X.prog X.w H s.heap a (.lst xs) from I.hok a _ ea)
  exact PySem.W.kia_one PySem.W.kitx_list I.kIn ⟨_,h1,rfl⟩ e (fun z=>nomatch z) h
 | @frz a ob xs ea =>
  cases (show u=Value.ref a from rx)
  obtain⟨_,_,_,n,_,h1⟩:=(show qN X.prog X.w H s.heap a (.frz ob (.lst xs)) from I.hok a _ ea)
  exact PySem.W.kia_one PySem.W.kitx_list I.kIn ⟨_,h1,rfl⟩ e (fun z=>nomatch z) h
 | @tup a xs ea =>
  cases (show u=Value.ref a from rx)
  obtain⟨_,_,_,p⟩:=(show qN X.prog X.w H s.heap a (.tup xs) from I.hok a _ ea)
  obtain⟨o,h1,h2,_⟩:=p
  exact PySem.W.kia_one PySem.W.kitx_tuple I.kIn ⟨o,h1,h2⟩ e (fun z=>nomatch z) h
 | @dK a kvs ea =>
  cases (show u=Value.ref a from rx)
  obtain⟨_,_,vs,_,p⟩:=(show qN X.prog X.w H s.heap a (.dK kvs) from I.hok a _ ea)
  obtain⟨o,es,ep,h1,h2,_⟩:=p
  exact PySem.W.kia_one PySem.W.kitx_dict I.kIn ⟨o,h1,h2.1⟩ e (fun z=>nomatch z) h
 | @dT a kvs ea =>
  cases (show u=Value.ref a from rx)
  obtain⟨_,_,xs,_,o,es,ep,h1,h2,_⟩:=(show qN X.prog X.w H s.heap a (.dT kvs) from I.hok a _ ea)
  exact PySem.W.kia_one PySem.W.kitx_dict I.kIn ⟨o,h1,h2.1⟩ e (fun z=>nomatch z) h
 | @ins a C dx fs ea cl ha hn htk hm =>
  cases (show u=Value.ref a from rx)
  obtain⟨mA,O,_⟩:=zDr I.hok ea
  obtain⟨od,J,_⟩:=O.look
  exact PySem.W.kia_one (PySem.W.kitx_own (cl.get _) cl.hd ha hn htk hm) I.kIn J e (fun z=>nomatch z) h
end
end L2
namespace L2
open PySem PySem.Spec PyProof.Rows
structure jL (k:Nat) (A:Around):Prop where
 hd:A.handled=none
 dp:A.depth+3 * k+5 < recursionLimit
 un:A.units+16 * k+200 < cLine
theorem jL.mono {j k:Nat}{A:Around} (r:jL k A) (h:j <= k):jL j A:=⟨r.hd,by have:=r.dp;omega,by have:=r.un;omega⟩
theorem jL.deeper {k:Nat}{A:Around} (r:jL (k+1) A) (env:Env):jL k (A.deeper env) :=
 ⟨r.hd,by have:=r.dp;show A.depth+1+3 * k+5 < _;omega,by have:=r.un;show A.units+3+16 * k+200 < _;omega⟩
theorem zKU {A:Around}{C:Addr}{us:List Value}{kw:List (Str×Value)}:(A.under (.builtin "type.__call__" ⟨.ref C::us,kw⟩)).depth=A.depth+1:=by
 first | rfl | simp[Around.under,Code.weight,Code.isCreation,Code.isGuard,Code.isCaller,Code.frames,Code.isFrame,guardIds]
theorem zJg {A:Around}{C:Addr}{us:List Value}{kw:List (Str×Value)}:(A.under (.builtin "type.__call__" ⟨.ref C::us,kw⟩)).units=A.units+1:=by
 first | rfl | simp[Around.under,Code.cUnits,Code.frames,Code.isFrame]
theorem jL.make {k:Nat}{A:Around} (r:jL (k+1) A) (C:Addr) (us:List Value) (kw:List (Str×Value)):jL k (A.under (.builtin "type.__call__" ⟨.ref C::us,kw⟩)) :=
 ⟨r.hd,by have:=r.dp;rw[zKU];omega,by have:=r.un;rw[zJg];omega⟩
theorem jL.depth {k:Nat}{A:Around} (r:jL k A):A.depth < recursionLimit:=by have:=r.dp;omega
theorem jL.units {k:Nat}{A:Around} (r:jL k A):A.units+64 < cLine:=by have:=r.un;omega
theorem jL.units0 {k:Nat}{A:Around} (r:jL k A):A.units < cLine:=by have:=r.un;omega
noncomputable def zRK:TA:=fun _ H Q=>Q [] H
noncomputable def zR3 (ta:TE) (tr:TA):TA:=fun σ H Q=>ta σ H fun x H1=>tr σ H1 fun xs H2=>Q (x::xs) H2
section
variable {X:Cx}{e:Expr}{es:List Expr}{te:TE}{t:TA}{pos:Pos}
theorem zLM:PA X [] zRK:=fun _ _ _ _ H Q I h=>Calls.spliced_nil ⟨[],H,I,.nil,h⟩
theorem zI4 (ha:PE X e te) (hr:PA X es t) (hs:starEach (e::es) X.env=(false,eval e X.env)::starEach es X.env:=by rfl):PA X (e::es) (zR3 te t):=by
 intro pos pins s σ H Q I h
 rw[hs]
 show wpAny _ _ (spliced ((false,eval e X.env)::backTo pos (starEach es X.env))) _ _ s
 refine Calls.spliced_cons (thn (ha pins s σ H _ I h) fun u s1 ⟨x,H1,I1,r1,q1⟩=>?_)
 exact thn (hr pos pins s1 σ H1 _ I1 q1) fun us s2 ⟨xs,H2,I2,r2,q2⟩=>⟨x::xs,H2,I2,.cons r1 r2,q2⟩
noncomputable def zSa (t:TA):TE:=fun σ H Q=>t σ H fun xs H1=>xs.length <= sizeLine/\∀ p,H1 p=none->Q (.ref p) (upd H1 p (.tup xs))
noncomputable def zSW (t:TA):TE:=fun σ H Q=>t σ H fun xs H1=>xs.length <= sizeLine/\∀ p,H1 p=none->Q (.ref p) (upd H1 p (.lst xs))
theorem zPh {x1} (h:PA X es t):PE X (.Tuple es x1 pos) (zSa t):=by
 intro pins s σ H Q I hq
 refine wpAny_Tuple_spliced (thn (h pos pins s σ H _ I hq) fun us s1 ⟨xs,H1,I1,r,z,q⟩=>⟨by rw[<- r.length];exact z,?_⟩)
 have hf:H1 s1.heap.objs.size=none:=I1.hok.fresh (Nat.le_refl _)
 refine⟨.ref s1.heap.objs.size,upd H1 s1.heap.objs.size (.tup xs),I1.laid (t':=s1.toks) (fun b u e=>Heap.get?_push_of_some _ e) (Nat.le_refl _) ?_,rfl,q _ hf⟩
 exact⟨z,us,r,⟨_,Heap.get?_push_size _ rfl,rfl,_,rfl⟩⟩
theorem zQ1 (h:PA X es t):PE X (.List es pos) (zSW t):=by
 intro pins s σ H Q I hq
 refine wpAny_List_spliced (thn (h pos pins s σ H _ I hq) fun us s1 ⟨xs,H1,I1,r,z,q⟩=>⟨by rw[<- r.length];exact z,?_⟩)
 have hf:H1 s1.heap.objs.size=none:=I1.hok.fresh (Nat.le_refl _)
 refine⟨.ref s1.heap.objs.size,upd H1 s1.heap.objs.size (.lst xs),I1.laid (t':=s1.toks) (fun b u e=>Heap.get?_push_of_some _ e) (Nat.le_refl _) ?_,rfl,q _ hf⟩
 exact⟨z,us,0,r,Heap.get?_push_size _ rfl⟩
end
noncomputable abbrev Sp:=List V->Hp->VK->XK->Prop
noncomputable abbrev CXT:=List Env->Hp->Shared->XK->Value->Shared->Prop
structure zEZ (P:Program) (w:World) (K:PySem.W.Frag) (mg:Str->Option Value) (base:Heap) (A:Around) (outer:List Env) (s:Shared) (H:Hp):Prop where
 frames:A.frames=some outer
 mod:Mod K mg base
 bs:∀ b o,base.get? b=some o->s.heap.get? b=some o/\H b=none
 bsz:base.objs.size <= s.heap.objs.size
 funs:s.heap.FunFrames base outer
 frf:∀ b∈frs outer,H b=none
 hok:HOk P w H s.heap
 bare:AllBare s.gens
noncomputable def CE (outer:List Env) (P:Program) (w:World) (H:Hp) (s:Shared) (Q:VK) (u:Value) (s':Shared):Prop :=
 ∃ v H',s'.os=s.os/\AllBare s'.gens/\Un (frs outer) [] H H' s.heap s'.heap/\HOk P w H' s'.heap/\zg v u/\Q v H'
noncomputable def CR (CX:CXT) (outer:List Env) (P:Program) (w:World) (H:Hp) (s:Shared) (Q:VK) (E:XK) (r:Result) (s':Shared):Prop :=
 match r with
 | .ok (.ret u)=>CE outer P w H s Q u s'
 | .ok _=>False
 | .error e=>CX outer H s E e s'
structure jU (P:Program) (w:World) (K:PySem.W.Frag) (mg:Str->Option Value) (base:Heap) (CX:CXT) (k:Nat) (f:Addr) (fd:FuncData) (ps:List Str) (sp:Sp):Prop where
 len:∀ vs H Q E,sp vs H Q E->vs.length=ps.length
 run:∀ (A:Around) (outer:List Env) (s:Shared) (H:Hp) (args:Args) (us:List Value) (vs:List V) (Q:VK) (E:XK),jL k A->zEZ P w K mg base A outer s H->(0 < s.toks\/∃ p∈ps,fd.scope.names.lookup p=some .local)->BindsTo s fd args (ps.zip us)->zU vs us->sp vs H Q E ->
  codeAny (model P w) A (.call (.ref f) args) (CR CX outer P w H s Q E) s
theorem jU.imp {P:Program}{w:World}{K:PySem.W.Frag}{mg:Str->Option Value}{base:Heap}{CX:CXT}{k:Nat}{f:Addr}{fd:FuncData}{ps:List Str}{sp sp':Sp} (F:jU P w K mg base CX k f fd ps sp)
  (h:∀ vs H Q E,sp' vs H Q E->sp vs H Q E):jU P w K mg base CX k f fd ps sp' :=
 ⟨fun vs H Q E q=>F.len vs H Q E (h _ _ _ _ q),fun A outer s H args us vs Q E hr he ht hb hv hs=>F.run A outer s H args us vs Q E hr he ht hb hv (h _ _ _ _ hs)⟩
theorem zEZ.make {P:Program}{w:World}{K:PySem.W.Frag}{mg:Str->Option Value}{base:Heap}{A:Around}{outer:List Env}{s:Shared}{H:Hp} (e:zEZ P w K mg base A outer s H) (C:Addr) (us:List Value) (kw:List (Str×Value)) :
  zEZ P w K mg base (A.under (.builtin "type.__call__" ⟨.ref C::us,kw⟩)) outer s H:=⟨by first | exact e.frames | (simpa [Around.under,Code.envs,Code.isFrame,pushEnvs] using e.frames),e.mod,e.bs,e.bsz,e.funs,e.frf,e.hok,e.bare⟩
section
variable {X:Cx}{pins:List (Addr×Obj)}{σ:St}{H:Hp}{s s':Shared}
theorem Inv.env0 (I:Inv X pins σ H s):zEZ X.prog X.w X.K X.mg X.base X.A X.stack s H :=
 ⟨I.ok.frames,I.ok.mod,I.bs,Nat.le_trans I.ok.bsz I.sz,I.stack,I.stkFree,I.hok,I.bare⟩
theorem Inv.after {Q:VK}{u:Value} (I:Inv X pins σ H s) (h:CE X.stack X.prog X.w H s Q u s') (ht:0 < s'.toks):EP X pins σ Q u s':=by
 obtain⟨v,H',os,bare,un,hok,r,q⟩:=h
 obtain⟨hh,g,d,t,os'⟩:=s'
 obtain rfl:os'=s.os:=os
 exact⟨v,H',I.call (h':=hh) (g':=g) (d':=d) (t':=t) (ch:=[]) un hok bare (fun b z=>absurd z (by simp)) ht,r,q⟩
end
noncomputable def zN3 (sp:Sp) (dvs:List V) (E:XK) (t:TA):TE:=fun σ H Q=>t σ H fun vs H1=>sp (vs++dvs) H1 Q E
noncomputable def zNy (C:Addr) (m:Str) (sp:Sp) (dvs:List V) (E:XK) (ta:TE) (t:TA):TE:=fun σ H Q=>ta σ H fun x H1=>∃ a dx fs,x=.ref a/\H1 a=some (.ins C dx fs)/\fs.lookup m=none /\
 t σ H1 fun vs H2=>sp (x::(vs++dvs)) H2 Q E
noncomputable def zR2 (C:Addr) (sp:Sp) (dvs:List V) (E:XK) (t:TA):TE:=fun σ H Q=>t σ H fun vs H1=>∀ x dx,H1 x=none->H1 dx=none->dx≠x ->
 sp (.ref x::(vs++dvs)) (upd (upd H1 dx (.own x)) x (.ins C dx [])) (fun v H2=>v=.non/\Q (.ref x) H2) E
noncomputable def Qp (K:PySem.W.Frag) (fd:FuncData) (ps:List Str) (ds:List Value):Prop :=
 ∀ (s:Shared) (us:List Value),K.In s.heap->(us++ds).length=ps.length->BindsTo s fd ⟨us,[]⟩ (ps.zip (us++ds))
theorem Qp.all {K:PySem.W.Frag}{fd:FuncData}{ps:List Str} (h:∀ us:List Value,us.length=ps.length->bindArgs fd ⟨us,[]⟩=pure (ps.zip us)):Qp K fd ps []:=fun s us _ hl=>by
 rw[List.append_nil] at hl ⊢
 exact .of_eq (h us hl)
noncomputable def ya (CX:CXT) (X:Cx) (E:XK):Prop:=∀ (pins:List (Addr×Obj)) (σ:St) (H:Hp) (s:Shared) (e:Value) (s':Shared),Inv X pins σ H s->CX X.stack H s E e s'->X.xe e s'
section
variable {X:Cx}{CX:CXT}{k:Nat}{f C:Addr}{fd:FuncData}{ps:List Str}{sp:Sp}{dvs:List V}{ds:List Value}{E:XK}{x m:Str}{p pos apos:Pos}{e o:Expr}{es:List Expr}{ta:TE}{t:TA}
theorem zG3 {pins:List (Addr×Obj)}{σ:St}{H:Hp}{s:Shared}{Q:VK}{us:List Value}{vs:List V} (F:jU X.prog X.w X.K X.mg X.base CX k f fd ps sp) (hr:jL k X.A) (hb:Qp X.K fd ps ds) (hd:zU dvs ds) (hx:ya CX X E)
  (I:Inv X pins σ H s) (r:zU vs us) (h:sp (vs++dvs) H Q E):wpAny (model X.prog X.w) X.A (call (.ref f) us) (EP X pins σ Q) X.xe s:=by
 have r2:zU (vs++dvs) (us++ds):=r.append hd
 have hl:(us++ds).length=ps.length:=by rw[<- r2.length];exact F.len _ _ _ _ h
 refine wpAny_call (codeAny_mono (codeAny_toks_of (n:=1) I.tk (F.run X.A X.stack s H ⟨us,[]⟩ (us++ds) (vs++dvs) Q E hr I.env0 (.inl I.tk) (hb s us I.kIn hl) r2 h)) fun r s' ⟨htk,hq⟩=>?_)
 cases r with
 | error e=>exact hx pins σ H s e s' I hq
 | ok fl =>
  cases fl with
  | ret u=>exact I.after hq htk
  | next=>exact False.elim hq
  | brk=>exact False.elim hq
  | cont=>exact False.elim hq
theorem zOR (F:jU X.prog X.w X.K X.mg X.base CX k f fd ps sp) (hr:jL k X.A) (hg:Gl X x) (hm:X.mg x=some (.ref f)) (hk:PySem.W.keepIn X.K (.ref f)=true) (hb:Qp X.K fd ps ds) (hd:zU dvs ds) (hx:ya CX X E)
  (ha:PA X (e::es) t) (hdb:(x == ("__debug__" : Str))=false:=by decide) (he:starEach (e::es) X.env=(false,eval e X.env)::starEach es X.env:=by rfl) (hpl:(backTo pos (starEach es X.env)).any (·.1)=false:=by rfl) :
  PE X (.Call (.Name x p) (e::es) [] pos) (zN3 sp dvs E t):=by
 intro pins s σ H Q I h
 refine wpAny_Call_Name_kw (zFz I hg hm ?_ hdb)
 refine PySem.W.callWith_K (h₀:=X.base) I.ok.mod.kin hk (thn (ha pos pins s σ H _ I h) fun us s1 ⟨vs,H1,I1,r,q⟩=>⟨I1.kIn,?_⟩) he hpl
 exact zG3 F hr hb hd hx I1 r q
theorem zOn {pl:Sem Bool} (he:PE X o ta) (c:Cls X.K C) (hm:zJX X.K C m f) (F:jU X.prog X.w X.K X.mg X.base CX k f fd ps sp) (hr:jL k X.A) (hb:Qp X.K fd ps ds) (hd:zU dvs ds) (hx:ya CX X E) (ha:PA X (e::es) t)
  (hst:starEach (e::es) X.env=(false,eval e X.env)::starEach es X.env:=by rfl) (hpl:(backTo pos (starEach es X.env)).any (·.1)=false:=by rfl)
  (ht:eval (.Call (.Attribute o m apos) (e::es) [] pos) X.env=(do
   let ov <- eval o X.env
   standAt apos.atName
   let (f,first) <- holding [ov] (getMethod ov m pl)
   callWith pos f first (backTo pos (starEach (e::es) X.env)) (backToKw pos (keywordEach [] X.env))):=by rfl) :
  PE X (.Call (.Attribute o m apos) (e::es) [] pos) (zNy C m sp dvs E ta t):=by
 intro pins s σ H Q I h
 refine PySem.W.methodCall_KW (pl:=pl) (thn (he pins s σ H _ I h) fun u s1 ⟨x,H1,I1,rx,a,dx,fs,ex,ea,l,q⟩=>?_) ht
 subst ex
 obtain rfl:u=Value.ref a:=rx
 refine zEi I1 ea c hm l ?_
 refine PySem.W.callWith_K (first:=[.ref a]) (h₀:=X.base) I.ok.mod.kin hm.kp (thn (ha pos pins s1 σ H1 _ I1 q) fun us s2 ⟨vs,H2,I2,r,q2⟩=>⟨I2.kIn,?_⟩) hst hpl
 exact zG3 (us:=.ref a::us) (vs:=.ref a::vs) F hr hb hd hx I2 (.cons rfl r) q2
theorem zNj {pl:Sem Bool} (he:PE X o ta) (c:Cls X.K C) (hm:zJX X.K C m f) (F:jU X.prog X.w X.K X.mg X.base CX k f fd ps sp) (hr:jL k X.A) (hb:Qp X.K fd ps ds) (hd:zU dvs ds) (hx:ya CX X E)
  (ht:eval (.Call (.Attribute o m apos) [] [] pos) X.env=(do
   let ov <- eval o X.env
   standAt apos.atName
   let (f,first) <- holding [ov] (getMethod ov m pl)
   callWith pos f first (backTo pos (starEach [] X.env)) (backToKw pos (keywordEach [] X.env))):=by rfl) :
  PE X (.Call (.Attribute o m apos) [] [] pos) (zNy C m sp dvs E ta zRK):=by
 intro pins s σ H Q I h
 refine PySem.W.methodCall_KW (pl:=pl) (thn (he pins s σ H _ I h) fun u s1 ⟨x,H1,I1,rx,a,dx,fs,ex,ea,l,q⟩=>?_) ht
 subst ex
 obtain rfl:u=Value.ref a:=rx
 refine zEi I1 ea c hm l ?_
 exact PySem.W.callWith_K0 (first:=[.ref a]) I1.kIn hm.kp (zG3 (us:=[.ref a]) (vs:=[.ref a]) F hr hb hd hx I1 (.cons rfl .nil) q)
structure Mk (K:PySem.W.Frag) (C f:Addr):Prop where
 makes:PySem.W.makesIn K C=true
 init:PySem.W.findIn K (.ref C) "__init__" = some (some (.ref f))
 fn:PySem.W.isFn K (.ref f)=true
 kp:PySem.W.keepIn K (.ref C)=true
theorem zNI {pins:List (Addr×Obj)}{σ:St}{H:Hp}{s:Shared}{Q:VK}{us:List Value}{vs:List V} (M:Mk X.K C f) (F:jU X.prog X.w X.K X.mg X.base CX k f fd ps sp) (hr:jL (k+1) X.A) (hb:Qp X.K fd ps ds) (hd:zU dvs ds)
  (hx:ya CX X E) (I:Inv X pins σ H s) (r:zU vs us)
  (h:∀ x dx,H x=none->H dx=none->dx≠x->sp (.ref x::(vs++dvs)) (upd (upd H dx (.own x)) x (.ins C dx [])) (fun v H2=>v=.non/\Q (.ref x) H2) E) :
  wpAny (model X.prog X.w) X.A (call (.ref C) us) (EP X pins σ Q) X.xe s:=by
 have hq:=h (s.heap.objs.size+1) s.heap.objs.size (I.hok.fresh (Nat.le_succ _)) (I.hok.fresh (Nat.le_refl _)) (Nat.ne_of_lt (Nat.lt_succ_self _))
 have I2:=Inv.made (C:=C) I
 have r2:zU (V.ref (s.heap.objs.size+1)::(vs++dvs)) (Value.ref (s.heap.objs.size+1)::(us++ds)):=.cons rfl (r.append hd)
 have hl:(Value.ref (s.heap.objs.size+1)::us++ds).length=ps.length:=by
  have e:=r2.length
  rw[F.len _ _ _ _ hq] at e
  exact e.symm
 refine wpAny_call (zMA (f:=f) I.kIn M.makes M.init (beq_iff_eq.mp M.fn) (codeAny_mono (codeAny_toks_of (n:=1) I2.tk (F.run _ X.stack _ _ ⟨Value.ref (s.heap.objs.size+1)::us,[]⟩ (Value.ref (s.heap.objs.size+1)::(us++ds)) _ _ E (hr.make C us [])
  (I2.env0.make C us []) (.inl I2.tk) (hb _ (Value.ref (s.heap.objs.size+1)::us) I2.kIn hl) r2 hq)) fun r s' ⟨htk,hq'⟩=>?_))
 cases r with
 | error e=>exact hx pins σ _ _ e s' I2 hq'
 | ok fl =>
  cases fl with
  | ret u =>
   obtain⟨v,H',I3,rv,ev,q3⟩:=I2.after hq' htk
   subst ev
   exact⟨rv,⟨V.ref (s.heap.objs.size+1),H',I3,rfl,q3⟩⟩
  | next=>exact False.elim hq'
  | brk=>exact False.elim hq'
  | cont=>exact False.elim hq'
theorem zO1 (M:Mk X.K C f) (F:jU X.prog X.w X.K X.mg X.base CX k f fd ps sp) (hr:jL (k+1) X.A) (hg:Gl X x) (hm:X.mg x=some (.ref C)) (hb:Qp X.K fd ps ds) (hd:zU dvs ds) (hx:ya CX X E)
  (ha:PA X (e::es) t) (hdb:(x == ("__debug__" : Str))=false:=by decide) (he:starEach (e::es) X.env=(false,eval e X.env)::starEach es X.env:=by rfl) (hpl:(backTo pos (starEach es X.env)).any (·.1)=false:=by rfl) :
  PE X (.Call (.Name x p) (e::es) [] pos) (zR2 C sp dvs E t):=by
 intro pins s σ H Q I h
 refine wpAny_Call_Name_kw (zFz I hg hm ?_ hdb)
 refine PySem.W.callWith_K (h₀:=X.base) I.ok.mod.kin M.kp (thn (ha pos pins s σ H _ I h) fun us s1 ⟨vs,H1,I1,r,q⟩=>⟨I1.kIn,?_⟩) he hpl
 exact zNI M F hr hb hd hx I1 r q
end
section
variable {X:Cx}{CX:CXT}{k:Nat}{f C:Addr}{fd:FuncData}{ps ks:List Str}{sp:Sp}{E:XK}{x m:Str}{p pos apos kpos:Pos}{e o:Expr}{es:List Expr}{kws:List Keyword}{te ta:TE}{t tk:TA}{nm:Option Str}
structure zSn (K:PySem.W.Frag) (fd:FuncData) (ps ks:List Str) (g:List Value->List Value->List Value) (gV:List V->List V->List V):Prop where
 to:∀ (s:Shared) (us ws:List Value),K.In s.heap->(g us ws).length=ps.length->BindsTo s fd ⟨us,ks.zip ws⟩ (ps.zip (g us ws))
 rel:∀ {vs:List V}{us:List Value}{zs:List V}{ws:List Value},zU vs us->zU zs ws->zU (gV vs zs) (g us ws)
variable {g:List Value->List Value->List Value}{gV:List V->List V->List V}
end
structure zy (N P:List Str) (sc:Scope):Prop where
 kind:sc.kind=.function
 co:sc.isCoroutine=false
 gen:sc.isGenerator=false
 nd:N.Nodup
 pre:N.take P.length=P
 par:∀ x∈P,sc.names.lookup x=some .local\/sc.names.lookup x=some .cell
 nofree:∀ y∈sc.names,y.2≠.free
theorem zGT {kindOf:Str->Option NameKind}{x:Str}:∀ {binds:List (Str×Value)}{m:Str->Option Value},(∀ v,(x,v)∉binds)->bindL kindOf binds m x=m x
 | [],_,_=>rfl
 | (n,v)::r,m,h=>by
  unfold bindL
  rw[zGT fun w hw=>h w (List.mem_cons_of_mem _ hw)]
  split
  ·have:x≠n:=by rintro rfl;exact h v List.mem_cons_self
   simp[this]
  ·rfl
theorem zF8 {kindOf:Str->Option NameKind}{x:Str}:∀ {binds:List (Str×Value)}{m:Str->Option Value},(∀ v,(x,v)∉binds)->bindC kindOf binds m x=m x
 | [],_,_=>rfl
 | (n,v)::r,m,h=>by
  unfold bindC
  rw[zF8 fun w hw=>h w (List.mem_cons_of_mem _ hw)]
  split
  ·rfl
  ·have:x≠n:=by rintro rfl;exact h v List.mem_cons_self
   simp[this]
theorem zGJ {kindOf:Str->Option NameKind}{x:Str}{v:Value}:∀ {P:List Str}{vs:List Value}{i:Nat}{m:Str->Option Value},P.Nodup->P[i]? = some x->vs[i]? = some v->kindOf x=some .local ->
  bindL kindOf (P.zip vs) m x=some v
 | [],_,_,_,_,h,_,_=>by simp at h
 | _::_,[],_,_,_,_,h,_=>by simp at h
 | p::P,w::vs,0,m,nd,h1,h2,hk=>by
  simp at h1 h2;subst h1;subst h2
  show bindL kindOf ((p,w)::P.zip vs) m p=_
  unfold bindL
  rw[zGT fun v hv=>(List.nodup_cons.mp nd).1 (List.of_mem_zip hv).1,if_pos hk]
  simp
 | p::P,w::vs,i+1,m,nd,h1,h2,hk=>by
  show bindL kindOf ((p,w)::P.zip vs) m x=_
  unfold bindL
  exact zGJ (i:=i) (List.nodup_cons.mp nd).2 (by simpa using h1) (by simpa using h2) hk
theorem zGN {kindOf:Str->Option NameKind}{x:Str}{v:Value}:∀ {P:List Str}{vs:List Value}{i:Nat}{m:Str->Option Value},P.Nodup->P[i]? = some x->vs[i]? = some v->kindOf x≠some .local ->
  bindC kindOf (P.zip vs) m x=some v
 | [],_,_,_,_,h,_,_=>by simp at h
 | _::_,[],_,_,_,_,h,_=>by simp at h
 | p::P,w::vs,0,m,nd,h1,h2,hk=>by
  simp at h1 h2;subst h1;subst h2
  show bindC kindOf ((p,w)::P.zip vs) m p=_
  unfold bindC
  rw[zF8 fun v hv=>(List.nodup_cons.mp nd).1 (List.of_mem_zip hv).1,if_neg hk]
  simp
 | p::P,w::vs,i+1,m,nd,h1,h2,hk=>by
  show bindC kindOf ((p,w)::P.zip vs) m x=_
  unfold bindC
  exact zGN (i:=i) (List.nodup_cons.mp nd).2 (by simpa using h1) (by simpa using h2) hk
noncomputable def Ja (N:List Str) (vs:List V):St:=vs.map some++List.replicate (N.length - vs.length) none
noncomputable def zBB (CX:CXT) (P:Program) (w:World) (K:PySem.W.Frag) (mg:Str->Option Value) (base:Heap) (N:List Str) (qual:Str) (scope:Scope) (f:Addr) (cd:Value) (A:Around) (outer:List Env) (s:Shared) (H:Hp) (E:XK):Cx where
 prog:=P
 w:=w
 K:=K
 mg:=mg
 base:=base
 A:=A.deeper (envOfC qual scope s.heap.objs.size f cd)
 N:=N
 s₀:=s
 H₀:=H
 env:=envOfC qual scope s.heap.objs.size f cd
 outer:=outer
 stack:=envOfC qual scope s.heap.objs.size f cd::outer
 ex:=[]
 calm:=true
 fn:=fun _=>true
 pn:=[]
 xe:=fun e s'=>wpAny (model P w) (A.deeper (envOfC qual scope s.heap.objs.size f cd)) (leaving (envOfC qual scope s.heap.objs.size f cd) e) (fun _ s''=>CX outer H s E e s'') (fun e' s''=>CX outer H s E e' s'') s'
theorem zG6 {sc:Scope}{n:Nat}{x:Str} (h:sc.names.lookup x=some .cell):∃ c,(cellsFrom n sc.names []).lookup x=some c:=by
 have q:=PySem.W.cellsFrom_some sc.names n [] (.inl h)
 exact Option.isSome_iff_exists.mp q
theorem zBd {M:Model}{A:Around}{E:Value->Shared->Prop}{s₀:Shared}{env:Env} (f:Str×Value->PUnit->Sem (ForInStep PUnit)) (hf:∀ n v u,f (n,v) u=(do storeName env n v;pure (.yield ⟨⟩))) (hk:env.scope.kind=.function) :
  ∀ (binds:List (Str×Value)) (m cm:Str->Option Value) (s:Shared) (Q:PUnit->Shared->Prop),InCallC s₀ env.locals m env.cells cm s ->
   (∀ x∈binds,env.kindOf x.1=some .local\/(env.kindOf x.1=some .cell/\(env.cells.lookup x.1).isSome=true)) ->
   (∀ s',InCallC s₀ env.locals (bindL env.kindOf binds m) env.cells (bindC env.kindOf binds cm) s'->((0 < s.toks\/∃ b∈binds,env.kindOf b.1=some .local)->0 < s'.toks)->Q ⟨⟩ s')->wpAny M A (forIn binds ⟨⟩ f) Q E s
 | [],m,cm,s,Q,x,_,h=>by
  rw[List.forIn_nil]
  exact wpAny_pure (h s x fun z=>z.elim id fun ⟨b,hb,_⟩=>absurd hb (by simp))
 | (n,v)::r,m,cm,s,Q,x,hkind,h=>by
  rw[List.forIn_cons,hf]
  have hr:∀ y∈r,env.kindOf y.1=some .local\/(env.kindOf y.1=some .cell/\(env.cells.lookup y.1).isSome=true):=fun y hy=>hkind y (List.mem_cons_of_mem _ hy)
  rcases hkind (n,v) List.mem_cons_self with hl | ⟨hl,hc⟩
  ·refine wpAny_bind (wpAny_bind (wpAny_storeName_local hl x.toInCall.ns (fun h' hn' hs'=>wpAny_pure (zBd f hf hk r (fun y=>if y=n then some v else m y) cm _ Q ⟨⟨?_,hn',fun b o e=>?_,x.toInCall.fresh⟩,fun k c hc=>?_,x.apart,x.above⟩ hr fun s'' x'' ht=>h s'' ?_ fun _=>ht (.inl (Nat.succ_pos _)))) (by rw[hk];rfl)))
   ·obtain⟨h₁,tk,rfl⟩:=x.toInCall.same
    exact⟨h',_,rfl⟩
   ·exact hs'.extBut b o (Nat.ne_of_lt (Nat.lt_of_lt_of_le (Heap.lt_size e) x.toInCall.fresh)) (x.toInCall.keep b o e)
   ·exact (x.cell k c hc).sameBut hs' (Nat.ne_of_gt (x.above k c (PySem.mem_of_lookup hc)))
   ·unfold bindL bindC;rw[if_pos hl,if_pos hl];exact x''
  ·obtain⟨c,hc⟩:=Option.isSome_iff_exists.mp hc
   have hnl:¬ env.kindOf n=some .local:=by rw[hl];decide
   refine wpAny_bind (wpAny_bind (wpAny_with_toks (n:=s.toks) (Nat.le_refl _) (stCC x hk hl hc fun s' x' hle=>wpAny_pure (zBd f hf hk r m _ s' Q x' hr fun s'' x'' ht=>h s'' ?_ fun z=>ht ?_))))
   ·unfold bindL bindC;rw[if_neg hnl,if_neg hnl];exact x''
   ·rcases z with z | ⟨b,hb,hbl⟩
    ·exact .inl (Nat.lt_of_lt_of_le z hle)
    ·rcases List.mem_cons.mp hb with rfl | hb
     ·exact absurd hbl hnl
     ·exact .inr ⟨b,hb,hbl⟩
theorem zPI {M:Model}{A:Around}{E:Value->Shared->Prop}{s:Shared}{scope:Scope}{globals:Addr}{binds:List (Str×Value)}{qual:Str}{func:Option Addr}{code:Value}{builtins:Addr}{Q:Env->Shared->Prop}
  (hk:scope.kind=.function)
  (hkind:∀ x∈binds,scope.names.lookup x.1=some .local\/(scope.names.lookup x.1=some .cell/\((cellsFrom (s.heap.objs.size+1) scope.names []).lookup x.1).isSome=true))
  (hQ:∀ env,env=newEnv scope s.heap.objs.size globals (cellsFrom (s.heap.objs.size+1) scope.names []) qual func code none builtins ->
   ∀ s',InCallC s env.locals (bindL env.kindOf binds fun _=>none) env.cells (bindC env.kindOf binds fun _=>none) s'->((0 < s.toks\/∃ b∈binds,scope.names.lookup b.1=some .local)->0 < s'.toks)->Q env s') :
  wpAny M A (newFunctionEnv scope globals [] binds qual func code none builtins) Q E s:=by
 simp only[newFunctionEnv,Option.isSome_none,Bool.false_eq_true,if_false]
 refine wpAny_bind (wpAny_alloc ?_)
 refine wpAny_bind (wpAny_layCells _ (fun name kind cells=>by cases hkc:kind == NameKind.cell<;>simp[hkc]) _ _ _ _ ?_)
 have ok:=cellsFrom_ok scope.names (s.heap.push { cls:=.type "frame",data:=.dict #[] }) (s.heap.objs.size+1) [] ⟨fun _ _ hm=>(nomatch hm),List.Pairwise.nil⟩ (by rw[Heap.size_push];exact Nat.le_refl _)
 rw[Heap.size_push] at ok
 rw[show ({ s with heap:=s.heap.push { cls:=.type "frame",data:=.dict #[] } }:Shared).heap.objs.size=s.heap.objs.size+1 from Heap.size_push ..]
 refine wpAny_bind (zBd (s₀:=s) (env:=newEnv scope s.heap.objs.size globals (cellsFrom (s.heap.objs.size+1) scope.names []) qual func code none builtins)
  _ (fun _ _ _=>rfl) hk binds (fun _=>none) (fun _=>none) _ _
  ⟨⟨⟨_,_,rfl⟩,(Heap.Ns.new s.heap (.type "frame")).keeps (pushCells_keeps _ _),fun b o e=>pushCells_keeps _ _ b o (Heap.get?_push_of_some _ e),Nat.le_refl _⟩,
   fun n c hc=>(ok.empty n c (PySem.mem_of_lookup hc)).1,ok.apart,fun n c hm=>(ok.empty n c hm).2⟩
  hkind fun s' x ht=>wpAny_pure (hQ _ rfl s' x ht))
theorem zKj {CX:CXT}{P:Program}{w:World}{K:PySem.W.Frag}{mg:Str->Option Value}{base:Heap}{N ps:List Str}{qual:Str}{scope:Scope}{f:Addr}{cd:Value}{A:Around}{outer:List Env}{s s1:Shared}{H:Hp}{E:XK}{us:List Value}{vs:List V}
  (S:zy N ps scope) (hd:A.handled=none) (e0:zEZ P w K mg base A outer s H) (hl:vs.length=ps.length) (r:zU vs us)
  (x:InCallC s s.heap.objs.size (bindL (envOfC qual scope s.heap.objs.size f cd).kindOf (ps.zip us) fun _=>none) (cellsFrom (s.heap.objs.size+1) scope.names []) (bindC (envOfC qual scope s.heap.objs.size f cd).kindOf (ps.zip us) fun _=>none) s1) (ht:0 < s1.toks) :
  Inv (zBB CX P w K mg base N qual scope f cd A outer s H E) [] (Ja N vs) H s1:=by
 have hpl:ps.length <= N.length:=by have:=congrArg List.length S.pre;rw[List.length_take] at this;omega
 obtain⟨h1,tk,rfl,hk⟩:=x.done
 have noA:∀ b:Addr,b∉(zBB CX P w K mg base N qual scope f cd A outer s H E).ex:=fun b z=>absurd (show b∈([]:List Addr) from z) (by simp)
 refine⟨⟨e0.mod,S.kind,rfl,rfl,Nat.le_refl _,fun y z c h1 h2=>?_,fun y hy=>?_,fun y c _ h=>?_,fun _=>hd,Around.frames_deeper e0.frames,.inr ⟨rfl,rfl⟩,fun b z=>absurd z (noA b),e0.bs,e0.bsz,fun b _ _=>noA b,fun b z=>absurd z (noA b),e0.funs,e0.frf⟩,
  rfl,e0.bare,Un.kept hk,⟨_,x.toInCall.ns,fun i y v h1 h2 h3=>?_⟩,fun y c h=>⟨_,x.cell y c h⟩,e0.hok.fresh (Nat.le_refl _),fun y c h=>?_,fun p hp=>absurd (show p∈([]:List (Addr×Obj)) from hp) (by simp),e0.hok.kept hk,?_,ht⟩
 ·exact name_of_addr x.apart (PySem.mem_of_lookup h1) (PySem.mem_of_lookup h2)
 ·have hy:scope.names.lookup y=some .cell\/scope.names.lookup y=some .free:=hy
  rcases hy with hy | hy
  ·exact zG6 hy
  ·exact absurd rfl (S.nofree _ (PySem.mem_of_lookup hy))
 ·exact Nat.le_of_lt (x.above y c (PySem.mem_of_lookup h))
 ·have hi:i < vs.length:=by
   unfold Ja at h2
   by_cases hi:i < vs.length
   ·exact hi
   ·rw[List.getElem?_append_right (by simpa using hi)] at h2
    rw[List.getElem?_replicate] at h2
    split at h2<;>cases h2
  have ha:vs[i]? = some v:=by
   unfold Ja at h2
   rw[List.getElem?_append_left (by simpa using hi),List.getElem?_map] at h2
   cases e:vs[i]? with
   | none=>rw[e] at h2;cases h2
   | some a=>rw[e] at h2;cases h2;rfl
  obtain⟨u,hu,rv⟩:=r.get ha
  have hp:ps[i]? = some y:=by
   rw[<- S.pre,List.getElem?_take_of_lt (by omega)];exact h1
  have ndP:ps.Nodup:=by rw[<- S.pre];exact S.nd.sublist (List.take_sublist _ _)
  refine⟨u,rv,?_⟩
  rcases S.par y (List.mem_of_getElem? hp) with k | k
  ·exact .inl ⟨k,zGJ ndP hp hu k⟩
  ·obtain⟨c,e⟩:=zG6 (n:=s.heap.objs.size+1) k
   refine .inr ⟨.inl k,c,e,?_⟩
   have q:=x.cell y c e
   rw[zGN ndP hp hu (by show scope.names.lookup y≠_;rw[k];decide)] at q
   exact q
 ·exact e0.hok.fresh (Nat.le_of_lt (x.above y c (PySem.mem_of_lookup h)))
 ·unfold Ja
  show _=N.length
  rw[List.length_append,List.length_map,List.length_replicate]
  omega
theorem zRo {CX:CXT}{P:Program}{w:World}{K:PySem.W.Frag}{mg:Str->Option Value}{base:Heap}{k:Nat}{f:Addr}{name qual:Str}{params:Arguments}{body:List Stmt}{scope:Scope}{dV kV doc pm cdv ct oc:Value}{an od:Option Addr}
  {osl:Array (Option Value)}{N ps:List Str}{sp:Sp} (lk:K.lookup f=some ⟨oc,od,.func (PySem.W.fnOf name qual params body scope dV kV doc pm an cdv ct),osl⟩) (hcd:PySem.W.codeIn K cdv qual=true) (S:zy N ps scope)
  (len:∀ vs H Q E,sp vs H Q E->vs.length=ps.length)
  (hbody:∀ (A:Around) (outer:List Env) (s:Shared) (H:Hp) (vs:List V) (Q:VK) (E:XK),jL k (A.deeper (envOfC qual scope s.heap.objs.size f cdv))->sp vs H Q E ->
   ∃ t,PSs (zBB CX P w K mg base N qual scope f cdv A outer s H E) body t/\t { nx:=fun _ H'=>Q .non H',rt:=Q } (Ja N vs) H) :
  jU P w K mg base CX (k+1) f (PySem.W.fnOf name qual params body scope dV kV doc pm an cdv ct) ps sp:=by
 refine⟨len,fun A outer s H args us vs Q E hr e0 htk hb r hsp=>?_⟩
 have hl:=len _ _ _ _ hsp
 have KX:K.In s.heap:=e0.mod.kin.keeps fun b o e=>(e0.bs b o e).1
 have lim:s.heap.NoLimit:=e0.mod.nolimit.keeps fun b o e=>(e0.bs b o e).1
 have hkind:∀ y∈ps.zip us,scope.names.lookup y.1=some .local\/(scope.names.lookup y.1=some .cell/\((cellsFrom (s.heap.objs.size+1) scope.names []).lookup y.1).isSome=true):=fun ⟨n,v⟩ hy=>by
  rcases S.par n (List.of_mem_zip hy).1 with q | q
  ·exact .inl q
  ·exact .inr ⟨q,PySem.W.cellsFrom_some _ _ _ (.inl q)⟩
 refine codeAny_call_function hr.depth (KX _ _ lk) rfl S.co S.gen rfl (PySem.W.codeRec_of KX hcd) (hb _ _ _ _ ?_)
 refine zPI S.kind hkind fun env he s1 x htk1=>?_
 subst he
 refine⟨lim.keeps x.toInCall.keep,codeAny_func ?_⟩
 obtain⟨t,ht,hq⟩:=hbody A outer s H vs Q E (hr.deeper _) hsp
 have I:Inv (zBB CX P w K mg base N qual scope f cdv A outer s H E) [] (Ja N vs) H s1:=zKj S hr.hd e0 hl r x (htk1 (htk.imp id fun ⟨p,hp,hpl⟩=>by
  obtain⟨i,hi,e⟩:=List.mem_iff_getElem.mp hp
  have hu:i < us.length:=by rw[<- r.length,hl];exact hi
  exact⟨(p,us[i]),List.mem_iff_getElem.mpr ⟨i,by rw[List.length_zip];omega,by rw[List.getElem_zip,e]⟩,hpl⟩))
 refine wpAny_mono (ht [] s1 (Ja N vs) H _ I hq) (fun fl s' hs=>?_) fun e s' hs=>hs
 have fin:∀ {σ':St}{H':Hp}{v:V}{u:Value},Inv (zBB CX P w K mg base N qual scope f cdv A outer s H E) [] σ' H' s'->zg v u->Q v H'->CE outer P w H s Q u s' :=
  fun {σ' H' v u} J rv q=>⟨v,H',J.os,J.bare,J.base,J.hok,rv,q⟩
 cases fl with
 | ret u =>
  obtain⟨v,σ',H',J,rv,q⟩:=hs
  exact fin J rv q
 | next =>
  obtain⟨σ',H',J,q⟩:=hs
  exact fin (v:=V.non) (u:=Value.none) J rfl q
 | brk =>
  obtain⟨_,_,_,q⟩:=hs
  exact False.elim q
 | cont =>
  obtain⟨_,_,_,q⟩:=hs
  exact False.elim q
end L2
namespace L2
open PySem PySem.Spec PyProof.Rows
section
variable {X:Cx}{x:Str}{p pos:Pos}{e:Expr}{es:List Expr}{t:TA}{id T:String}{r:List V->Hp->VK->Prop}
noncomputable def tCB (r:List V->Hp->VK->Prop) (t:TA):TE:=fun σ H Q=>t σ H fun vs H1=>r vs H1 Q
theorem zH7 (hc:j9 X (.builtin id) r) (hg:Gl X x) (hm:X.mg x=none) (hv:bootBuiltins x=some (.builtin id)) (ha:PA X (e::es) t) (hn:x ≠ "__name__" := by decide) (hdb:(x == ("__debug__" : Str))=false:=by decide)
  (he:starEach (e::es) X.env=(false,eval e X.env)::starEach es X.env:=by rfl) (hpl:(backTo pos (starEach es X.env)).any (·.1)=false:=by rfl):PE X (.Call (.Name x p) (e::es) [] pos) (tCB r t):=by
 intro pins s σ H Q I h
 refine wpAny_Call_Name_kw (zCA I hg hm hv ?_ hn hdb)
 exact PyProof.Rows.callWith_builtin1 (thn (ha pos pins s σ H _ I h) fun us s1 ⟨vs,H1,I1,r1,q1⟩=>hc pins s1 σ H1 vs us Q I1 r1 q1) he hpl
theorem zL4 (hc:j9 X (.type T) r) (hg:Gl X x) (hm:X.mg x=none) (hv:bootBuiltins x=some (.type T)) (ha:PA X (e::es) t) (hn:x ≠ "__name__" := by decide) (hdb:(x == ("__debug__" : Str))=false:=by decide)
  (he:starEach (e::es) X.env=(false,eval e X.env)::starEach es X.env:=by rfl) (hpl:(backTo pos (starEach es X.env)).any (·.1)=false:=by rfl):PE X (.Call (.Name x p) (e::es) [] pos) (tCB r t):=by
 intro pins s σ H Q I h
 refine wpAny_Call_Name_kw (zCA I hg hm hv ?_ hn hdb)
 exact PyProof.Rows.callWith_type1 (thn (ha pos pins s σ H _ I h) fun us s1 ⟨vs,H1,I1,r1,q1⟩=>hc pins s1 σ H1 vs us Q I1 r1 q1) he hpl
end
end L2
namespace HT
open PySem PyProof.Rows
section
variable {prog:Program}{w:World}{A:Around}{E:Value->Shared->Prop}{s:Shared}
theorem zOy {t b:Addr}{vs ws:List Value}{Q:Value->Shared->Prop} (ht:IsTup s.heap t vs.toArray) (hb:IsTup s.heap b ws.toArray) (hv:vs≠[])
  (h1:ws=[]->Q (.ref t) s) (h2:ws≠[]->Q (.ref s.heap.objs.size) { s with heap:=s.heap.push { cls:=.type "tuple",data:=.seq (vs++ws).toArray } })
  (hsz:vs.length+ws.length <= sizeLine):wpAny (model prog w) A (binaryOp .Add (.ref t) (.ref b)) Q E s:=by
 obtain⟨⟨cls,dd,data,sl⟩,ho,hc,n,hd⟩:=id ht
 obtain⟨⟨cls2,dd2,data2,sl2⟩,ho2,hc2,n2,hd2⟩:=id hb
 simp only at hc hd hc2 hd2
 subst hc hd hc2 hd2
 have e:vs.toArray++ws.toArray=(vs++ws).toArray:=by simp
 by_cases hw:ws=[]
 ·exact concat_meets ⟨_,ho,rfl⟩ ⟨_,ho2,rfl⟩ noFill_tuple_add seq_tuple_add PySem.F.slot_tuple_add PySem.F.entry_tuple_add (PySem.F.args_tuple_add_2 _ _)
   (tuple_addW1 t b vs.toArray ws.toArray n n2 dd dd2 sl sl2 (by simpa using hv) (by simp[hw])) ⟨ho,ho2,h1 hw⟩
 ·refine concat_meets ⟨_,ho,rfl⟩ ⟨_,ho2,rfl⟩ noFill_tuple_add seq_tuple_add PySem.F.slot_tuple_add PySem.F.entry_tuple_add (PySem.F.args_tuple_add_2 _ _)
   (tuple_addW2 t b vs.toArray ws.toArray n n2 dd dd2 sl sl2 (by simpa using hv) (by simpa using hw) (by rw[List.size_toArray,List.size_toArray];exact hsz)) ⟨ho,ho2,?_⟩
  rw[e]
  exact h2 hw
noncomputable def sIx (n d:Nat):Option Int->Nat
 | none=>d
 | some v=>if v < 0 then (v+(n:Int)).toNat else min v.toNat n
theorem zHP (n d:Nat) (hd:d <= n) (o:Option Int):sIx n d o <= n:=by
 cases o with
 | none=>exact hd
 | some v =>
  show (if v < 0 then (v+(n:Int)).toNat else min v.toNat n) <= n
  by_cases hv:v < 0
  ·rw[if_pos hv];omega
  ·rw[if_neg hv];exact Nat.min_le_right _ _
theorem zF1 (v:Int) (n d:Nat):(if v < 0 then max (v+(n:Int)) 0 else min v (n:Int))=((sIx n d (some v):Nat):Int):=by
 show (if v < 0 then max (v+(n:Int)) 0 else min v (n:Int))=(((if v < 0 then (v+(n:Int)).toNat else min v.toNat n):Nat):Int)
 by_cases hv:v < 0
 ·simp only[if_pos hv];omega
 ·simp only[if_neg hv];omega
theorem zJa (lo hi:Option Int) (n:Nat):Builtin.Slice.sliceAdjust lo hi 1 (n:Int)=(((sIx n 0 lo:Nat):Int),((sIx n n hi:Nat):Int)):=by
 have h1:¬ ((1:Int) < 0):=by omega
 unfold Builtin.Slice.sliceAdjust
 simp only[h1,if_false]
 refine Prod.ext ?_ ?_
 ·cases lo with
  | none=>rfl
  | some v=>exact zF1 v n 0
 ·cases hi with
  | none=>rfl
  | some v=>exact zF1 v n n
theorem zKQ (i j:Nat):Builtin.Slice.slicePlaces (i:Int) (j:Int) 1=j - i:=by
 unfold Builtin.Slice.slicePlaces
 have h1:(1:Int) > 0:=by omega
 simp only[h1,if_true,Int.ediv_one]
 split<;>omega
theorem zFE {v:Value}{o:Option Int}{Q:Option Int->Shared->Prop} (p:IsPart v o) (h:Q o s):wpAny (model prog w) A (Builtin.Slice.slicePartIndex v) Q E s:=by
 cases p with
 | none=>exact slicePart_none h
 | int i t=>exact slicePart_int h
theorem zEE {sl:Addr}{vl vu:Value}{lo hi:Option Int}{n:Nat}{Q:Int×Int×Nat->Shared->Prop} (hs:s.heap.IsSliceOf sl vl vu .none) (pl:IsPart vl lo) (pu:IsPart vu hi)
  (h:Q (((sIx n 0 lo:Nat):Int),1,sIx n n hi - sIx n 0 lo) s):wpAny (model prog w) A (Builtin.Slice.sliceApplied (.ref sl) (pure (n:Int))) Q E s:=by
 obtain⟨os,hos,hcs,hds⟩:=id hs
 unfold Builtin.Slice.sliceApplied Builtin.Slice.sliceFields
 refine wpAny_bind (wpAny_bind (wpAny_field hos hds (x:=vl) rfl (wpAny_bind (wpAny_field hos hds (x:=vu) rfl (wpAny_bind (wpAny_field hos hds (x:=.none) rfl (wpAny_pure ?_)))))))
 refine wpAny_bind (slicePart_none ?_)
 show wpAny _ _ (if ((1:Int) == 0)=true then _ else _) _ _ s
 rw[if_neg (by decide)]
 refine wpAny_bind (zFE pl (wpAny_bind (zFE pu (wpAny_bind (wpAny_pure ?_)))))
 show wpAny _ _ (match Builtin.Slice.sliceAdjust lo hi 1 (n:Int) with | (lo,hi)=>pure (lo,(1:Int),Builtin.Slice.slicePlaces lo hi 1)) _ _ s
 rw[zJa lo hi n]
 show wpAny _ _ (pure (((sIx n 0 lo:Nat):Int),(1:Int),Builtin.Slice.slicePlaces ((sIx n 0 lo:Nat):Int) ((sIx n n hi:Nat):Int) 1)) _ _ s
 rw[zKQ]
 exact wpAny_pure h
theorem zMp (xs:Array Value) (i k:Nat):((List.range k).filterMap fun (m:Nat)=>xs[((i:Int)+(m:Int) * 1).toNat]?).toArray=((xs.toList.drop i).take k).toArray:=by
 have e:(fun (m:Nat)=>xs[((i:Int)+(m:Int) * 1).toNat]?)=fun m=>xs[i+m]? := by
  funext m
  have:((i:Int)+(m:Int) * 1).toNat=i+m:=by omega
  rw[this]
 rw[e]
 have:=pick_run xs i k
 rw[List.filterMap_map] at this
 have e2:((fun x=>xs[x]?) ∘ fun x=>i+x)=fun m=>xs[i+m]? := rfl
 rw[e2] at this
 rw[this]
theorem zDw {t sl:Addr}{items:Array Value}{vl vu:Value}{lo hi:Option Int}{Q:Value->Shared->Prop} (ht:IsTup s.heap t items) (hs:s.heap.IsSliceOf sl vl vu .none) (pl:IsPart vl lo) (pu:IsPart vu hi)
  (hw:¬ (sIx items.size 0 lo=0/\sIx items.size items.size hi=items.size))
  (h:Q (.ref s.heap.objs.size) { s with heap:=s.heap.push { cls:=.type "tuple",data:=.seq ((items.toList.drop (sIx items.size 0 lo)).take (sIx items.size items.size hi - sIx items.size 0 lo)).toArray } })
  (hsz:items.size <= sizeLine):wpAny (model prog w) A (getItem (.ref t) (.ref sl)) Q E s:=by
 have htake:sizeOk (.seq ((items.toList.drop (sIx items.size 0 lo)).take (sIx items.size items.size hi - sIx items.size 0 lo)).toArray):=by
  show ((items.toList.drop (sIx items.size 0 lo)).take (sIx items.size items.size hi - sIx items.size 0 lo)).toArray.size <= sizeLine
  rw[List.size_toArray,List.length_take,List.length_drop,Array.length_toList]
  omega
 have hj:sIx items.size items.size hi <= items.size:=zHP _ _ (Nat.le_refl _) hi
 obtain⟨os,hos,hcs,hds⟩:=id hs
 have hTs:s.TypeIs (.ref sl) "slice" := ⟨os,hos,hcs⟩
 unfold getItem
 try with_reducible refine wpAny_holding ?_
 first | refine wpAny_bind (wpAny_pure ?_) | skip
 refine wpAny_bind (wpAny_sequenceKey ht.typeIs (by decide) ?_)
 refine wpAny_bind (wpAny_callSpecial?_slot (name:=Str.ofString "__getitem__") ht.typeIs PyProof.Rows.slot_tuple_getitem
  (wpAny_call_entry PyProof.Rows.slot_tuple_getitem ht.typeIs entry_tuple_getitem ?_ (args_tuple_getitem _ _)))
 show wpAny _ _ (Builtin.Tuple.tupleItemsOf (.ref t) >>= _) _ _ s
 refine wpAny_bind (tupleItemsOf_ ht ?_)
 refine wpAny_bind (wpAny_typeOf hTs ?_)
 rw[if_pos (by decide)]
 refine wpAny_bind (zEE hs pl pu ?_)
 have hno:¬ ((((sIx items.size 0 lo:Nat):Int) == 0 && (1:Int) == 1 && (sIx items.size items.size hi - sIx items.size 0 lo) == items.size)=true):=by
  intro q
  rw[Bool.and_eq_true,Bool.and_eq_true] at q
  have q1:((sIx items.size 0 lo:Nat):Int)=0:=eq_of_beq q.1.1
  have q2:sIx items.size items.size hi - sIx items.size 0 lo=items.size:=eq_of_beq q.2
  exact hw ⟨by omega,by omega⟩
 show wpAny _ _ (if (((sIx items.size 0 lo:Nat):Int) == 0 && (1:Int) == 1 && (sIx items.size items.size hi - sIx items.size 0 lo) == items.size)=true then _ else _) _ _ s
 rw[if_neg hno,zMp]
 first
  | exact wpAny_bind (m:=Builtin.Tuple.tupleExact _) (wpAny_newObj_type (wpAny_pure ⟨_,rfl,wpAny_pure h⟩) htake)
  | exact wpAny_bind (m:=Builtin.Tuple.tupleExact _) (wpAny_newObj_type (wpAny_bind (wpAny_pure (wpAny_pure ⟨_,rfl,wpAny_pure h⟩))) htake)
  | exact wpAny_bind (wpAny_bind (m:=Builtin.Tuple.tupleExact _) (wpAny_newObj_type (wpAny_pure (wpAny_pure ⟨_,rfl,wpAny_pure h⟩)) htake))
  | exact wpAny_bind (wpAny_bind (m:=Builtin.Tuple.tupleExact _) (wpAny_newObj_type (wpAny_pure ⟨_,rfl,wpAny_pure h⟩) htake))
end
end HT
namespace L2
open PySem PySem.Spec PyProof.Rows
noncomputable abbrev TO:=St->Hp->(Option Int->Hp->Prop)->Prop
noncomputable def PO (X:Cx) (e:Option Expr) (t:TO):Prop :=
 ∀ (pins:List (Addr×Obj)) (s:Shared) (σ:St) (H:Hp) (Q:Option Int->Hp->Prop),Inv X pins σ H s->t σ H Q ->
  wpAny (model X.prog X.w) X.A (evalPart e X.env) (fun u s'=>∃ o H',Inv X pins σ H' s'/\IsPart u o/\Q o H') X.xe s
noncomputable def zOf:TO:=fun _ H Q=>Q none H
noncomputable def zRe (t:TE):TO:=fun σ H Q=>t σ H fun x H1=>∃ i,x=.int i/\Q (some i) H1
section
variable {X:Cx}{e:Expr}{te:TE}{lo hi:Option Expr}{tl th:TO}{pos p2:Pos}
theorem zO0:PO X none zOf:=by
 intro pins s σ H Q I h
 rw[evalPart_none]
 exact wpAny_pure ⟨none,H,I,.none,h⟩
theorem zOi (h:PE X e te):PO X (some e) (zRe te):=by
 intro pins s σ H Q I hw
 rw[evalPart_some]
 refine thn (h pins s σ H _ I hw) fun u s1 ⟨x,H1,I1,r1,q1⟩=>?_
 obtain⟨i,rfl,q⟩:=q1
 obtain⟨t,rfl⟩:=r1
 exact⟨some i,H1,I1,.int i t,q⟩
noncomputable def SlR (X:Cx) (r:V->Option Int->Option Int->Hp->VK->Prop):Prop :=
 ∀ (pins:List (Addr×Obj)) (s:Shared) (σ:St) (H:Hp) (x:V) (v vl vu:Value) (lo hi:Option Int) (sl:Addr) (Q:VK),Inv X pins σ H s->zg x v->s.heap.IsSliceOf sl vl vu .none->IsPart vl lo->IsPart vu hi->r x lo hi H Q ->
  ∃ T id,typeLookup (.type T) "__getitem__" = pure (some (.builtin id))/\s.TypeIs v T/\wpAny (model X.prog X.w) X.A (getItem v (.ref sl)) (EP X pins σ Q) X.xe s
noncomputable def tSl (r:V->Option Int->Option Int->Hp->VK->Prop) (te:TE) (tl th:TO):TE:=fun σ H Q=>te σ H fun x H1=>tl σ H1 fun l H2=>th σ H2 fun u H3=>r x l u H3 Q
theorem zMg {r:V->Option Int->Option Int->Hp->VK->Prop} (hr:SlR X r) (he:PE X e te) (hl:PO X lo tl) (hu:PO X hi th):PE X (.Subscript e (.Slice lo hi none p2) pos) (tSl r te tl th):=by
 intro pins s σ H Q I h
 refine Subscript_ (thn (he pins s σ H _ I h) fun v s1 ⟨x,H1,I1,r1,q1⟩=>?_)
 refine wpAny_Slice (thn (hl pins s1 σ H1 _ I1 q1) fun vl s2 ⟨l,H2,I2,pl,q2⟩=>thn (hu pins s2 σ H2 _ I2 q2) fun vu s3 ⟨u,H3,I3,pu,q3⟩=>?_)
 rw[evalPart_none]
 refine wpAny_pure ?_
 have I4:Inv X pins σ H3 { s3 with heap:=s3.heap.push { cls:=.type "slice",data:=.fields #[vl,vu,.none] } }:=I3.kept (t':=s3.toks) fun b ob q=>Heap.get?_push_of_some _ q
 obtain⟨T,id,hT,ht,hg⟩:=hr pins { s3 with heap:=s3.heap.push { cls:=.type "slice",data:=.fields #[vl,vu,.none] } } σ H3 x v vl vu l u s3.heap.objs.size Q I4 r1 (Heap.IsSliceOf.new ..) pl pu q3
 show wpAny (model X.prog X.w) X.A (subscriptTail e (.Slice lo hi none p2) v (.ref s3.heap.objs.size)) (EP X pins σ Q) X.xe { s3 with heap:=s3.heap.push { cls:=.type "slice",data:=.fields #[vl,vu,.none] } }
 exact tail_any (ops:=[.ref s3.heap.objs.size,v]) ht hT hg (by with_unfolding_all rfl)
noncomputable def zBj (xs:List V) (lo hi:Option Int):List V:=(xs.drop (HT.sIx xs.length 0 lo)).take (HT.sIx xs.length xs.length hi - HT.sIx xs.length 0 lo)
theorem zDx (xs:List V) (lo hi:Option Int):(zBj xs lo hi).length <= xs.length:=by
 unfold zBj
 rw[List.length_take,List.length_drop]
 omega
noncomputable def zSK (K:PySem.W.Frag):V->Option Int->Option Int->Hp->VK->Prop:=fun x lo hi H Q=>∃ a xs,x=.ref a/\SqT K H a xs /\
 ¬ (HT.sIx xs.length 0 lo=0/\HT.sIx xs.length xs.length hi=xs.length)/\∀ p,H p=none->Q (.ref p) (upd H p (.tup (zBj xs lo hi)))
theorem zQv:SlR X (zSK X.K):=by
 intro pins s σ H x v vl vu lo hi sl Q I rx hs pl pu h
 obtain⟨a,xs,rfl,hx,hw,q⟩:=h
 cases rx
 obtain⟨its,r,ht,hz⟩:=I.tuple hx
 have hlen:its.toArray.size=xs.length:=by rw[List.size_toArray];exact r.length.symm
 refine⟨"tuple",_,PyProof.Rows.slot_tuple_getitem.lookup,ht.typeIs,?_⟩
 refine HT.zDw ht hs pl pu (by rw[hlen];exact hw) ?_ (by rw[hlen];exact hz)
 rw[hlen]
 refine⟨.ref s.heap.objs.size,_,I.laid (t':=s.toks) (o:=.tup (zBj xs lo hi)) (fun b ob q=>Heap.get?_push_of_some _ q) (Nat.le_refl _) ?_,rfl,q _ (I.hok.fresh (Nat.le_refl _))⟩
 exact⟨Nat.le_trans (zDx xs lo hi) hz,_,(r.drop (HT.sIx xs.length 0 lo)).take (HT.sIx xs.length xs.length hi - HT.sIx xs.length 0 lo),IsTup.new _ _⟩
noncomputable def zN1 (K:PySem.W.Frag):R2:=fun x y H Q=>∃ a b xs ys,x=.ref a/\y=.ref b/\SqT K H a xs/\SqT K H b ys/\xs≠[]/\xs.length+ys.length <= sizeLine /\
 (ys=[]->Q (.ref a) H)/\(ys≠[]->∀ p,H p=none->Q (.ref p) (upd H p (.tup (xs++ys))))
theorem zU.nil_iff {xs:List V}{us:List Value} (r:zU xs us):us=[]↔xs=[]:=by
 cases r with
 | nil=>simp
 | cons _ _=>simp
theorem jz:OpR X (binaryOp .Add) (zN1 X.K):=by
 intro pins s σ H x y v u Q I rx ry h
 obtain⟨a,b,xs,ys,rfl,rfl,ha,hb,hx,hz,q1,q2⟩:=h
 cases rx
 cases ry
 obtain⟨its,r1,p1,_⟩:=I.tuple ha
 obtain⟨its2,r2,p2,_⟩:=I.tuple hb
 refine HT.zOy p1 p2 (fun z=>hx (r1.nil_iff.mp z)) (fun z=>⟨.ref a,H,I,rfl,q1 (r2.nil_iff.mp z)⟩) (fun z=>?_) (by rw[<- r1.length,<- r2.length];exact hz)
 refine⟨.ref s.heap.objs.size,_,I.laid (t':=s.toks) (o:=.tup (xs++ys)) (fun b ob q=>Heap.get?_push_of_some _ q) (Nat.le_refl _) ?_,rfl,q2 (fun w=>z (r2.nil_iff.mpr w)) _ (I.hok.fresh (Nat.le_refl _))⟩
 exact⟨by rw[List.length_append];exact hz,_,r1.append r2,IsTup.new _ _⟩
end
end L2
namespace L2
open PySem PySem.Spec PyProof.Rows
noncomputable def ixN (n:Nat) (i:Int):Option Nat:=if 0 <= i then (if i < n then some i.toNat else none) else if -(n:Int) <= i then some (i+n).toNat else none
noncomputable def atI {α:Type} (xs:List α) (i:Int):Option α:=(ixN xs.length i).bind fun j=>xs[j]?
theorem zI5 {n:Nat}{i:Int}{j:Nat} (h:ixN n i=some j):seqIndex? i n=some j/\j < n /\ -(n:Int) <= i/\i < n:=by
 unfold ixN at h
 by_cases h0:0 <= i
 ·rw[if_pos h0] at h
  by_cases h1:i < n
  ·rw[if_pos h1] at h
   have e:i.toNat=j:=Option.some.inj h
   exact⟨by rw[seqIndex_of h0 h1,e],by omega,by omega,h1⟩
  ·rw[if_neg h1] at h;cases h
 ·rw[if_neg h0] at h
  by_cases h1:-(n:Int) <= i
  ·rw[if_pos h1] at h
   have e:(i+n).toNat=j:=Option.some.inj h
   exact⟨by rw[seqIndex_neg (by omega) h1,e],by omega,h1,by omega⟩
  ·rw[if_neg h1] at h;cases h
theorem zF6 {α:Type}{xs:List α}{i:Int}{v:α} (h:atI xs i=some v):∃ j,seqIndex? i xs.length=some j/\xs[j]? = some v/\j < xs.length /\ -(xs.length:Int) <= i/\i < xs.length:=by
 unfold atI at h
 cases e:ixN xs.length i with
 | none=>rw[e] at h;cases h
 | some j =>
  rw[e] at h
  obtain⟨h1,h2,h3,h4⟩:=zI5 e
  exact⟨j,h1,h,h2,h3,h4⟩
noncomputable def zI8 (b:Expr):Prop:=∀ o i,subscripted b false o i=operate [o,i] (getItem o i)
noncomputable def IxR (X:Cx) (r:R2):Prop :=
 ∀ (value slice:Expr) (pins:List (Addr×Obj)) (s:Shared) (σ:St) (H:Hp) (x y:V) (v u:Value) (Q:VK),Inv X pins σ H s->zg x v->zg y u->r x y H Q ->
  subscripted slice false v u=operate [v,u] (getItem v u)->wpAny (model X.prog X.w) X.A (subscriptTail value slice v u) (EP X pins σ Q) X.xe s
noncomputable def MtR (X:Cx) (id:String) (r:V->List V->Hp->VK->Prop):Prop :=
 ∀ (pins:List (Addr×Obj)) (s:Shared) (σ:St) (H:Hp) (x:V) (xs:List V) (v:Value) (us:List Value) (Q:VK),Inv X pins σ H s->zg x v->zU xs us->r x xs H Q ->
  wpAny (model X.prog X.w) X.A (call (.builtin id) (v::us)) (EP X pins σ Q) X.xe s
section
variable {X:Cx}{a b:Expr}{ta tb:TE}{pos:Pos}
theorem IxR.or {r r':R2} (h:IxR X r) (h':IxR X r'):IxR X (fun x y H Q=>r x y H Q\/r' x y H Q):=by
 intro value slice pins s σ H x y v u Q I rx ry q hs
 rcases q with q | q
 ·exact h value slice pins s σ H x y v u Q I rx ry q hs
 ·exact h' value slice pins s σ H x y v u Q I rx ry q hs
theorem zRx {r:R2} (hr:IxR X r) (ha:PE X a ta) (hb:PE X b tb) (hs:zI8 b):PE X (.Subscript a b pos) (tOp r ta tb):=by
 intro pins s σ H Q I h
 exact Subscript_ (zNa ha hb I h fun v u s2 x y H2 I2 rx ry q=>hr a b pins s2 σ H2 x y v u Q I2 rx ry q (hs _ _))
noncomputable def zSl (K:PySem.W.Frag):R2:=fun x y H Q=>∃ p xs i v,x=.ref p/\y=.int i/\SqL K H p xs/\atI xs i=some v/\Q v H
noncomputable def zSj (K:PySem.W.Frag):R2:=fun x y H Q=>∃ p xs i v,x=.ref p/\y=.int i/\SqT K H p xs/\atI xs i=some v/\Q v H
noncomputable def zSZ:R2:=fun x y H Q=>∃ z i c,x=.str z/\y=.int i/\z.length <= sizeLine/\atI z.cps.toList i=some c/\Q (.str ⟨#[c]⟩) H
theorem zN7:IxR X (zSl X.K):=by
 intro value slice pins s σ H x y v u Q I rx ry h hs
 obtain⟨p,xs,i,z,rfl,rfl,hq,he,q⟩:=h
 cases rx
 obtain⟨t,rfl⟩:=ry
 obtain⟨its,r,pl,hz⟩:=I.list hq
 obtain⟨j,h1,h2,h3,h4,h5⟩:=zF6 he
 obtain⟨w,ew,rw'⟩:=r.get h2
 have hl:=r.length
 have hn:=zA7
 have fin:EP X pins σ Q w s:=⟨z,H,I,rw',q⟩
 by_cases h0:0 <= i
 ·have hj:i.toNat=j:=by
   rw[seqIndex_of h0 h5] at h1
   exact Option.some.inj h1
  exact item_listR pl.isList h0 (by omega) (by rw[hj];simpa using ew) fin hs
 ·have hj:(i+(its.toArray.size:Int)).toNat=j:=by
   rw[seqIndex_neg (by omega) h4] at h1
   rw[List.size_toArray,<- hl]
   exact Option.some.inj h1
  exact subscriptTail_builtinR (x:=w) pl.isList.typeIs slot_list_getitem.lookup
   (wpAny_getItem_list_neg (Q:=fun r s'=>r=w/\EP X pins σ Q r s') pl.isList (by omega) (by rw[List.size_toArray]<;>omega) (by omega) (by rw[hj];simpa using ew) ⟨rfl,fin⟩) hs
theorem zPz:IxR X (zSj X.K):=by
 intro value slice pins s σ H x y v u Q I rx ry h hs
 obtain⟨p,xs,i,z,rfl,rfl,hq,he,q⟩:=h
 cases rx
 obtain⟨t,rfl⟩:=ry
 obtain⟨its,r,pl,hz⟩:=I.tuple hq
 obtain⟨j,h1,h2,h3,h4,h5⟩:=zF6 he
 obtain⟨w,ew,rw'⟩:=r.get h2
 have hl:=r.length
 have hn:=zA7
 have fin:EP X pins σ Q w s:=⟨z,H,I,rw',q⟩
 exact subscriptTail_builtinR (x:=w) pl.typeIs slot_tuple_getitem.lookup
  (getItem_tuple (j:=j) (Q:=fun r s'=>r=w/\EP X pins σ Q r s') pl (by omega) (by omega) (by rw[List.size_toArray,<- hl];exact h1) (by simpa using ew) ⟨rfl,fin⟩) hs
theorem zQ0:IxR X zSZ:=by
 intro value slice pins s σ H x y v u Q I rx ry h hs
 obtain⟨z,i,c,rfl,rfl,hz,he,q⟩:=h
 obtain⟨t,rfl⟩:=rx
 obtain⟨t',rfl⟩:=ry
 obtain⟨j,h1,h2,h3,h4,h5⟩:=zF6 he
 have hl:z.cps.toList.length=z.length:=by simp[Str.length]
 rw[hl] at h1 h4 h5
 have hn:=zA7
 exact tail_any (typeIs_str s z t) slot_str_getitem.lookup (getItem_str (c:=c) (by
  have e1:decide (i < -(2 ^ 63:Int))=false:=decide_eq_false (by omega)
  have e2:decide (i ≥ 2 ^ 63)=false:=decide_eq_false (by omega)
  rw[e1,e2,Bool.or_false]) (by rw[h1];simpa using h2) ⟨.str ⟨#[c]⟩,H,I.tok _,⟨_,rfl⟩,q⟩) hs
theorem zKX (its:List Value) (n j:Nat) (u:Value):Obj.mapSeq (·.setIfInBounds j u) { cls:=.type "list",data:=.seq its.toArray n }={ cls:=.type "list",data:=.seq (its.set j u).toArray n }:=by
 simp[Obj.mapSeq]
theorem Inv.lst {pins:List (Addr×Obj)}{σ:St}{H:Hp}{s:Shared}{p:Addr}{xs:List V} (I:Inv X pins σ H s) (h:H p=some (.lst xs)) :
  ∃ (its:List Value) (n:Nat),zU xs its/\s.heap.get? p=some { cls:=.type "list",data:=.seq its.toArray n }/\xs.length <= sizeLine:=by
 obtain⟨z,its,n,r,e⟩:=I.hok p _ h
 exact⟨its,n,r,e,z⟩
theorem Inv.lstUpd {pins:List (Addr×Obj)}{σ:St}{H:Hp}{s:Shared}{p:Addr}{xs ys:List V}{its its':List Value}{n n':Nat}{f:Obj->Obj} (I:Inv X pins σ H s) (h:H p=some (.lst xs))
  (ho:s.heap.get? p=some { cls:=.type "list",data:=.seq its.toArray n }) (hf:f { cls:=.type "list",data:=.seq its.toArray n }={ cls:=.type "list",data:=.seq its'.toArray n' }) (r:zU ys its') (hz:ys.length <= sizeLine) (t:Nat) (ht:0 < t:=by first | exact Nat.succ_pos _ | assumption | exact Inv.tk (by assumption) | omega) :
  Inv X pins σ (upd H p (.lst ys)) { s with heap:=s.heap.update p f,toks:=t }:=by
 have e:(s.heap.update p f).get? p=some { cls:=.type "list",data:=.seq its'.toArray n' }:=by
  rw[Heap.get?_update_self f ho (by rw[hf]<;>rfl),hf]
 refine I.write (x:=p) (e:=p) (by rw[h];trivial) (.inl rfl) (fun b u hb q=>(Heap.get?_update_other _ _ (Ne.symm hb)).trans q) ⟨_,e⟩ ?_
 exact⟨hz,its',n',r,e⟩
noncomputable def zSE:V->V->V->Hp->(Hp->Prop)->Prop:=fun o i v H Q=>∃ p xs k j,o=.ref p/\i=.int k/\H p=some (.lst xs)/\ixN xs.length k=some j/\Q (upd H p (.lst (xs.set j v)))
theorem zMx:zPP X zSE:=by
 intro pins s σ H o i v ov iv u Q I ro ri rv h
 obtain⟨p,xs,k,j,rfl,rfl,hp,hj,q⟩:=h
 cases ro
 obtain⟨t,rfl⟩:=ri
 obtain⟨its,n,r,ho,hz⟩:=I.lst hp
 obtain⟨h1,h2,h3,h4⟩:=zI5 hj
 have hl:=r.length
 have hn:=zA7
 have I':Inv X pins σ (upd H p (.lst (xs.set j v))) { s with heap:=s.heap.update p (Obj.mapSeq (·.setIfInBounds j u)) } :=
  I.lstUpd hp ho (zKX its n j u) (r.set rv j) (by rw[List.length_set];exact hz) s.toks
 by_cases h0:0 <= k
 ·have hk:k.toNat=j:=by
   rw[seqIndex_of h0 h4] at h1
   exact Option.some.inj h1
  exact PySem.W.ki_setAt ho h0 (by omega) (by rw[List.size_toArray,<- hl];exact h4) (by rw[hk];exact⟨_,I',q⟩)
 ·have hk:(k+(its.toArray.size:Int)).toNat=j:=by
   rw[seqIndex_neg (by omega) h3] at h1
   rw[List.size_toArray,<- hl]
   exact Option.some.inj h1
  exact PySem.W.ki_setBack ho (by omega) (by rw[List.size_toArray,<- hl];exact h3) (by omega) (by rw[hk];exact⟨_,I',q⟩)
theorem zHl (lo hi:Option Int) (n:Nat):(sliceBounds lo hi none n).1=((HT.sIx n 0 lo:Nat):Int)/\(sliceBounds lo hi none n).2.1=((HT.sIx n n hi:Nat):Int)/\(sliceBounds lo hi none n).2.2=1:=by
 refine⟨?_,?_,rfl⟩
 ·cases lo with
  | none=>simp[sliceBounds,HT.sIx]
  | some i =>
   simp only[sliceBounds,HT.sIx,Option.getD_none,show (1:Int) > 0 by decide,if_true]
   by_cases h:i < 0
   ·simp only[h,if_true]<;>omega
   ·simp only[h,if_false]<;>omega
 ·cases hi with
  | none=>simp[sliceBounds,HT.sIx]
  | some i =>
   simp only[sliceBounds,HT.sIx,Option.getD_none,show (1:Int) > 0 by decide,if_true]
   by_cases h:i < 0
   ·simp only[h,if_true]<;>omega
   ·simp only[h,if_false]<;>omega
theorem zGt (its:List Value) (lo hi:Option Int):slicePick its.toArray lo hi none=((its.drop (HT.sIx its.length 0 lo)).take (HT.sIx its.length its.length hi - HT.sIx its.length 0 lo)).toArray:=by
 obtain⟨h1,h2,h3⟩:=zHl lo hi its.toArray.size
 unfold slicePick
 rw[h1,h2,h3]
 simp only[sliceRange_one,pick_run,List.size_toArray]<;>rfl
noncomputable def zSN (K:PySem.W.Frag):V->Option Int->Option Int->Hp->VK->Prop:=fun x lo hi H Q=>∃ a xs,x=.ref a/\SqL K H a xs/\∀ p,H p=none->Q (.ref p) (upd H p (.lst (zBj xs lo hi)))
theorem zO9:SlR X (zSN X.K):=by
 intro pins s σ H x v vl vu lo hi sl Q I rx hs pl pu h
 obtain⟨a,xs,rfl,hx,q⟩:=h
 cases rx
 obtain⟨its,r,ht,hz⟩:=I.list hx
 have hlen:=r.length
 refine⟨"list",_,slot_list_getitem.lookup,ht.isList.typeIs,?_⟩
 refine wpAny_getItem_list_slice ht.isList hs pl pu .none (by simp) ?_ (by rw[List.size_toArray]<;>omega)
 rw[zGt,<- hlen]
 refine⟨.ref s.heap.objs.size,_,I.laid (t':=s.toks) (o:=.lst (zBj xs lo hi)) (fun b ob q=>Heap.get?_push_of_some _ q) (Nat.le_refl _) ?_,rfl,q _ (I.hok.fresh (Nat.le_refl _))⟩
 exact⟨Nat.le_trans (zDx xs lo hi) hz,_,0,(r.drop (HT.sIx xs.length 0 lo)).take (HT.sIx xs.length xs.length hi - HT.sIx xs.length 0 lo),Heap.get?_push_size _ rfl⟩
noncomputable def y9:V->Bool
 | .non=>true
 | .bl _=>true
 | .int _=>true
 | .str _=>true
 | _=>false
noncomputable def eqV:V->V->Bool
 | .non,.non=>true
 | .bl a,.bl b=>a == b
 | .bl a,.int b=>(if a then 1 else 0) == b
 | .int a,.bl b=>a == (if b then 1 else 0)
 | .int a,.int b=>a == b
 | .str a,.str b=>a == b
 | _,_=>false
theorem zQO {A:Around}{s:Shared}{y x:V}{u v:Value} (ry:zg y u) (rx:zg x v) (fy:y9 y=true) (fx:y9 x=true):SeqAt.EqAt A s u v (eqV y x):=by
 cases y with
 | non =>
  cases ry
  cases x with
  | non=>cases rx;exact SeqAt.EqAt.same _
  | bl b=>cases rx;exact SeqAt.EqAt.none_bool b
  | int b=>obtain⟨t,rfl⟩:=rx;exact SeqAt.EqAt.none_int b t
  | str b=>obtain⟨t,rfl⟩:=rx;exact SeqAt.EqAt.none_str b t
  | _=>exact absurd (show false=true from fx) Bool.false_ne_true
 | bl a =>
  cases ry
  cases x with
  | non=>cases rx;exact SeqAt.EqAt.bool_none a
  | bl b=>cases rx;exact SeqAt.EqAt.bool_bool a b
  | int b=>obtain⟨t,rfl⟩:=rx;exact SeqAt.EqAt.bool_int a b t
  | str b=>obtain⟨t,rfl⟩:=rx;exact SeqAt.EqAt.bool_str a b t
  | _=>exact absurd (show false=true from fx) Bool.false_ne_true
 | int a =>
  obtain⟨t',rfl⟩:=ry
  cases x with
  | non=>cases rx;exact SeqAt.EqAt.int_none a t'
  | bl b=>cases rx;exact SeqAt.EqAt.int_bool a t' b
  | int b=>obtain⟨t,rfl⟩:=rx;exact SeqAt.EqAt.int_int a t' b t
  | str b=>obtain⟨t,rfl⟩:=rx;exact SeqAt.EqAt.int_str a t' b t
  | _=>exact absurd (show false=true from fx) Bool.false_ne_true
 | str a =>
  obtain⟨t',rfl⟩:=ry
  cases x with
  | non=>cases rx;exact SeqAt.EqAt.str_none a t'
  | bl b=>cases rx;exact SeqAt.EqAt.str_bool a t' b
  | int b=>obtain⟨t,rfl⟩:=rx;exact SeqAt.EqAt.str_int a t' b t
  | str b=>obtain⟨t,rfl⟩:=rx;exact SeqAt.EqAt.str_str a t' b t
  | _=>exact absurd (show false=true from fx) Bool.false_ne_true
 | _=>exact absurd (show false=true from fy) Bool.false_ne_true
noncomputable def eqU (x:V) (u:Value):Bool:=match u with
 | .none=>eqV .non x
 | .bool b=>eqV (.bl b) x
 | .int i _=>eqV (.int i) x
 | .str z _=>eqV (.str z) x
 | _=>false
theorem zLq {x y:V}{u:Value} (r:zg y u) (f:y9 y=true):eqU x u=eqV y x:=by
 cases y with
 | non=>cases r;rfl
 | bl b=>cases r;rfl
 | int i=>obtain⟨t,rfl⟩:=r;rfl
 | str z=>obtain⟨t,rfl⟩:=r;rfl
 | _=>exact absurd (show false=true from f) Bool.false_ne_true
theorem zBs {x:V}:∀ {xs:List V}{us:List Value},zU xs us->xs.all y9=true->us.any (eqU x)=xs.any fun y=>eqV y x
 | _,_,.nil,_=>rfl
 | y::xs,u::us,.cons r t,f=>by
  rw[List.all_cons,Bool.and_eq_true] at f
  rw[List.any_cons,List.any_cons,zLq r f.1,zBs t f.2]
theorem zAz {A:Around}{s:Shared}{x:V}{v:Value} (rx:zg x v) (fx:y9 x=true):∀ {xs:List V}{us:List Value},zU xs us->xs.all y9=true->∀ u∈us,SeqAt.EqAt A s u v (eqU x u)
 | _,_,.nil,_=>fun u hu=>by cases hu
 | y::xs,u::us,.cons r t,f=>fun u' hu=>by
  rw[List.all_cons,Bool.and_eq_true] at f
  rcases List.mem_cons.mp hu with rfl | hu
  ·rw[zLq r f.1];exact zQO r rx f.1 fx
  ·exact zAz rx fx t f.2 u' hu
noncomputable def inV (x:V) (xs:List V):Bool:=xs.any fun y=>eqV y x
noncomputable def rIn (K:PySem.W.Frag) (neg:Bool):R2:=fun x y H Q=>∃ p xs,y=.ref p/\(SqL K H p xs\/SqT K H p xs)/\y9 x=true/\xs.all y9=true/\Q (.bl (if neg then !inV x xs else inV x xs)) H
theorem zLE:OpR X (compareOp .In) (rIn X.K false):=by
 intro pins s σ H x y v u Q I rx ry h
 obtain⟨p,xs,rfl,hq,fx,fs,q⟩:=h
 cases ry
 rcases hq with hq | hq
 ·obtain⟨its,r,pl,hz⟩:=I.list hq
  refine SeqAt.in_listAt (eqU x) pl.isList (fun w hw=>zAz rx fx r fs w (by simpa using hw)) ⟨.bl _,H,I,rfl,?_⟩
  rw[show its.toArray.any (eqU x)=its.any (eqU x) by simp,zBs r fs]
  exact q
 ·obtain⟨its,r,pl,hz⟩:=I.tuple hq
  refine SeqAt.in_tupleAt (eqU x) pl (fun w hw=>zAz rx fx r fs w (by simpa using hw)) ⟨.bl _,H,I,rfl,?_⟩
  rw[show its.toArray.any (eqU x)=its.any (eqU x) by simp,zBs r fs]
  exact q
theorem zHK:OpR X (compareOp .NotIn) (rIn X.K true):=by
 intro pins s σ H x y v u Q I rx ry h
 obtain⟨p,xs,rfl,hq,fx,fs,q⟩:=h
 cases ry
 rcases hq with hq | hq
 ·obtain⟨its,r,pl,hz⟩:=I.list hq
  refine SeqAt.notIn_listAt (eqU x) pl.isList (fun w hw=>zAz rx fx r fs w (by simpa using hw)) ⟨.bl _,H,I,rfl,?_⟩
  rw[show its.toArray.any (eqU x)=its.any (eqU x) by simp,zBs r fs]
  exact q
 ·obtain⟨its,r,pl,hz⟩:=I.tuple hq
  refine SeqAt.notIn_tupleAt (eqU x) pl (fun w hw=>zAz rx fx r fs w (by simpa using hw)) ⟨.bl _,H,I,rfl,?_⟩
  rw[show its.toArray.any (eqU x)=its.any (eqU x) by simp,zBs r fs]
  exact q
theorem zHz:j9 X (.builtin "len") (fun xs H Q=>∃ p ys,xs=[.ref p]/\(SqL X.K H p ys\/SqT X.K H p ys)/\Q (.int ys.length) H):=by
 intro pins s σ H xs us Q I r h
 obtain⟨p,ys,rfl,hq,q⟩:=h
 obtain⟨u,rfl,rx⟩:=QV r
 cases rx
 have hn:=zA7
 rcases hq with hq | hq
 ·obtain⟨its,r',pl,hz⟩:=I.list hq
  have hlen:=r'.length
  exact Calls.call_len_list pl.isList (by simp only[List.size_toArray]<;>omega) ⟨.int ys.length,H,I.tok _,⟨s.toks+1,by rw[List.size_toArray,hlen]⟩,q⟩
 ·obtain⟨its,r',pl,hz⟩:=I.tuple hq
  have hlen:=r'.length
  exact len_tuple pl (by simp only[List.size_toArray]<;>omega) ⟨.int ys.length,H,I.tok _,⟨s.toks+1,by rw[List.size_toArray,hlen]⟩,q⟩
theorem zHJ:j9 X (.builtin "len") (fun xs H Q=>∃ z,xs=[.str z]/\z.length <= sizeLine/\Q (.int z.length) H):=by
 intro pins s σ H xs us Q I r h
 obtain⟨z,rfl,hz,q⟩:=h
 obtain⟨u,rfl,t,rfl⟩:=QV r
 have hn:=zA7
 exact len_str (by omega) ⟨.int z.length,H,I.tok _,⟨_,rfl⟩,q⟩
theorem j9.or {f:Value}{r r':List V->Hp->VK->Prop} (h:j9 X f r) (h':j9 X f r'):j9 X f (fun xs H Q=>r xs H Q\/r' xs H Q):=by
 intro pins s σ H xs us Q I rs q
 rcases q with q | q
 ·exact h pins s σ H xs us Q I rs q
 ·exact h' pins s σ H xs us Q I rs q
theorem zHZ:j9 X (.type "list") (fun xs H Q=>∃ p ys,xs=[.ref p]/\(SqL X.K H p ys\/SqT X.K H p ys)/\∀ l,H l=none->Q (.ref l) (upd H l (.lst ys))):=by
 intro pins s σ H xs us Q I r h
 obtain⟨p,ys,rfl,hq,q⟩:=h
 obtain⟨u,rfl,rx⟩:=QV r
 cases rx
 have fin:∀ (its:List Value),zU ys its->ys.length <= sizeLine->∀ (h':Heap) (c':Nat),(∀ b o',s.heap.get? b=some o'->h'.get? b=some o') ->
   h'.get? s.heap.objs.size=some { cls:=.type "list",dict:=none,data:=.seq its.toArray c',slots:=#[] }->EP X pins σ Q (.ref s.heap.objs.size) { s with heap:=h' }:=fun its r' hz h' c' kp e =>
  ⟨.ref s.heap.objs.size,_,I.laid (t':=s.toks) kp (Nat.le_refl _) (show qN X.prog X.w _ h' _ (.lst ys) from ⟨hz,its,c',r',e⟩),rfl,q _ (I.hok.fresh (Nat.le_refl _))⟩
 rcases hq with hq | hq
 ·obtain⟨its,r',pl,hz⟩:=I.list hq
  have hlen:=r'.length
  obtain⟨o,ho,hc,n,hd⟩:=pl.isList
  exact call_list_seq p (.inl rfl) ho hc hd (fun h' c' kp e=>fin its r' hz h' c' kp e) (by simp only[List.size_toArray]<;>omega)
 ·obtain⟨its,r',pl,hz⟩:=I.tuple hq
  have hlen:=r'.length
  obtain⟨o,ho,hc,n,hd⟩:=pl
  exact call_list_seq p (.inr rfl) ho hc hd (fun h' c' kp e=>fin its r' hz h' c' kp e) (by simp only[List.size_toArray]<;>omega)
theorem zGp:j9 X (.type "tuple") (fun xs H Q=>∃ p ys,xs=[.ref p]/\((SqL X.K H p ys/\∀ l,H l=none->Q (.ref l) (upd H l (.tup ys)))\/(SqT X.K H p ys/\Q (.ref p) H))):=by
 intro pins s σ H xs us Q I r h
 obtain⟨p,ys,rfl,h⟩:=h
 obtain⟨u,rfl,rx⟩:=QV r
 cases rx
 rcases h with ⟨hq,q⟩ | ⟨hq,q⟩
 ·obtain⟨its,r',pl,hz⟩:=I.list hq
  have hlen:=r'.length
  refine call_tuple_list pl.isList (fun h' kp=>?_) (by simp only[List.size_toArray]<;>omega)
  have I1:Inv X pins σ H { s with heap:=h' }:=I.kept (t':=s.toks) kp
  have I2:Inv X pins σ (upd H h'.objs.size (.tup ys)) { s with heap:=h'.push { cls:=.type "tuple",data:=.seq its.toArray } } :=
   I1.laid (t':=s.toks) (fun b o e=>Heap.get?_push_of_some _ e) (Nat.le_refl _) (show qN X.prog X.w _ _ _ (.tup ys) from ⟨hz,its,r',IsTup.new _ _⟩)
  exact⟨.ref h'.objs.size,_,I2,rfl,q _ (I1.hok.fresh (Nat.le_refl _))⟩
 ·obtain⟨its,r',pl,hz⟩:=I.tuple hq
  exact call_tuple_same pl ⟨.ref p,H,I,rfl,q⟩
noncomputable def tyV (K:PySem.W.Frag) (T:String) (x:V) (H:Hp):Prop:=match x with
 | .str _=>T = "str"
 | .int _=>T = "int"
 | .ref p=>(T = "list" /\ ∃ xs,SqL K H p xs)\/(T = "tuple" /\ ∃ o,K.lookup p=some o/\o.cls=.type "tuple" /\ o.dict=none) \/
   (T = "dict" /\ ((∃ kvs,H p=some (.dK kvs))\/∃ kvs,H p=some (.dT kvs)))\/(T = "set" /\ ∃ S n,H p=some (.set S n))
 | _=>False
theorem zFT {pins:List (Addr×Obj)}{σ:St}{H:Hp}{s:Shared}{T:String}{x:V}{v:Value} (I:Inv X pins σ H s) (r:zg x v) (ty:tyV X.K T x H) :
  s.TypeIs v T/\∀ a,v=.ref a->∃ ob,s.heap.get? a=some ob/\ob.dict=none:=by
 cases x with
 | str z =>
  obtain⟨t,rfl⟩:=r
  cases (show T = "str" from ty)
  exact⟨typeIs_str s z t,fun _ e=>nomatch e⟩
 | int i =>
  obtain⟨t,rfl⟩:=r
  cases (show T = "int" from ty)
  exact⟨typeIs_int s i t,fun _ e=>nomatch e⟩
 | ref p =>
  cases r
  rcases ty with ⟨rfl,xs,hq⟩ | ⟨rfl,o,hk,hc,hd⟩ | ⟨rfl,hk⟩ | ⟨rfl,S,n,hk⟩
  ·obtain⟨its,_,pl,_⟩:=I.list hq
   refine⟨pl.isList.typeIs,fun a e=>?_⟩
   cases e
   obtain⟨o,n,e,c,hd,_⟩:=pl
   exact⟨o,e,hd⟩
  ·refine⟨⟨o,I.kIn p o hk,hc⟩,fun a e=>?_⟩
   cases e
   exact⟨o,I.kIn _ o hk,hd⟩
  ·have z:∃ o,s.heap.get? p=some o/\o.ExactDict:=by
    rcases hk with ⟨kvs,hk⟩ | ⟨kvs,hk⟩
    ·obtain⟨_,_,_,_,o,_,_,e,ex,_⟩:=I.hok p _ hk
     exact⟨o,e,ex⟩
    ·obtain⟨_,_,_,_,o,_,_,e,ex,_⟩:=I.hok p _ hk
     exact⟨o,e,ex⟩
   obtain⟨o,e,ex⟩:=z
   refine⟨⟨o,e,ex.1⟩,fun a e2=>?_⟩
   cases e2
   exact⟨o,e,ex.2.1⟩
  ·obtain⟨o,_,_,_,e,ex,_⟩:=I.hok p _ hk
   refine⟨⟨o,e,ex.1⟩,fun a e2=>?_⟩
   cases e2
   exact⟨o,e,ex.2.1⟩
 | _=>exact False.elim ty
noncomputable def zSX (K:PySem.W.Frag) (T:String) (r:V->List V->Hp->VK->Prop) (to:TE):TE:=fun σ H Q=>to σ H fun x H1=>tyV K T x H1/\r x [] H1 Q
noncomputable def tBM (K:PySem.W.Frag) (T:String) (r:V->List V->Hp->VK->Prop) (to:TE) (t:TA):TE:=fun σ H Q=>to σ H fun x H1=>tyV K T x H1/\t σ H1 fun xs H2=>r x xs H2 Q
variable {o e:Expr}{es:List Expr}{to:TE}{t:TA}{name:Str}{apos cpos:Pos}{T id:String}{r:V->List V->Hp->VK->Prop}
theorem zPb (pa:PlainAttrs T) (slot:Slot T name id) (hty:typeOf (.builtin id)=pure (.type "method_descriptor")) (hm:MtR X id r) (ho:PE X o to)
  (hbase:attributeBase o name X.env (eval o X.env)=eval o X.env:=by rfl) (hline:(apos.endLine == cpos.line)=true:=by rfl):PE X (.Call (.Attribute o name apos) [] [] cpos) (zSX X.K T r to):=by
 intro pins s σ H Q I h
 refine wpAny_Call_method0_late hbase hline (thn (ho pins s σ H _ I h) fun v s1 ⟨x,H1,I1,r1,ty,q1⟩=>?_)
 obtain⟨h1,h2⟩:=zFT I1 r1 ty
 exact⟨T,id,pa,slot,hty,h1,h2,Calls.callWith_builtin rfl (PySem.evalArgs_none (hm pins s1 σ H1 x [] v [] Q I1 r1 .nil q1))⟩
theorem zSA (pa:PlainAttrs T) (slot:Slot T name id) (hty:typeOf (.builtin id)=pure (.type "method_descriptor")) (hm:MtR X id r) (ho:PE X o to) (ha:PA X (e::es) t)
  (hbase:attributeBase o name X.env (eval o X.env)=eval o X.env:=by rfl)
  (hfew:((backTo cpos (starEach (e::es) X.env)).all (fun x=>!x.1) && (backToKw cpos (keywordEach [] X.env)).all (fun x=>x.1.isSome)
   && decide ((e::es).length+([]:List Keyword).length+(if ([]:List Keyword).isEmpty then 0 else 1) < 30))=true:=by rfl)
  (hline:(apos.endLine == cpos.line)=true:=by rfl) (hs:starEach (e::es) X.env=(false,eval e X.env)::starEach es X.env:=by rfl) (hplain:(backTo cpos (starEach es X.env)).any (·.1)=false:=by rfl) :
  PE X (.Call (.Attribute o name apos) (e::es) [] cpos) (tBM X.K T r to t):=by
 intro pins s σ H Q I h
 refine wpAny_Call_method_late hbase hfew hline rfl (thn (ho pins s σ H _ I h) fun v s1 ⟨x,H1,I1,r1,ty,q1⟩=>?_)
 obtain⟨h1,h2⟩:=zFT I1 r1 ty
 refine⟨T,id,pa,slot,hty,h1,h2,?_⟩
 have hA:=ha cpos pins s1 σ H1 _ I1 q1
 rw[hs] at hA ⊢
 refine Calls.callWith_builtin (by show (false || (backTo cpos (starEach es X.env)).any (·.1))=false;rw[hplain]<;>rfl) (Calls.evalArgs_plain ?_)
 exact thn hA fun us s2 ⟨vs,H2,I2,r2,q2⟩=>hm pins s2 σ H2 x vs v us Q I2 r1 r2 q2
end
end L2
namespace L2
open PySem PySem.Spec PyProof.Rows
noncomputable def MtM (X:Cx) (id:String) (r:V->List V->Hp->VK->Prop):Prop :=
 ∀ (pins:List (Addr×Obj)) (s:Shared) (σ:St) (H:Hp) (x:V) (xs:List V) (v:Value) (us:List Value) (Q:VK),Inv X pins σ H s->zg x v->zU xs us->r x xs H Q ->
  wpAny (model X.prog X.w) X.A (call (.builtin id) (v::us)) (EP X pins σ Q) X.xe s
theorem zU.one:∀ {x:V}{us:List Value},zU [x] us->∃ u,us=[u]/\zg x u
 | _,_,.cons r .nil=>⟨_,rfl,r⟩
theorem zU.zero:∀ {us:List Value},zU [] us->us=[]
 | _,.nil=>rfl
theorem zU.dropLast {xs:List V}{us:List Value} (h:zU xs us):zU xs.dropLast us.dropLast:=by
 induction h with
 | nil=>exact .nil
 | cons r t ih =>
  cases t with
  | nil=>exact .nil
  | cons q t'=>exact .cons r ih
theorem zU.reverse {xs:List V}{us:List Value} (h:zU xs us):zU xs.reverse us.reverse:=by
 induction h with
 | nil=>exact .nil
 | cons r t ih=>rw[List.reverse_cons,List.reverse_cons];exact zU.append ih (.cons r .nil)
theorem zU.rep {xs:List V}{us:List Value} (h:zU xs us):∀ k:Nat,zU (List.replicate k xs).flatten (List.replicate k us).flatten
 | 0=>.nil
 | k+1=>by
  rw[List.replicate_succ,List.replicate_succ,List.flatten_cons,List.flatten_cons]
  exact zU.append h (zU.rep h k)
theorem zJc {α:Type} (l:List α):l.eraseIdx (l.length - 1)=l.dropLast:=by
 induction l with
 | nil=>rfl
 | cons a r ih =>
  cases r with
  | nil=>rfl
  | cons b r =>
   have e:(a::b::r).length - 1=((b::r).length - 1)+1:=by
    have h1:(a::b::r).length=r.length+2:=rfl
    have h2:(b::r).length=r.length+1:=rfl
    omega
   rw[e,List.eraseIdx_cons_succ,ih]
   all_goals rfl
theorem zGO (its:List Value):∀ (k:Nat) (acc:List Value),
  List.foldl (fun x1 x2=>x1++x2) acc.toArray (List.replicate k its.toArray)=(acc++(List.replicate k its).flatten).toArray
 | 0,acc=>by simp
 | k+1,acc=>by
  have e:acc.toArray++its.toArray=(acc++its).toArray:=by simp
  have e2:(acc++its)++(List.replicate k its).flatten=acc++(List.replicate (k+1) its).flatten:=by
   rw[List.replicate_succ,List.flatten_cons,List.append_assoc]
  rw[<- e2,<- zGO its k (acc++its),<- e,List.replicate_succ,List.foldl_cons]
section
variable {X:Cx}{pins:List (Addr×Obj)}{σ:St}{H:Hp}{s:Shared}{l b:Addr}{xs ys zs:List V}
theorem Inv.lset {its its':List Value}{n:Nat}{f:Array Value->Array Value}{t':Nat} (I:Inv X pins σ H s) (hH:H l=some (.lst xs))
  (e:s.heap.get? l=some { cls:=.type "list",data:=.seq its.toArray n }) (hf:f its.toArray=its'.toArray) (hv:zU ys its') (hz:ys.length <= sizeLine) (ht:0 < t':=by first | exact Nat.succ_pos _ | assumption | exact Inv.tk (by assumption) | omega) :
  Inv X pins σ (upd H l (.lst ys)) { s with heap:=s.heap.update l (Obj.mapSeq f),toks:=t' }:=by
 have q:=PySem.IsL.update e f
 rw[hf] at q
 refine I.write (x:=l) (e:=l) (by rw[hH];exact trivial) (.inl rfl) (fun b' u hb hu=>(Heap.get?_update_other s.heap (Obj.mapSeq f) (Ne.symm hb)).trans hu) ⟨_,q⟩ ?_
 exact⟨hz,its',_,hv,q⟩
theorem Inv.lnew {its:List Value}{t':Nat} (I:Inv X pins σ H s) (hv:zU ys its) (hz:ys.length <= sizeLine) (ht:0 < t':=by first | exact Nat.succ_pos _ | assumption | exact Inv.tk (by assumption) | omega) :
  Inv X pins σ (upd H s.heap.objs.size (.lst ys)) { s with heap:=s.heap.push { cls:=.type "list",data:=.seq its.toArray },toks:=t' } :=
 I.laid (fun _ _ q=>Heap.get?_push_of_some _ q) (Nat.le_refl _) ⟨hz,its,0,hv,Heap.get?_push_size _ rfl⟩
theorem Inv.fresh (I:Inv X pins σ H s):H s.heap.objs.size=none:=I.hok.fresh (Nat.le_refl _)
theorem Inv.lstM (I:Inv X pins σ H s) (hH:H l=some (.lst xs)):xs.length <= sizeLine/\∃ (its:List Value) (n:Nat),zU xs its/\xs.length=its.length/\s.heap.get? l=some { cls:=.type "list",data:=.seq its.toArray n }:=by
 obtain⟨z,its,n,r,e⟩:=I.hok l _ hH
 exact⟨z,its,n,r,r.length,e⟩
theorem zNV {n:Nat} (h:n <= sizeLine):Builtin.List.listTooLong n=false:=by
 unfold Builtin.List.listTooLong
 exact decide_eq_false (by omega)
end
section
variable {X:Cx}
noncomputable def zJH:V->List V->Hp->VK->Prop:=fun x vs H Q=>∃ l xs y,x=.ref l/\vs=[y]/\H l=some (.lst xs)/\xs.length < sizeLine/\Q .non (upd H l (.lst (xs++[y])))
theorem yn:MtM X "list.append" zJH:=by
 intro pins s σ H x vs v us Q I rx rv h
 obtain⟨l,xs,y,rfl,rfl,hH,hz,q⟩:=h
 cases rx
 obtain⟨u,rfl,ru⟩:=rv.one
 obtain⟨z,its,n,r,hl,e⟩:=I.lstM hH
 refine call_meets F.slot_list_append ⟨_,e,rfl⟩ F.entry_list_append (F.args_list_append_2 _ _) (PySem.list_append l its.toArray n u (by rw[List.size_toArray];omega)) ⟨e,?_⟩
 refine⟨.non,_,I.lset (its':=its++[u]) hH e (by simp) (r.append (.cons ru .nil)) ?_,rfl,q⟩
 rw[List.length_append,List.length_singleton]
 omega
noncomputable def zRN:V->List V->Hp->VK->Prop:=fun x vs H Q=>∃ l xs y,x=.ref l/\vs=[]/\H l=some (.lst xs)/\xs[xs.length - 1]? = some y/\Q y (upd H l (.lst xs.dropLast))
theorem zAS:MtM X "list.pop" zRN:=by
 intro pins s σ H x vs v us Q I rx rv h
 obtain⟨l,xs,y,rfl,rfl,hH,hy,q⟩:=h
 cases rx
 have hus:=rv.zero
 subst hus
 obtain⟨z,its,n,r,hl,e⟩:=I.lstM hH
 obtain⟨u,hu,ru⟩:=r.get hy
 have hy':its.toArray[its.toArray.size - 1]? = some u:=by
  show its.toArray[its.length - 1]? = some u
  rw[<- Array.getElem?_toList,<- hl]
  exact hu
 refine call_meets F.slot_list_pop ⟨_,e,rfl⟩ F.entry_list_pop (F.args_list_pop_1 _) (MeetsSeq.list_pop_last l its.toArray n u hy' (by rw[List.size_toArray];omega)) ⟨e,?_⟩
 refine⟨y,_,I.lset (its':=its.dropLast) hH e ?_ r.dropLast ?_,ru,q⟩
 ·show its.toArray.eraseIdxIfInBounds (its.toArray.size - 1)=its.dropLast.toArray
  rw[List.size_toArray,List.eraseIdxIfInBounds_toArray,zJc]
 ·rw[List.length_dropLast]
  omega
noncomputable def zSL:R2:=fun x y H Q=>∃ l b xs zs,x=.ref l/\y=.ref b/\H l=some (.lst xs)/\H b=some (.lst zs)/\xs.length+zs.length <= sizeLine/\∀ p,H p=none->Q (.ref p) (upd H p (.lst (xs++zs)))
theorem zQm:OpR X (binaryOp .Add) zSL:=by
 intro pins s σ H x y v u Q I rx ry h
 obtain⟨l,b,xs,zs,rfl,rfl,hH,hB,hz,q⟩:=h
 cases rx
 cases ry
 obtain⟨z,its,n,r,hl,e⟩:=I.lstM hH
 obtain⟨z2,its2,n2,r2,hl2,e2⟩:=I.lstM hB
 refine PySem.P.add_list e e2 ?_ (by rw[List.size_toArray,List.size_toArray];omega)
 have ea:its.toArray++its2.toArray=(its++its2).toArray:=by simp
 rw[ea]
 exact⟨.ref _,_,I.lnew (t':=s.toks) (r.append r2) (by rw[List.length_append];omega),rfl,q _ I.fresh⟩
noncomputable def zQH:R2:=fun x y H Q=>∃ l k xs,x=.ref l/\y=.int k/\H l=some (.lst xs) /\ -(2 ^ 63) <= k/\k < 2 ^ 63/\xs.length * k.toNat <= sizeLine /\
 ∀ p,H p=none->Q (.ref p) (upd H p (.lst (List.replicate k.toNat xs).flatten))
theorem zPH {α:Type} (xs:List α) (k:Nat):(List.replicate k xs).flatten.length=k * xs.length:=by
 induction k with
 | zero=>simp
 | succ k ih=>rw[List.replicate_succ,List.flatten_cons,List.length_append,ih,Nat.succ_mul,Nat.add_comm]
theorem zPw:OpR X (binaryOp .Mult) zQH:=by
 intro pins s σ H x y v u Q I rx ry h
 obtain⟨l,k,xs,rfl,rfl,hH,h1,h2,hz,q⟩:=h
 cases rx
 obtain⟨t,rfl⟩:=ry
 obtain⟨z,its,n,r,hl,e⟩:=I.lstM hH
 have hlen:its.toArray.size * k.toNat <= sizeLine:=by rw[List.size_toArray,<- hl];exact hz
 have hcap:¬ its.toArray.size * k.toNat > (2 ^ 63 - 1) / 8:=by
  have:(sizeLine:Nat) <= (2 ^ 63 - 1) / 8:=by decide
  omega
 have hfit:¬ (!Builtin.List.listFitsIndex k)=true:=by
  rw[fitsIndex_both h1 h2]
  exact Bool.false_ne_true
 have hlong:¬ Builtin.List.listTooLong (its.toArray.size * k.toNat)=true:=by
  rw[zNV hlen]
  exact Bool.false_ne_true
 have hnew:List.foldl (fun x1 x2=>x1++x2) #[] (List.replicate (if its.toArray.isEmpty=true then 0 else k.toNat) its.toArray)=(List.replicate k.toNat its).flatten.toArray:=by
  have f0:∀ m:Nat,List.foldl (fun x1 x2=>x1++x2) #[] (List.replicate m its.toArray)=(List.replicate m its).flatten.toArray:=fun m=>by
   have:=zGO its m []
   rw[List.nil_append] at this
   exact this
  rw[f0]
  cases its with
  | nil=>simp
  | cons a r'=>rw[if_neg (by simp)]
 refine wpAny_binaryOp_repeat_ref (T := "list") (U := "int") (by decide) ⟨_,e,rfl⟩ (fun s'=>typeIs_int s' k t) noFill_list_mul F.fills_int_mul F.slot_int_rmul repeat_list F.slot_int_index.lookup
  (call_meets F.slot_int_rmul (typeIs_int s k t) F.entry_int_rmul (F.args_int_rmul_2 _ _) (int___rmul___int_list k t l its.toArray n)
   ⟨e,rfl,⟨_,e,rfl⟩,call_meets F.slot_list_mul ⟨_,e,rfl⟩ F.entry_list_mul (F.args_list_mul_2 _ _) (AutoListH.list___mul___list_int_3 l its.toArray n k t hfit hcap hlong) ⟨e,?_⟩⟩)
 rw[hnew]
 exact⟨.ref _,_,I.lnew (t':=s.toks) (r.rep k.toNat) (by rw[zPH,Nat.mul_comm];exact hz),rfl,q _ I.fresh⟩
end
section
variable {prog:Program}{w:World}{A:Around}{E:Value->Shared->Prop}{s:Shared}
set_option maxRecDepth 100000 in
end
end L2
namespace L2
open PySem PySem.Spec PyProof.Rows
section
variable {κ:Type} [DecidableEq κ]
noncomputable def Zc (kvs:List (κ×V)) (k:κ):Option V:=(kvs.find? fun kv=>decide (kv.1=k)).map (·.2)
noncomputable def Qu (kvs:List (κ×V)) (k:κ) (v:V):List (κ×V) :=
 if (kvs.any fun kv=>decide (kv.1=k))=true then kvs.map (fun kv=>if kv.1=k then (kv.1,v) else kv) else kvs++[(k,v)]
theorem zCg {p:κ×V}{r:List (κ×V)}{k:κ} (e:p.1=k):Zc (p::r) k=some p.2:=by simp[Zc,List.find?_cons,e]
theorem zCa {p:κ×V}{r:List (κ×V)}{k:κ} (e:¬ p.1=k):Zc (p::r) k=Zc r k:=by simp[Zc,List.find?_cons,e]
theorem zHx (k:κ):∀ kvs:List (κ×V),(kvs.any fun kv=>decide (kv.1=k))=(Zc kvs k).isSome
 | []=>rfl
 | p::r=>by
  rw[List.any_cons]
  by_cases e:p.1=k
  ·simp only[zCg e,decide_eq_true e,Bool.true_or,Option.isSome_some]
  ·rw[zCa e,decide_eq_false e,Bool.false_or];exact zHx k r
theorem zD7 (kvs:List (κ×V)) (k:κ) (v:V):(Qu kvs k v).length <= kvs.length+1:=by
 unfold Qu
 split
 ·rw[List.length_map];omega
 ·rw[List.length_append,List.length_cons,List.length_nil];omega
theorem Qi.isSome_eq {o:Option V}{u:Option Value} (r:Qi o u):o.isSome=u.isSome:=by
 cases o with
 | none=>cases u with
  | none=>rfl
  | some _=>exact (show False from r).elim
 | some _=>cases u with
  | none=>exact (show False from r).elim
  | some _=>rfl
theorem KV.val {kvs:List (κ×V)}{vs:List (κ×Value)} (r:KV kvs vs) (k:κ):Qi (Zc kvs k) (valueAt vs k):=by
 unfold KV at r
 induction r with
 | nil=>exact True.intro
 | @cons p q ps qs h t ih =>
  obtain⟨h1,h2⟩:=h
  by_cases e:p.1=k
  ·have e':q.1=k:=h1.symm.trans e
   have b:valueAt (q::qs) k=some q.2:=by simp[valueAt,List.find?_cons,e']
   rw[zCg e,b];exact h2
  ·have e':¬ q.1=k:=fun z=>e (h1.trans z)
   have b:valueAt (q::qs) k=valueAt qs k:=by simp[valueAt,List.find?_cons,e']
   rw[zCa e,b];exact ih
theorem KV.any {kvs:List (κ×V)}{vs:List (κ×Value)} (r:KV kvs vs) (k:κ):(kvs.any fun kv=>decide (kv.1=k))=vs.any fun kv=>decide (kv.1=k):=by
 unfold KV at r
 induction r with
 | nil=>rfl
 | cons h t ih=>rw[List.any_cons,List.any_cons,ih,h.1]
theorem KV.repl {kvs:List (κ×V)}{vs:List (κ×Value)} (r:KV kvs vs) (k:κ) {y:V}{u:Value} (ry:zg y u) :
  KV (kvs.map fun kv=>if kv.1=k then (kv.1,y) else kv) (vs.map fun kv=>if kv.1=k then (kv.1,u) else kv):=by
 unfold KV at r ⊢
 induction r with
 | nil=>exact .nil
 | @cons p q ps qs h t ih =>
  rw[List.map_cons,List.map_cons]
  refine .cons ?_ ih
  obtain⟨h1,h2⟩:=h
  by_cases e:p.1=k
  ·rw[if_pos e,if_pos (h1.symm.trans e)];exact⟨h1,ry⟩
  ·rw[if_neg e,if_neg (fun z=>e (h1.trans z))];exact⟨h1,h2⟩
theorem KV.put {kvs:List (κ×V)}{vs:List (κ×Value)} (r:KV kvs vs) (k:κ) {y:V}{u:Value} (ry:zg y u):KV (Qu kvs k y) (stored vs k u):=by
 unfold Qu stored
 rw[r.any k]
 by_cases e:(vs.any fun kv=>decide (kv.1=k))=true
 ·rw[if_pos e,if_pos e];exact r.repl k ry
 ·rw[if_neg e,if_neg e];exact Paired.snoc r ⟨rfl,ry⟩
theorem KV.keys {kvs:List (κ×V)}{vs:List (κ×Value)} (r:KV kvs vs):kvs.map (·.1)=vs.map (·.1):=by
 unfold KV at r
 induction r with
 | nil=>rfl
 | cons h t ih=>rw[List.map_cons,List.map_cons,ih,h.1]
theorem KV.length {kvs:List (κ×V)}{vs:List (κ×Value)} (r:KV kvs vs):kvs.length=vs.length:=Paired.length r
end
theorem zEw {P:Program}{w:World}{k:Key}{u:Value} (r:zg (kV k) u):(yI P w).is k u=true:=by
 cases k with
 | inl i=>obtain⟨t,e⟩:=(show ∃ t,u=Value.int i t from r);subst e;exact zIW P w i t
 | inr x=>obtain⟨t,e⟩:=(show ∃ t,u=Value.str x t from r);subst e;exact zIn P w x t
theorem zGQ {P:Program}{w:World}:∀ {ks:List Key}{us:List Value},zU (ks.map kV) us->ItemsAre (yI P w) ks us
 | [],_,r=>by rw[List.map_nil] at r;cases r;exact .nil
 | k::ks,_,r=>by
  rw[List.map_cons] at r
  cases r with
  | cons h t=>exact .cons (zEw h) (zGQ t)
noncomputable abbrev KT (H:Hp):List (List Key×V)->List (List Key×Addr×Value)->Prop:=Paired fun p q=>p.1=q.1/\H q.2.1=some (.tup (p.1.map kV))/\zg p.2 q.2.2
theorem KT.val {H:Hp}{kvs:List (List Key×V)}{xs:List (List Key×Addr×Value)} (r:KT H kvs xs) (k:List Key):Qi (Zc kvs k) ((atKey xs k).map (·.2)):=by
 induction r with
 | nil=>exact True.intro
 | @cons p q ps qs h t ih =>
  obtain⟨h1,_,h2⟩:=h
  by_cases e:p.1=k
  ·have e':q.1=k:=h1.symm.trans e
   have b:atKey (q::qs) k=some q.2:=by simp[atKey,List.find?_cons,e']
   rw[zCg e,b];exact h2
  ·have e':¬ q.1=k:=fun z=>e (h1.trans z)
   have b:atKey (q::qs) k=atKey qs k:=by simp[atKey,List.find?_cons,e']
   rw[zCa e,b];exact ih
theorem KT.repl {H:Hp}{kvs:List (List Key×V)}{xs:List (List Key×Addr×Value)} (r:KT H kvs xs) (k:List Key) {y:V}{u:Value} (ry:zg y u) :
  KT H (kvs.map fun kv=>if kv.1=k then (kv.1,y) else kv) (xs.map (putAt k u)):=by
 induction r with
 | nil=>exact .nil
 | @cons p q ps qs h t ih =>
  rw[List.map_cons,List.map_cons]
  refine .cons ?_ ih
  obtain⟨h1,h2,h3⟩:=h
  unfold putAt
  by_cases e:p.1=k
  ·rw[if_pos e,if_pos (h1.symm.trans e)];exact⟨h1,h2,ry⟩
  ·rw[if_neg e,if_neg (fun z=>e (h1.trans z))];exact⟨h1,h2,h3⟩
theorem KT.put {H:Hp}{kvs:List (List Key×V)}{xs:List (List Key×Addr×Value)} (r:KT H kvs xs) (k:List Key) {b:Addr}{y:V}{u:Value} (hb:H b=some (.tup (k.map kV))) (ry:zg y u) :
  KT H (Qu kvs k y) (storedH xs k b u):=by
 have e:(kvs.any fun kv=>decide (kv.1=k))=(atKey xs k).isSome:=by
  rw[zHx,(r.val k).isSome_eq,Option.isSome_map]
 unfold Qu storedH
 rw[e]
 by_cases q:(atKey xs k).isSome=true
 ·rw[if_pos q,if_pos q];exact r.repl k ry
 ·rw[if_neg q,if_neg q];exact Paired.snoc r ⟨rfl,hb,ry⟩
theorem KT.keeps {H H':Hp}{kvs:List (List Key×V)}{xs:List (List Key×Addr×Value)} (r:KT H kvs xs) (ht:∀ b ys,H b=some (.tup ys)->H' b=some (.tup ys)):KT H' kvs xs :=
 Paired.mapP r fun _ _ z=>⟨z.1,ht _ _ z.2.1,z.2.2⟩
section
variable {P:Program}{w:World}{H:Hp}{h:Heap}{a:Addr}
theorem zNz {u:HO} (ok:HOk P w H h) (e:Rd H a u):qN P w H h a u:=e.ok ok
theorem zDs {kvs:List (Key×V)} (ok:HOk P w H h) (e:Rd H a (.dK kvs)):kvs.length <= sizeLine/\(a == sysModules)=false/\∃ vs,KV kvs vs/\h.DictOf (yI P w) a vs :=
 show qN P w H h a (.dK kvs) from zNz ok e
theorem zDk {kvs:List (Key×V)} (ok:HOk P w H h) (e:H a=some (.dK kvs)):kvs.length <= sizeLine/\(a == sysModules)=false/\∃ vs,KV kvs vs/\h.DictOf (yI P w) a vs:=zDs ok (.inl e)
theorem zDH {ks:List Key} (ok:HOk P w H h) (e:H a=some (.tup (ks.map kV))):(tupleKind (yI P w)).is h ks a:=by
 obtain⟨_,its,r,o,h1,h2,n,h3⟩:=(show qN P w H h a (.tup (ks.map kV)) from ok a _ e)
 exact⟨o,its.toArray,n,h1,h2,h3,by simpa using zGQ r⟩
theorem zFU {kvs:List (List Key×V)} (ok:HOk P w H h) (e:Rd H a (.dT kvs)):kvs.length <= sizeLine/\(a == sysModules)=false /\
  ∃ xs,KT H kvs xs/\h.DictOfH (tupleKind (yI P w)) a xs:=by
 obtain⟨z,y,xs,r,o,es,ep,h1,h2,h3,h4,h5⟩:=(show qN P w H h a (.dT kvs) from zNz ok e)
 refine⟨z,y,xs,r,o,es,ep,h1,h2,h3,h4,fun x hx=>?_,h5⟩
 have all:∀ {l:List (List Key×V)}{m:List (List Key×Addr×Value)},KT H l m->∀ x∈m,(tupleKind (yI P w)).is h x.1 x.2.1:=by
  intro l m q
  induction q with
  | nil=>intro x hx;exact nomatch hx
  | @cons p q ps qs hq t ih =>
   intro x hx
   rcases List.mem_cons.mp hx with e | hx
   ·subst e
    exact zDH ok (by rw[<- hq.1];exact hq.2.1)
   ·exact ih x hx
 exact all r x hx
theorem zRZ {kvs:List (List Key×V)} (ok:HOk P w H h) (e:H a=some (.dT kvs)):kvs.length <= sizeLine/\(a == sysModules)=false /\
  ∃ xs,KT H kvs xs/\h.DictOfH (tupleKind (yI P w)) a xs:=zFU ok (.inl e)
end
noncomputable def zBZ (H:Hp) (a:Addr) (y:V) (r:Option V):Prop :=
 (∃ kvs k,Rd H a (.dK kvs)/\y=kV k/\r=Zc kvs k)\/∃ kvs k b,Rd H a (.dT kvs)/\y=.ref b/\H b=some (.tup (k.map kV))/\r=Zc kvs k
noncomputable def zHA (H:Hp) (a:Addr) (y v:V) (H':Hp):Prop :=
 (∃ kvs k,H a=some (.dK kvs)/\y=kV k/\kvs.length < sizeLine/\H'=upd H a (.dK (Qu kvs k v))) \/
 ∃ kvs k b,H a=some (.dT kvs)/\y=.ref b/\H b=some (.tup (k.map kV))/\kvs.length < sizeLine/\H'=upd H a (.dT (Qu kvs k v))
theorem zBZ.k {H:Hp}{a:Addr}{kvs:List (Key×V)}{k:Key} (e:H a=some (.dK kvs)):zBZ H a (kV k) (Zc kvs k):=.inl ⟨kvs,k,.inl e,rfl,rfl⟩
theorem zHA.k {H:Hp}{a:Addr}{kvs:List (Key×V)}{k:Key}{v:V} (e:H a=some (.dK kvs)) (hl:kvs.length < sizeLine):zHA H a (kV k) v (upd H a (.dK (Qu kvs k v))):=.inl ⟨kvs,k,e,rfl,hl,rfl⟩
section
variable {X:Cx}{pins:List (Addr×Obj)}{σ:St}{H:Hp}{s:Shared}{a:Addr}{y v:V}{u r:Value}{o:Option V}{A:Around}{E:Value->Shared->Prop}
theorem Inv.big (I:Inv X pins σ H s):sysModules < s.heap.objs.size:=by
 have h:mainGlobals < s.heap.objs.size:=(I.mod.glob.keeps I.bk).lt
 exact Nat.lt_trans (by decide) h
theorem zLY {Q:Value->Shared->Prop} (hu:A.units+1 < cLine) (I:Inv X pins σ H s) (g:zBZ H a y (some v)) (ry:zg y u) (h:∀ w' s',Inv X pins σ H s'->zg v w'->Q w' s') :
  wpAny (model X.prog X.w) A (getItem (.ref a) u) Q E s:=by
 rcases g with ⟨kvs,k,e,ey,l⟩ | ⟨kvs,k,b,e,ey,eb,l⟩
 ·subst ey
  obtain⟨z,hd,vs,rel,dd⟩:=zDs I.hok e
  obtain⟨w',hw,rw'⟩:=Qi.some_of (v:=v) (o:=valueAt vs k) (by rw[l];exact rel.val k)
  exact wpAny_getItem_of (zEw ry) dd.mapOf hw (h w' _ (I.tok _) rw')
 ·subst ey
  cases (show u=Value.ref b from ry)
  obtain⟨z,hd,xs,rel,dd⟩:=zFU I.hok e
  obtain⟨w',hw,rw'⟩:=Qi.some_of (v:=v) (o:=(atKey xs k).map (·.2)) (by rw[l];exact rel.val k)
  obtain⟨p,hp,hp2⟩:=Option.map_eq_some_iff.mp hw
  refine wpAny_getItem_heap (tupleKind_room_in1 hu) (zDH I.hok eb) dd hp ?_
  rw[hp2]
  exact h w' _ (I.tok _) rw'
theorem zSI {Q:Value->Shared->Prop} (hu:A.units+1 < cLine) (I:Inv X pins σ H s) (g:zBZ H a y o) (ry:zg y u) (h:∀ s',Inv X pins σ H s'->Q (.bool o.isSome) s') :
  wpAny (model X.prog X.w) A (compareOp .In u (.ref a)) Q E s:=by
 rcases g with ⟨kvs,k,e,ey,l⟩ | ⟨kvs,k,b,e,ey,eb,l⟩
 ·subst ey
  obtain⟨z,hd,vs,rel,dd⟩:=zDs I.hok e
  refine wpAny_in_of (zEw ry) hd dd.mapOf ?_
  rw[<- (rel.val k).isSome_eq,<- l]
  exact h _ (I.tok _)
 ·subst ey
  cases (show u=Value.ref b from ry)
  obtain⟨z,hd,xs,rel,dd⟩:=zFU I.hok e
  refine wpAny_in_heap (tupleKind_room_in1 hu) (zDH I.hok eb) hd dd ?_
  have q:=(rel.val k).isSome_eq
  rw[Option.isSome_map] at q
  rw[<- q,<- l]
  exact h _ (I.tok _)
theorem zOU {Q:Value->Shared->Prop} (hu:A.units+1 < cLine) (I:Inv X pins σ H s) (g:zBZ H a y o) (ry:zg y u) (h:∀ s',Inv X pins σ H s'->Q (.bool (!o.isSome)) s') :
  wpAny (model X.prog X.w) A (compareOp .NotIn u (.ref a)) Q E s:=by
 rcases g with ⟨kvs,k,e,ey,l⟩ | ⟨kvs,k,b,e,ey,eb,l⟩
 ·subst ey
  obtain⟨z,hd,vs,rel,dd⟩:=zDs I.hok e
  refine wpAny_notIn_of (zEw ry) hd dd.mapOf ?_
  rw[<- (rel.val k).isSome_eq,<- l]
  exact h _ (I.tok _)
 ·subst ey
  cases (show u=Value.ref b from ry)
  obtain⟨z,hd,xs,rel,dd⟩:=zFU I.hok e
  refine wpAny_notIn_heap (tupleKind_room_in1 hu) (zDH I.hok eb) hd dd ?_
  have q:=(rel.val k).isSome_eq
  rw[Option.isSome_map] at q
  rw[<- q,<- l]
  exact h _ (I.tok _)
theorem zIz {h':Heap}{t':Nat}{ob:HO} (I:Inv X pins σ H s) (mu:Mut (H a)) (hs:Heap.SameBut a s.heap h') (he:∃ q,h'.get? a=some q) (new:qN X.prog X.w (upd H a ob) h' a ob) (ht:0 < t':=by first | exact Nat.succ_pos _ | assumption | exact Inv.tk (by assumption) | omega) :
  Inv X pins σ (upd H a ob) { s with heap:=h',toks:=t' } :=
 I.write (x:=a) (e:=a) mu (.inl rfl) (fun b q hb z=>(hs.2 b hb).trans z) he new
theorem zQx {P:Program}{w:World}{H':Hp}{h':Heap}{kvs:List (Key×V)}{vs:List (Key×Value)} (z:kvs.length <= sizeLine) (hd:(a == sysModules)=false) (rel:KV kvs vs) (dd:h'.DictOf (yI P w) a vs) :
  qN P w H' h' a (.dK kvs):=⟨z,hd,vs,rel,dd⟩
theorem zLo {H':Hp}{Q:Unit->Shared->Prop} (hu:A.units+1 < cLine) (I:Inv X pins σ H s) (g:zHA H a y v H') (ry:zg y u) (rv:zg v r) (h:∀ s',Inv X pins σ H' s'->Q () s') :
  wpAny (model X.prog X.w) A (setItem (.ref a) u r) Q E s:=by
 rcases g with ⟨kvs,k,e,ey,l,eH⟩ | ⟨kvs,k,b,e,ey,eb,l,eH⟩
 ·subst ey eH
  obtain⟨z,hd,vs,rel,dd⟩:=zDk I.hok e
  have hz:vs.length <= sizeLine:=by rw[<- rel.length];exact z
  have hl:(Qu kvs k v).length <= sizeLine:=by have:=zD7 kvs k v;omega
  refine wpAny_setItem_pairs (hsz:=hz) (zEw ry) dd fun h' dd' hs=>h _ ?_
  have he:∃ q,h'.get? a=some q:=let ⟨q,_,_,hq,_⟩:=dd';⟨q,hq⟩
  exact zIz I (by rw[e];exact True.intro) hs he (zQx hl hd (rel.put k rv) dd')
 ·subst ey eH
  cases (show u=Value.ref b from ry)
  obtain⟨z,hd,xs,rel,dd⟩:=zRZ I.hok e
  have hz:xs.length <= sizeLine:=by rw[<- Paired.length rel];exact z
  have hl:(Qu kvs k v).length <= sizeLine:=by have:=zD7 kvs k v;omega
  refine wpAny_setItem_heap (hsz:=hz) (tupleKind_room_in1 hu) (zDH I.hok eb) dd fun h' dd' hs=>h _ ?_
  obtain⟨q,es,ep,hq,h2,h3,h4,_,h5⟩:=dd'
  refine zIz I (by rw[e];exact True.intro) hs ⟨q,hq⟩ ⟨hl,hd,_,(rel.put k eb rv).keeps fun c ys ec=>?_,q,es,ep,hq,h2,h3,h4,h5⟩
  rw[jP (zRj ec e (fun z=>nomatch z))]
  exact ec
end
section
variable {X:Cx}{pins:List (Addr×Obj)}{σ:St}{H:Hp}{s:Shared}{a:Addr}{kvs:List (Key×V)}{k:Key}{u:Value}{A:Around}{E:Value->Shared->Prop}
theorem zRc {Q:Value->Shared->Prop} (I:Inv X pins σ H s) (e:Rd H a (.dK kvs)) (h:∀ t s',Inv X pins σ H s'->Q (.int kvs.length t) s'):wpAny (model X.prog X.w) A (call (.builtin "len") [.ref a]) Q E s:=by
 obtain⟨z,hd,vs,rel,dd⟩:=zDs I.hok e
 refine call_len_dict hd dd (by rw[<- rel.length];rw[sizeLine_eq] at z;omega) ?_
 rw[<- rel.length]
 exact h _ _ (I.tok _)
end
theorem zIc {X:Cx}{pins:List (Addr×Obj)}{σ:St}{H:Hp}{s:Shared}{a:Addr}{y:V}{o:Option V} (I:Inv X pins σ H s) (g:zBZ H a y o):s.TypeIs (.ref a) "dict" := by
 rcases g with ⟨kvs,k,e,_,_⟩ | ⟨kvs,k,b,e,_,_,_⟩
 ·obtain⟨_,_,vs,_,dd⟩:=zDs I.hok e
  exact dd.typeIs
 ·obtain⟨_,_,xs,_,dd⟩:=zFU I.hok e
  exact dd.typeIs
noncomputable def zRw (td ty tv:TE):TS:=fun D σ H=>tv σ H fun v H1=>td σ H1 fun x H2=>ty σ H2 fun y H3=>∃ a H4,x=.ref a/\zHA H3 a y v H4/\D.nx σ H4
section
variable {X:Cx}{o i e value:Expr}{pos pos' tpos:Pos}{td ty tv:TE}
theorem zPL (hu:X.A.units+1 < cLine) (ho:PE X o td) (hi:PE X i ty) (hv:PE X value tv) (hs:swapsWith value (some (.Subscript o i pos')) pos.line X.env=pure false) :
  PS X (.Assign [.Subscript o i pos'] value pos) (zRw td ty tv):=by
 intro pins s σ H D I h
 refine wpAny_Assign_Subscript (thn (hv pins s σ H _ I h) fun r s1 ⟨v,H1,I1,rv,q1⟩=>thn (ho pins s1 σ H1 _ I1 q1) fun u s2 ⟨x,H2,I2,rx,q2⟩=>thn (hi pins s2 σ H2 _ I2 q2) fun iv s3 ⟨y,H3,I3,ry,a,H4,ex,g,q3⟩=>?_) hs
 subst ex
 obtain rfl:u=Value.ref a:=rx
 exact zLo hu I3 g ry rv fun s4 I4=>⟨σ,H4,I4,q3⟩
end
theorem zMh {P:Program}{w:World}{H:Hp} (h:Heap) (hb:sysModules < h.objs.size):qN P w H (h.push { cls:=.type "dict",data:=.dict #[] }) h.objs.size (.dK []) :=
 ⟨Nat.zero_le _,beq_eq_false_iff_ne.mpr (Ne.symm (Nat.ne_of_lt hb)),[],.nil,Heap.DictOf.new h⟩
noncomputable def zPu:TE:=fun _ H Q=>∀ p,H p=none->Q (.ref p) (upd H p (.dK []))
section
variable {X:Cx}{pos:Pos}
theorem zNG:PE X (.Dict [] [] pos) zPu:=fun pins s σ H Q I h =>
 wpAny_Dict_empty ⟨.ref s.heap.objs.size,_,I.laid (a:=s.heap.objs.size) (o:=.dK []) (t':=s.toks) (fun _ _ q=>Heap.get?_push_of_some _ q) (Nat.le_refl _) (zMh s.heap I.big),rfl,h _ (I.hok.fresh (Nat.le_refl _))⟩
end
structure M1 (X:Cx) (o:Expr) (m:Str) (apos:Pos) (e:Expr) (cpos:Pos):Prop where
 base:attributeBase o m X.env (eval o X.env)=eval o X.env
 few:((backTo cpos (starEach [e] X.env)).all (fun x=>!x.1) && (backToKw cpos (keywordEach [] X.env)).all (fun x=>x.1.isSome)
  && decide (([e]:List Expr).length+([]:List Keyword).length+(if ([]:List Keyword).isEmpty then 0 else 1) < 30))=true
 line:(apos.endLine == cpos.line)=true
 trees:backTo cpos (starEach [e] X.env)=[(false,eval e X.env)]
structure M2 (X:Cx) (o:Expr) (m:Str) (apos:Pos) (e f:Expr) (cpos:Pos):Prop where
 base:attributeBase o m X.env (eval o X.env)=eval o X.env
 few:((backTo cpos (starEach [e,f] X.env)).all (fun x=>!x.1) && (backToKw cpos (keywordEach [] X.env)).all (fun x=>x.1.isSome)
  && decide (([e,f]:List Expr).length+([]:List Keyword).length+(if ([]:List Keyword).isEmpty then 0 else 1) < 30))=true
 line:(apos.endLine == cpos.line)=true
 trees:backTo cpos (starEach [e,f] X.env)=[(false,eval e X.env),(false,eval f X.env)]
end L2
namespace Att
open PySem PySem.W PySem.Calls PyProof.Rows
theorem zEx {P:Params}{h:Heap}:∀ (ns:List Int) (vs:List Value),WellAll P h vs (ns.map WData.int)->IntsAre vs ns:=by
 intro ns
 induction ns with
 | nil =>
  intro vs w
  rw[List.map_nil] at w
  cases w
  exact .nil
 | cons n ns ih =>
  intro vs w
  rw[List.map_cons] at w
  cases w with
  | cons a b =>
   cases a
   exact .cons _ _ (ih _ b)
theorem zLe {l:OpenLaw}{n:Nat} (hn:l.most=some n) {P:Params}{h:Heap}{args:List WData}{vals:List Value}
  (hpre:l.row.toRowW.claim.pre args=true) (hwl:WellAll P h vals args) :
  ∃ a vs ns,vals=[Value.ref a]/\args=[WData.list (ns.map WData.int)]/\h.get? a=some { cls:=.type "list",data:=.seq vs.toArray }/\IntsAre vs ns/\ns.length <= n:=by
 have hsh:WShape.hasAll [] args [.list .int]=true:=(pre_splitW hpre).1
 have hc:l.pre.holds [] { args:=args }=true:=(pre_splitW hpre).2
 obtain⟨d,r,rfl,h1,h2⟩:=hasAllW_cons hsh
 obtain rfl:=hasAllW_nil h2
 obtain⟨xs,rfl,h3⟩:=hasW_list h1
 obtain⟨ns,rfl⟩:=items_int h3
 have hlen:ns.length <= n:=by
  unfold OpenLaw.pre at hc
  have h4:(WTm.not (.lt (.lit (.int (n:Int))) (.len (.arg 0)))).holds [] { args:=[.list (ns.map .int)] }=true:=by
   have h4:=(holds_andW hc).1
   rw[hn] at h4
   exact h4
  have h5:=condW_of h4 (w_not (w_lt w_lit (w_len_list (w_arg rfl))))
  rw[List.length_map] at h5
  refine Nat.le_of_not_lt fun q=>?_
  have q':(n:Int) < ((ns.length:Nat):Int):=by omega
  first
   | (rw[decide_eq_true q'] at h5;exact absurd h5 (by decide))
   | (simp at h5;omega)
 cases hwl with
 | cons w1 w2 =>
  cases w2
  cases w1 with
  | list ho hall=>exact⟨_,_,ns,rfl,rfl,ho,zEx ns _ hall,hlen⟩
theorem zLC (l:OpenLaw) (args:List WData):l.row.toRowW.claim.post args (.bool true) args=true :=
 postW_of (r:=l.row.toRowW) (X:=(true == true))
  (show WShape.has [] (.bool true) .bool=true by first | rfl | decide | simp[WShape.has,WShape.arms,WShape.armsAll])
  (show (WTm.eq .res (.lit (.bool true))).value [] { args:=args,res:=some (.bool true),after:=args }=some (.bool (true == true)) from w_eq_bool (w_res rfl) w_lit) rfl
theorem zIR {l:OpenLaw}{n:Nat}{q:Program}{loose:List Str}{XP:(Str->Option Value)->Heap->Prop}{YP:World->Heap->Prop}{d:DefRec}
  (hn:l.most=some n) (hdf:d.params.defaults=[])
  (call:∀ (w:World) (s₀ s₁:Shared) (mg mb:Str->Option Value) (fa:Addr) (o:Obj) (pm cd doc:Value) (a:Addr) (vs:List Value) (ns:List Int),
   Ground q loose [] XP w s₀ mg mb s₁.heap->YP w s₁.heap ->
   s₁.heap.get? fa=some o->o.data=.func (docDef d.name d.params d.body d.scope pm cd doc)->s₁.heap.CodeRec cd d.name->mg d.name=some (.ref fa) ->
   s₁.heap.get? a=some { cls:=.type "list",data:=.seq vs.toArray }->IntsAre vs ns->ns.length <= n->s₁.gens = #[] ->
   codeAny (model l.prog w) callerA (.call (.ref fa) ⟨[.ref a],[]⟩) (fun r s'=>r=.ok (.ret (.bool true))/\OldK s₁.heap s'.heap/\s'.os=s₁.os/\AllBare s'.gens) s₁) :
  WalkO q loose XP YP l.row.toRowW d [] (fun f vs=>PySem.call f vs):=by
 intro w s₀ s₁ mg mb G Y fa o pm cd doc dV kV ho hd hcd hD hmg hg args vals as hpre hlay hrd hwl hlo
 obtain rfl:dV=.none:=Dflts.none hD hdf
 obtain rfl:kV=.none:=Dflts.noKw hD
 obtain⟨a,vs,ns,rfl,rfl,hobj,hints,hlen⟩:=zLe hn hpre hwl
 refine enter_call (codeAny_mono (call w s₀ s₁ mg mb fa o pm cd doc a vs ns G Y ho (fd_plain hd) hcd hmg hobj hints hlen hg) fun r s' hq=>?_)
 obtain⟨rfl,h2,h3,h4⟩:=hq
 exact⟨.inl ⟨.bool true,.bool true,[],rfl,fun _=>rfl,.bool true,zLC l _,fun _=>⟨List.Pairwise.nil,fun _ hm=>(nomatch hm)⟩⟩,h2,h3,h4⟩
end Att
namespace L2
open PySem PySem.Spec PyProof.Rows
theorem zGS:∀ {vs:List Value}{ns:List Int},IntsAre vs ns->zU (ns.map V.int) vs
 | _,_,.nil=>.nil
 | _,_,.cons n t h=>.cons ⟨t,rfl⟩ (zGS h)
noncomputable def zIJ (H:Hp):Prop:=∀ b,H b=none\/∃ o xs,H b=some (.frz o (.lst xs))
theorem zNi {P:Program}{w:World}{K:PySem.W.Frag}{mg mb:Str->Option Value}{CX:CXT}{k:Nat}{fa a:Addr}{fd:FuncData}{x:Str}{sp:Sp}{s₁:Shared}{vs:List Value}{ns:List Int}
  (KX:K.In s₁.heap) (hns:s₁.heap.Ns mainGlobals mg) (hb:s₁.heap.Ns builtinsNs mb) (hbb:∀ x:Str,x ≠ "__name__" -> mb x=bootBuiltins x) (hlim:s₁.heap.NoLimit) (hg:s₁.gens = #[])
  (ha:s₁.heap.get? a=some { cls:=.type "list",data:=.seq vs.toArray }) (hi:IntsAre vs ns) (hl:ns.length <= sizeLine) (hr:jL k callerA)
  (F:∀ base:Heap,K.In base->base.Ns mainGlobals mg->jU P w K mg base CX k fa fd [x] sp) (hT:fd.scope.names.lookup x=some .local) (hbind:∀ (s:Shared) (u:Value),BindsTo s fd ⟨[u],[]⟩ [(x,u)])
  (hsp:∀ H:Hp,zIJ H->SqL K H a (ns.map V.int)->sp [.ref a] H (fun v _=>v=.bl true) fun _ _ _=>False)
  (hCX:∀ H e s',CX [] H s₁ (fun _ _ _=>False) e s'->False) :
  codeAny (model P w) callerA (.call (.ref fa) ⟨[.ref a],[]⟩) (fun r s'=>r=.ok (.ret (.bool true))/\OldK s₁.heap s'.heap/\s'.os=s₁.os/\AllBare s'.gens) s₁:=by
 have rv:=zGS hi
 have lenV:=hi.length
 have core:∀ H:Hp,zIJ H->SqL K H a (ns.map V.int)->HOk P w H s₁.heap->(∀ b,H b≠none->b=a)->(H a≠none->K.lookup a=none) ->
   codeAny (model P w) callerA (.call (.ref fa) ⟨[.ref a],[]⟩) (fun r s'=>r=.ok (.ret (.bool true))/\OldK s₁.heap s'.heap/\s'.os=s₁.os/\AllBare s'.gens) s₁:=by
  intro H hO hS hok hA hK
  have base_of:∀ {b:Addr}{o:Obj},s₁.heap.get? b=some o->H b=none->(zCX s₁.heap H).get? b=some o:=fun e n=>zNU e n
  have noA:∀ {b:Addr}{o:Obj}{es:Array DictEntry}{ep:Nat},s₁.heap.get? b=some o->o.data=.dict es ep->H b=none:=fun {b o es ep} e d=>by
   cases q:H b with
   | none=>rfl
   | some u =>
    have e':b=a:=hA b (by rw[q];simp)
    subst e'
    rw[ha] at e;cases e
    have d':Data.seq vs.toArray _=Data.dict es ep:=d
    cases d'
  have nsK:∀ {b:Addr}{m:Str->Option Value},s₁.heap.Ns b m->(zCX s₁.heap H).Ns b m:=fun {b m} ⟨o,es,ep,e,d,r⟩=>⟨o,es,ep,base_of e (noA e d),d,r⟩
  have hKb:K.In (zCX s₁.heap H):=fun b o e=>base_of (KX b o e) (by
   cases q:H b with
   | none=>rfl
   | some u =>
    have e':b=a:=hA b (by rw[q];simp)
    subst e'
    rw[hK (by rw[q];simp)] at e;cases e)
  have hM:Mod K mg (zCX s₁.heap H):=⟨hKb,nsK hns,⟨mb,nsK hb,hbb⟩,let ⟨mc,h1,h2⟩:=hlim;⟨mc,nsK h1,h2⟩⟩
  have e0:zEZ P w K mg (zCX s₁.heap H) callerA [] s₁ H:=⟨rfl,hM,fun b o e=>zOv e,Nat.le_of_eq (zLh _ _),trivial,fun b hb=>absurd (show b∈([]:List Addr) from hb) (by simp),hok,.of_eq hg⟩
  refine codeAny_mono ((F _ hKb (nsK hns)).run callerA [] s₁ H ⟨[.ref a],[]⟩ [.ref a] [.ref a] _ _ hr e0 (.inr ⟨x,List.mem_singleton.mpr rfl,hT⟩) (hbind s₁ (.ref a)) (.cons rfl .nil) (hsp H hO hS)) fun r s' h=>?_
  cases r with
  | error e=>exact (hCX H e s' h).elim
  | ok fl =>
   cases fl with
   | next=>exact False.elim h
   | brk=>exact False.elim h
   | cont=>exact False.elim h
   | ret u =>
    obtain⟨v,H',os,bare,un,hok',r',q⟩:=h
    have q':v=.bl true:=q
    subst q'
    obtain rfl:u=Value.bool true:=r'
    refine⟨rfl,OldK.of_keep fun b o e=>?_,os,bare⟩
    cases q:H b with
    | none=>exact un.keep b o e q (by intro z;exact absurd (show b∈([]:List Addr) from z) (by simp)) (by simp)
    | some u =>
     rcases hO b with z | ⟨ob,xs,z⟩
     ·rw[q] at z;cases z
     ·have z2:=un.frzs b ob _ z
      obtain⟨e1,_⟩:=hok b _ z
      obtain⟨e2,_⟩:=hok' b _ z2
      rw[e] at e1;cases e1
      exact e2
 cases hk:K.lookup a with
 | some o =>
  have e:=KX a o hk
  rw[ha] at e
  cases e
  refine core (fun _=>none) (fun _=>.inl rfl) (.inr ⟨_,vs.toArray,_,hk,rfl,rfl,rfl,by rw[List.size_toArray,lenV];exact hl,by simpa using rv⟩) (fun b u z=>by have z':(none:Option HO)=some u:=z;cases z') (fun b z=>absurd rfl z) fun z=>absurd rfl z
 | none =>
  refine core (fun b=>if b=a then some (.frz { cls:=.type "list",data:=.seq vs.toArray } (.lst (ns.map V.int))) else none) (fun b=>?_) (.inl (.inr ⟨{ cls:=.type "list",data:=.seq vs.toArray },if_pos rfl⟩)) (fun b u z=>?_) (fun b z=>?_) fun _=>hk
  ·by_cases hb:b=a
   ·exact .inr ⟨_,_,if_pos hb⟩
   ·exact .inl (if_neg hb)
  ·by_cases hb:b=a
   ·have z':=(if_pos hb).symm.trans z
    cases z'
    subst hb
    exact⟨ha,by rw[List.length_map];exact hl,vs,_,rv,ha⟩
   ·have z':=(if_neg hb).symm.trans z
    cases z'
  ·by_cases hb:b=a
   ·exact hb
   ·exact absurd (if_neg hb) z
end L2
namespace L2
open PySem PySem.Spec PyProof.Rows
theorem zPK {l:PySem.W.OpenLaw}{n k:Nat}{q:Program}{loose:List Str}{XP:(Str->Option Value)->Heap->Prop}{YP:World->Heap->Prop}{d:DefRec}{K:Params->PySem.W.Frag}{CX:World->CXT}{sp:World->Sp}{x:Str}
  (hn:l.most=some n) (hn2:n <= sizeLine) (hdf:d.params.defaults=[]) (hr:jL k callerA)
  (hY:∀ (w:World) (h:Heap),YP w h->(K w.params).In h)
  (F:∀ (w:World) (mg:Str->Option Value) (fa:Addr) (h:Heap),(K w.params).In h->h.Ns mainGlobals mg->mg d.name=some (.ref fa) ->
   ∃ fd:FuncData,(∀ (s:Shared) (u:Value),BindsTo s fd ⟨[u],[]⟩ [(x,u)])/\fd.scope.names.lookup x=some .local /\
    ∀ base:Heap,(K w.params).In base->base.Ns mainGlobals mg->jU l.prog w (K w.params) mg base (CX w) k fa fd [x] (sp w))
  (hsp:∀ (w:World) (H:Hp) (a:Addr) (ns:List Int),ns.length <= n->zIJ H->SqL (K w.params) H a (ns.map V.int)->sp w [.ref a] H (fun v _=>v=.bl true) fun _ _ _=>False)
  (hCX:∀ (w:World) (H:Hp) (s:Shared) (e:Value) (s':Shared),CX w [] H s (fun _ _ _=>False) e s'->False) :
  PySem.W.WalkO q loose XP YP l.row.toRowW d [] (fun f vs=>PySem.call f vs):=by
 refine Att.zIR hn hdf fun w s₀ s₁ mg mb fa o pm cd doc a vs ns G Y ho hd hcd hmg hobj hints hlen hg=>?_
 have KX:=hY w _ Y
 obtain⟨fd,hb,hT,hF⟩:=F w mg fa _ KX G.T.g hmg
 exact zNi KX G.T.g G.T.b G.T.builtins G.T.nolimit hg hobj hints (Nat.le_trans hlen hn2) hr hF hT hb (fun H hO hS=>hsp w H a ns hlen hO hS) fun H e s'=>hCX w H s₁ e s'
end L2
namespace L2
open PySem PySem.Spec PyProof.Rows
noncomputable def yJ (s:Stmt) (j:Nat):Stmt:=match s with
 | .ClassDef _ _ _ body _ _ _ _ _ _ _=>body.getD j (.Pass ⟨0,0,0,0⟩)
 | _=>.Pass ⟨0,0,0,0⟩
noncomputable def jF (s:Stmt):Arguments:=match s with
 | .FunctionDef _ a _ _ _ _ _ _ _ _=>a
 | _=>{ posonlyargs:=[],args:=[],vararg:=none,kwonlyargs:=[],kw_defaults:=[],kwarg:=none,defaults:=[] }
noncomputable def zi (s:Stmt):List Stmt:=match s with
 | .FunctionDef _ _ b _ _ _ _ _ _ _=>b
 | _=>[]
noncomputable def zK (s:Stmt):Scope:=match s with
 | .FunctionDef _ _ _ _ _ _ sc _ _ _=>sc
 | _=>{ kind:=.function,names:=[],isGenerator:=false,isCoroutine:=false }
noncomputable abbrev CX0:CXT:=fun _ _ _ _ _ _=>False
noncomputable abbrev E0:XK:=fun _ _ _=>False
theorem zAk {X:Cx}:ya CX0 X E0:=fun _ _ _ _ _ _ _ h=>h.elim
structure Fun (K:PySem.W.Frag) (x qual:Str) (st:Stmt) (f:Addr) (fd:FuncData):Prop where
 ex:∃ (oc:Value) (od:Option Addr) (kV doc pm:Value) (an:Option Addr) (cdv ct:Value) (osl:Array (Option Value)),
  fd=PySem.W.fnOf x qual (jF st) (zi st) (zK st) .none kV doc pm an cdv ct/\K.lookup f=some ⟨oc,od,.func fd,osl⟩/\PySem.W.codeIn K cdv qual=true
 kp:PySem.W.keepIn K (.ref f)=true
section
variable {P:Program}{w:World}{K:PySem.W.Frag}{mg:Str->Option Value}{base:Heap}
theorem Fun.ok {x qual:Str}{st:Stmt}{f:Addr}{fd:FuncData}{N ps:List Str}{k:Nat}{sp:Sp} (F:Fun K x qual st f fd) (S:zy N ps (zK st)) (len:∀ vs H Q E,sp vs H Q E->vs.length=ps.length)
  (hbody:∀ (cdv:Value) (A:Around) (outer:List Env) (s:Shared) (H:Hp) (vs:List V) (Q:VK) (E:XK),jL k (A.deeper (envOfC qual (zK st) s.heap.objs.size f cdv))->sp vs H Q E ->
   ∃ t,PSs (zBB CX0 P w K mg base N qual (zK st) f cdv A outer s H E).nox (zi st) t/\t { nx:=fun _ H'=>Q .non H',rt:=Q } (Ja N vs) H):jU P w K mg base CX0 (k+1) f fd ps sp:=by
 obtain⟨oc,od,kV,doc,pm,an,cdv,ct,osl,rfl,lk,hcd⟩:=F.ex
 refine zRo lk hcd S len fun A outer s H vs Q E hr hsp=>?_
 obtain⟨t,h,q⟩:=hbody cdv A outer s H vs Q E hr hsp
 exact⟨t,h.nox,q⟩
theorem Fun.binds {x qual:Str}{st:Stmt}{f:Addr}{fd:FuncData}{ps:List Str} (F:Fun K x qual st f fd)
  (h:∀ (kV doc pm:Value) (an:Option Addr) (cdv ct:Value) (us:List Value),us.length=ps.length->bindArgs (PySem.W.fnOf x qual (jF st) (zi st) (zK st) .none kV doc pm an cdv ct) ⟨us,[]⟩=pure (ps.zip us)):Qp K fd ps []:=by
 obtain⟨oc,od,kV,doc,pm,an,cdv,ct,osl,rfl,lk,hcd⟩:=F.ex
 exact .all (h kV doc pm an cdv ct)
theorem jh {x qual:Str}{st:Stmt}{f:Addr}{oc:Value}{od an:Option Addr}{osl:Array (Option Value)}{kV doc pm cdv ct:Value} (l:K.lookup f=some ⟨oc,od,.func (PySem.W.fnOf x qual (jF st) (zi st) (zK st) .none kV doc pm an cdv ct),osl⟩)
  (c:PySem.W.codeIn K cdv qual=true) (k:PySem.W.keepIn K (.ref f)=true):Fun K x qual st f (PySem.W.fnOf x qual (jF st) (zi st) (zK st) .none kV doc pm an cdv ct):=⟨⟨oc,od,kV,doc,pm,an,cdv,ct,osl,rfl,l,c⟩,k⟩
end
theorem zKN {A:Around}{k:Nat} (hr:jL k A):A.units+1 < cLine:=Nat.lt_of_le_of_lt (Nat.add_le_add_left (by decide:1 <= 64) _) hr.units
theorem zCV {A B:Prop} (h:B):if false=true then A else B:=by
 rw[if_neg Bool.false_ne_true]
 exact h
theorem zCU {A B:Prop} (h:A):if true=true then A else B:=by
 rw[if_pos rfl]
 exact h
end L2
namespace L2
open PySem PySem.Spec PyProof.Rows
section
variable {X:Cx}
theorem zLa:j9 X (.builtin "len") (fun xs H Q=>∃ a kvs,xs=[V.ref a]/\H a=some (.dK kvs)/\Q (.int kvs.length) H):=by
 intro pins s σ H xs us Q I r h
 obtain⟨a,kvs,rfl,ha,q⟩:=h
 obtain⟨u,rfl,ru⟩:=QV r
 cases ru
 exact zRc I (.inl ha) fun t s' I'=>⟨.int kvs.length,H,I',⟨t,rfl⟩,q⟩
end
end L2
set_option maxHeartbeats 4000000
namespace L2
open PySem PySem.Spec PyProof.Rows
noncomputable abbrev zw (X:Cx) (vars:List Str) (scope:Scope) (cl:List (Str×Addr)) (C:Addr) (fp:List Addr) (s₂:Shared) (H₂:Hp):Cx where
 prog:=X.prog
 w:=X.w
 K:=X.K
 mg:=X.mg
 base:=X.base
 A:=X.A
 N:=X.N++vars
 s₀:=s₂
 H₀:=H₂
 env:=compEnvC scope cl C X.env
 outer:=X.stack
 stack:=X.stack
 ex:=fp
 fn:=fun _=>false
 calm:=X.calm
 pn:=[]
 xe:=fun _ _=>False
noncomputable def zBt (cells:List (Str×Addr)):List (Str×Addr)->Prop
 | []=>True
 | p::r=>cells.lookup p.1=some p.2/\zBt cells r
theorem zBt.get {cells:List (Str×Addr)}:∀ {cl:List (Str×Addr)}{x:Str}{c:Addr},zBt cells cl->cl.lookup x=some c->cells.lookup x=some c
 | [],_,_,_,e=>by simp at e
 | (y,d)::r,x,c,h,e=>by
  cases hx:x == y with
  | true =>
   simp only[List.lookup_cons,hx] at e
   have e1:x=y:=eq_of_beq hx
   subst e1
   rw[<- e]
   exact h.1
  | false =>
   simp only[List.lookup_cons,hx] at e
   exact zBt.get h.2 e
noncomputable def okK (on:List (Str×NameKind)) (vars:List Str) (cl:List (Str×Addr)) (x:Str):NameKind->Bool
 | .local=>x == (".0" : Str) || vars.contains x
 | .cell=>false
 | .free=>(cl.lookup x).isSome && (on.lookup x == some .cell || on.lookup x == some .free)
 | _=>true
structure jp (X:Cx) (vars:List Str) (scope:Scope) (cl:List (Str×Addr)):Prop where
 kind:scope.kind=.function
 clos:closureFor scope X.env=pure cl
 dis:(vars.all fun x=>!X.N.contains x)=true
 zero:X.N.contains (".0" : Str)=false
 names:∀ y∈scope.names,y.2=.local->scope.names.lookup y.1=some .local
 cells:zBt X.env.cells cl
 ok:(scope.names.all fun p=>okK X.env.scope.names vars cl p.1 p.2)=true
theorem J6 {env:Env}{x:Str}:∀ {names:List (Str×NameKind)},
  (names.map fun (n,k)=>if (k == NameKind.free && env.scope.kind == .function && env.kindOf n == some .cell) then (n,NameKind.cell) else (n,k)).lookup x =
   (names.lookup x).map fun k=>if (k == NameKind.free && env.scope.kind == .function && env.kindOf x == some .cell) then NameKind.cell else k
 | []=>rfl
 | (n,k)::r=>by
  have ih:=@J6 env x r
  show List.lookup x ((if (k == NameKind.free && env.scope.kind == .function && env.kindOf n == some .cell)=true then (n,NameKind.cell) else (n,k))::_)=_
  cases hx:x == n with
  | true =>
   have e:x=n:=eq_of_beq hx
   subst e
   by_cases hc:(k == NameKind.free && env.scope.kind == .function && env.kindOf x == some .cell)=true
   ·rw[if_pos hc];simp only[List.lookup_cons,hx,Option.map_some,if_pos hc]
   ·rw[if_neg hc];simp only[List.lookup_cons,hx,Option.map_some,if_neg hc]
  | false =>
   by_cases hc:(k == NameKind.free && env.scope.kind == .function && env.kindOf n == some .cell)=true
   ·rw[if_pos hc];simp only[List.lookup_cons,hx];exact ih
   ·rw[if_neg hc];simp only[List.lookup_cons,hx];exact ih
section
variable {X:Cx}{vars:List Str}{scope:Scope}{cl:List (Str×Addr)}{C D:Addr}{fp:List Addr}{s₂:Shared}{H:Hp}{pins:List (Addr×Obj)}{σ:St}
theorem jp.okAt (S:jp X vars scope cl) {x:Str}{k:NameKind} (h:scope.names.lookup x=some k):okK X.env.scope.names vars cl x k=true:=by
 have:=List.all_eq_true.mp S.ok (x,k) (PySem.mem_of_lookup h)
 exact this
theorem jp.noCell (S:jp X vars scope cl):∀ y∈scope.names,y.2≠.cell:=fun y hy e=>by
 have h:=List.all_eq_true.mp S.ok y hy
 rw[e] at h
 exact absurd (show false=true from h) Bool.false_ne_true
theorem jp.freeOf (S:jp X vars scope cl) {x:Str} (h:(compEnvC scope cl C X.env).kindOf x=some .cell\/(compEnvC scope cl C X.env).kindOf x=some .free):scope.names.lookup x=some .free:=by
 have e:(compEnvC scope cl C X.env).kindOf x=(scope.names.lookup x).map fun k=>if (k == NameKind.free && X.env.scope.kind == .function && X.env.kindOf x == some .cell) then NameKind.cell else k:=J6
 rw[e] at h
 cases q:scope.names.lookup x with
 | none=>rw[q] at h;simp at h
 | some k =>
  rw[q] at h
  by_cases hk:k=.free
  ·rw[hk]
  ·have hb:(k == NameKind.free)=false:=by simpa using hk
   simp only[Option.map_some,hb,Bool.false_and,Bool.false_eq_true,if_false,Option.some.injEq] at h
   rcases h with h | h
   ·subst h
    exact absurd rfl (S.noCell (x,.cell) (PySem.mem_of_lookup q))
   ·exact absurd h hk
theorem jp.localOf (S:jp X vars scope cl) {x:Str} (h:(compEnvC scope cl C X.env).kindOf x=some .local):scope.names.lookup x=some .local:=by
 have e:(compEnvC scope cl C X.env).kindOf x=(scope.names.lookup x).map fun k=>if (k == NameKind.free && X.env.scope.kind == .function && X.env.kindOf x == some .cell) then NameKind.cell else k:=J6
 rw[e] at h
 cases q:scope.names.lookup x with
 | none=>rw[q] at h;simp at h
 | some k =>
  rw[q] at h
  simp only[Option.map_some,Option.some.injEq] at h
  split at h
  ·cases h
  ·rw[h]
theorem zJt (I:Inv X pins σ H s₂) (S:jp X vars scope cl) (hf:∀ b∈fp,zCn X pins H b) (hob:∀ b∈fp,∃ o,s₂.heap.get? b=some o)
  {h₁:Heap}{tk:Nat} (hD:s₂.heap.objs.size <= D) (hC:s₂.heap.objs.size <= C) (hDC:D≠C) {oD:Obj} (eD:h₁.get? D=some oD) (cD:∀ v,oD.data≠.cell v) {m:Str->Option Value} (hn:h₁.Ns C m)
  (old:∀ b o,s₂.heap.get? b=some o->h₁.get? b=some o) (ht:0 < tk:=by first | exact Nat.succ_pos _ | assumption | exact Inv.tk (by assumption) | omega) :
  Inv (zw X vars scope cl C fp s₂ H) [(D,oD)] (σ++List.replicate vars.length none) H { s₂ with heap:=h₁,toks:=tk }:=by
 have fpst:∀ b∈fp,b∉frs X.stack:=fun b hb z=>by
  rcases List.mem_cons.mp (I.stkSub b z) with e | e
  ·exact (hf b hb).2.1 e
  ·exact (hf b hb).2.2.1 e
 have cget:∀ x c,cl.lookup x=some c->X.env.cells.lookup x=some c:=fun x c e=>S.cells.get e
 have fpl:∀ b∈fp,b < s₂.heap.objs.size:=fun b hb=>by
  obtain⟨o,e⟩:=hob b hb
  exact Heap.lt_size e
 have ok:(zw X vars scope cl C fp s₂ H).Ok:=by
  refine⟨I.ok.mod,S.kind,I.ok.glob,I.ok.blt,hC,fun x y c h1 h2=>I.ok.inj x y c (cget x c h1) (cget y c h2),fun x hx=>?_,fun x c h _=>absurd (show false=true from h) Bool.false_ne_true,I.ok.hd,I.ok.frames,.inl rfl,
   fun b hb=>⟨Nat.ne_of_lt (Nat.lt_of_lt_of_le (fpl b hb) hC),fun x c e z=>(hf b hb).2.2.2.2.1 x c (cget x c e) z⟩,I.bs,Nat.le_trans I.ok.bsz I.sz,fun b o e hb=>?_,fpst,I.stack,I.stkFree⟩
  ·have q:=S.okAt (S.freeOf (C:=C) hx)
   have q1:((cl.lookup x).isSome && (X.env.scope.names.lookup x == some .cell || X.env.scope.names.lookup x == some .free))=true:=q
   rw[Bool.and_eq_true] at q1
   exact Option.isSome_iff_exists.mp q1.1
  ·rcases (hf b hb).2.2.2.1 with z | z
   ·exact I.ok.noex b o e z
   ·exact absurd (Nat.lt_of_lt_of_le (Heap.lt_size e) (Nat.le_trans I.ok.bsz z)) (Nat.lt_irrefl _)
 have nst:D∉frs X.stack:=fun z=>by
  rcases List.mem_cons.mp (I.stkSub D z) with e | e
  ·exact absurd (Nat.lt_of_lt_of_le (e ▸ I.lt) hD) (Nat.lt_irrefl _)
  ·exact I.nofs hD e
 refine⟨ok,rfl,I.bare,Un.kept old,⟨m,hn,fun i x v h1 h2 h3=>?_⟩,fun x c e=>?_,I.hok.fresh hC,fun x c e=>I.freeC x c (cget x c e),fun p hp=>?_,I.hok.kept old,?_,ht⟩
 ·have hlen:=I.len
  have h1':(X.N++vars)[i]? = some x:=h1
  by_cases hi:i < σ.length
  ·rw[List.getElem?_append_left (by omega)] at h1'
   rw[List.getElem?_append_left hi] at h2
   have inN:X.N.contains x=true:=by
    rw[List.contains_iff_exists_mem_beq]
    exact⟨x,List.mem_of_getElem? h1',by simp⟩
   have hk:(compEnvC scope cl C X.env).kindOf x=some .cell\/(compEnvC scope cl C X.env).kindOf x=some .free:=by
    rcases h3 with h3 | h3
    ·have q:=S.okAt (S.localOf (C:=C) h3)
     have q1:(x == (".0" : Str) || vars.contains x)=true:=q
     rw[Bool.or_eq_true] at q1
     rcases q1 with q1 | q1
     ·have e0:x=(".0" : Str):=eq_of_beq q1
      rw[e0,S.zero] at inN
      cases inN
     ·have q2:=List.all_eq_true.mp S.dis x (by simpa using q1)
      rw[inN] at q2
      cases q2
    ·exact h3
   have q:=S.okAt (S.freeOf (C:=C) hk)
   have q1:((cl.lookup x).isSome && (X.env.scope.names.lookup x == some .cell || X.env.scope.names.lookup x == some .free))=true:=q
   rw[Bool.and_eq_true,Bool.or_eq_true] at q1
   obtain⟨c,hc⟩:=Option.isSome_iff_exists.mp q1.1
   have ho:X.env.scope.names.lookup x=some .cell\/X.env.scope.names.lookup x=some .free:=by
    rcases q1.2 with z | z
    ·exact .inl (eq_of_beq z)
    ·exact .inr (eq_of_beq z)
   obtain⟨m0,_,hl⟩:=I.loc
   obtain⟨u,r,l⟩:=hl i x v h1' h2 (.inr ho)
   refine⟨u,r,.inr ⟨hk,c,hc,?_⟩⟩
   rcases l with ⟨l1,_⟩ | ⟨_,c',e',o,eo,ed⟩
   ·have l2:X.env.scope.names.lookup x=some .local:=l1
    rcases ho with z | z
    ·rw[l2] at z;cases z
    ·rw[l2] at z;cases z
   ·rw[cget x c hc] at e'
    cases e'
    exact⟨o,old _ _ eo,ed⟩
  ·rw[List.getElem?_append_right (by omega),List.getElem?_replicate] at h2
   split at h2<;>cases h2
 ·obtain⟨v,o,eo,ed⟩:=I.cell x c (cget x c e)
  exact⟨v,o,old _ _ eo,ed⟩
 ·have e:p=(D,oD):=by simpa using hp
  subst e
  exact⟨eD,I.hok.fresh hD,hDC,nst,cD⟩
 ·show (σ++List.replicate vars.length none).length=(X.N++vars).length
  rw[List.length_append,List.length_append,List.length_replicate,I.len]
end
noncomputable def Jb (X:Cx) (ifs:List Expr) (t:TT):Prop :=
 ∀ (pins:List (Addr×Obj)) (s:Shared) (σ:St) (H:Hp) (Q:Bool->Hp->Prop),Inv X pins σ H s->t σ H Q ->
  wpAny (model X.prog X.w) X.A (forIn ifs true fun c r=>if r=true then do let ok <- isTrue c X.env (eval c X.env);pure (ForInStep.yield ok) else pure (ForInStep.yield r)) (TP X pins σ Q) X.xe s
noncomputable def Qy:TT:=fun _ H Q=>Q true H
theorem zME {X:Cx}:Jb X [] Qy:=fun _ _ _ H _ I h=>wpAny_tests_nil ⟨H,I,h⟩
theorem zNf {X:Cx}{c:Expr}{t:TT} (h:PT X c t):Jb X [c] t:=fun pins s σ H Q I hw=>wpAny_tests_one (h pins s σ H Q I hw)
noncomputable def Wk (σ σ':St):Prop:=σ.length=σ'.length/\∀ (i:Nat) v,σ[i]? = some (some v)->σ'[i]? = some (some v)
noncomputable def zG1 (n:Nat) (wi:TI) (g:TG) (ti:TT) (te:TE):TE:=fun σ H Q=>wi σ H fun J H1=>∃ W:Nat->Nat->List V->Hp->Prop,(∃ m,W 0 m [] H1)/\∀ i m ys H2,W i m ys H2->ys.length <= sizeLine /\
 ((J.stop i H2/\∀ D,H2 D=none->Q (.ref D) (upd H2 D (.lst ys))) \/
  (J.go i H2/\∀ x H3,J.yld i H2 x H3->g x (σ++List.replicate n none) H3 fun σ2 H4=>Wk (σ++List.replicate n none) σ2/\ti σ2 H4 fun b H5 =>
   if b=true then te σ2 H5 fun y H6=>∃ m',m' < m/\W (i+1) m' (ys++[y]) H6 else ∃ m',m' < m/\W (i+1) m' ys H5))
theorem Inv.track {X:Cx}{pins:List (Addr×Obj)}{σ:St}{H:Hp}{s:Shared}{D:Addr}{o:HO} (I:Inv X pins σ H s) (hD:X.s₀.heap.objs.size <= D) (hn:H D=none) (hL:D≠X.env.locals)
  (hcl:∀ x c,X.env.cells.lookup x=some c->c≠D) (hp:∀ p∈X.pn++pins,p.1≠D) (new:qN X.prog X.w (upd H D o) s.heap D o):Inv X pins σ (upd H D o) s:=by
 have ne:∀ {b u},H b=some u->b≠D:=fun e z=>by rw[z,hn] at e;cases e
 refine⟨I.ok,I.os,I.bare,⟨I.base.keep,I.base.slot,fun b ob e n hx=>?_,I.base.there,fun b xs e=>?_,fun b ob u e=>?_,fun b ps e=>?_⟩,I.loc,I.cell,?_,fun x c e=>?_,fun p hp'=>?_,fun b u e=>?_,I.len,I.tk⟩
 ·rw[jP (Nat.ne_of_lt (Nat.lt_of_lt_of_le (Heap.lt_size e) hD))]
  exact I.base.free b ob e n hx
 ·have q:=I.base.tups b xs e
  rw[jP (ne q)];exact q
 ·have q:=I.base.frzs b ob u e
  rw[jP (ne q)];exact q
 ·obtain⟨mo,q⟩:=I.base.tbls b ps e
  exact⟨mo,by rw[jP (ne q)];exact q⟩
 ·rw[jP (Ne.symm hL)];exact I.free
 ·rw[jP (hcl x c e)];exact I.freeC x c e
 ·obtain⟨e1,e2,e3,e4,e5⟩:=I.pin p hp'
  exact⟨e1,by rw[jP (hp p hp')];exact e2,e3,e4,e5⟩
 ·by_cases hb:b=D
  ·subst hb;rw[qD] at e;cases e;exact new
  ·rw[jP hb] at e
   exact (I.hok b u e).stay (fun _ _ _ q=>q) (fun c q=>by rw[jP (ne q)];exact q) fun c xs q=>by rw[jP (ne q)];exact q
noncomputable abbrev zCe (us:List Value) (n:Nat):Obj:={ cls:=.type "list",data:=.seq us.toArray n }
section
variable {X:Cx}{vars:List Str}{scope:Scope}{cl:List (Str×Addr)}{C D it:Addr}{fp:List Addr}{s₂:Shared}{H₂:Hp}{tg elt iter:Expr}{ifs:List Expr}{pos:Pos}{J:It}{tn:Nat->Heap->Prop}
 {g:TG}{ti:TT}{te:TE}{R:Result->Shared->Prop}
theorem zL1 (hc:X.calm=true) (T:zDS X.prog X.w X.K tg J fp it tn) (hg:PG (zw X vars scope cl C fp s₂ H₂) tg g) (hi:Jb (zw X vars scope cl C fp s₂ H₂) ifs ti) (he:PE (zw X vars scope cl C fp s₂ H₂) elt te)
  {σ0:St} (W:Nat->Nat->List V->Hp->Prop) {F:List V->Hp->Prop} (hD0:s₂.heap.objs.size <= D) (hDC:D≠C) (hDs:D∉frs X.stack) (hDc:∀ x c,cl.lookup x=some c->c≠D)
  (hS:∀ b∈fp,b≠C/\b∉frs X.stack/\(∀ x c,cl.lookup x=some c->c≠b)/\D≠b)
  (turn:∀ i m ys H2,W i m ys H2->ys.length <= sizeLine/\((J.stop i H2/\F ys H2) \/
   (J.go i H2/\∀ x H3,J.yld i H2 x H3->g x σ0 H3 fun σ2 H4=>Wk σ0 σ2/\ti σ2 H4 fun b H5 =>
    if b=true then te σ2 H5 fun y H6=>∃ m',m' < m/\W (i+1) m' (ys++[y]) H6 else ∃ m',m' < m/\W (i+1) m' ys H5)))
  (hR:∀ s' ys us n H2,Inv (zw X vars scope cl C fp s₂ H₂) [(D,zCe us n)] σ0 H2 s'->zU ys us->ys.length <= sizeLine->F ys H2->R (.ok .next) s')
  {s:Shared}{m0:Nat}{n0:Nat}{H0:Hp} (I0:Inv (zw X vars scope cl C fp s₂ H₂) [(D,zCe [] n0)] σ0 H0 s) (st0:tn 0 s.heap) (f0:∀ b∈fp,H0 b=none) (w0:W 0 m0 [] H0) :
  codeAny (model X.prog X.w) X.A (.compLoop (.ListComp elt [⟨tg,iter,ifs,0⟩] scope pos) 0 (.ref it) (.ref D) (compEnvC scope cl C X.env)) R s:=by
 have stat:∀ {H':Hp}{o:Obj},(∀ b∈fp,H' b=none)->∀ b∈fp,zCn (zw X vars scope cl C fp s₂ H₂) [(D,o)] H' b:=fun {H' o} hn b hb =>
  ⟨hn b hb,(hS b hb).1,(hS b hb).2.1,.inl hb,(hS b hb).2.2.1,fun p hp=>by
   have e:p=(D,o):=by simpa using hp
   subst e
   exact (hS b hb).2.2.2⟩
 refine codeAny_loop rfl (fun n s=>∃ i ys us nn H',Inv (zw X vars scope cl C fp s₂ H₂) [(D,zCe us nn)] σ0 H' s/\zU ys us/\tn i s.heap/\(∀ b∈fp,H' b=none)/\W i n ys H') (fun n s hI=>?_) m0 ⟨0,[],[],n0,H0,I0,.nil,st0,f0,w0⟩
 show wpAny _ X.A ((compTurn (.ListComp elt [⟨tg,iter,ifs,0⟩] scope pos) 0 (.ref it) (.ref D) (compEnvC scope cl C X.env)).onRaise (fun x=>do noteFrame x (compEnvC scope cl C X.env);theTreesLotGoes x)) _ _ s
 refine wpAny_noted ?_
 rw[compTurn_list]
 obtain⟨i,ys,us,nn,H',I,rv,st,fr,w⟩:=hI
 obtain⟨hz,tt⟩:=turn i n ys H' w
 refine wpAny_bind (wpAny_standAt (wpAny_bind ?_))
 rcases tt with ⟨stop,q⟩ | ⟨go,q⟩
 ·refine wpAny_mono (T.done (zw X vars scope cl C fp s₂ H₂) rfl rfl rfl hc i _ s σ0 H' _ I (stat fr) st stop) (fun r s1 ⟨hr,I1⟩=>?_) (fun _ _ e=>e)
  subst hr
  exact wpAny_pure (hR s1 ys us nn H' I1 rv hz q)
 ·refine wpAny_mono (T.item (zw X vars scope cl C fp s₂ H₂) rfl rfl rfl hc i _ s σ0 H' _ I (stat fr) st go) (fun r s1 ⟨u,hr,h1⟩=>?_) (fun _ _ e=>e)
  subst hr
  refine wpAny_bind (wpAny_mono h1 (fun _ s2 ⟨x,H3,I3,r3,y3,st3,fr3⟩=>?_) (fun _ _ e=>e))
  have I3':=I3.pinned (stat fr3) (T.obj _ _ st3)
  refine wpAny_bind (wpAny_mono (hg _ s2 σ0 H3 x u _ I3' r3 (q x H3 y3)) (fun _ s3 ⟨σ4,H4,I4,wk,q4⟩=>?_) (fun _ _ f=>False.elim f))
  refine wpAny_bind (wpAny_mono (hi _ s3 σ4 H4 _ I4 q4) (fun b s4 ⟨H5,I5,q5⟩=>?_) (fun _ _ f=>False.elim f))
  have back:∀ {s7:Shared}{H7:Hp}{o:Obj},Inv (zw X vars scope cl C fp s₂ H₂) ((D,o)::Qo fp s2.heap) σ4 H7 s7->tn (i+1) s7.heap/\∀ b∈fp,H7 b=none:=fun {s7 H7 o} I7=>by
   refine⟨T.keep _ _ _ st3 fun b hb ob e=>(I7.pin (b,ob) (List.mem_append_right _ (List.mem_cons_of_mem _ (zAp hb e)))).1,fun b hb=>?_⟩
   obtain⟨ob,e,d⟩:=T.obj _ _ st3 b hb
   exact (I7.pin (b,ob) (List.mem_append_right _ (List.mem_cons_of_mem _ (zAp hb e)))).2.1
  have one:∀ {s7:Shared}{H7:Hp}{o:Obj},Inv (zw X vars scope cl C fp s₂ H₂) ((D,o)::Qo fp s2.heap) σ4 H7 s7->Inv (zw X vars scope cl C fp s₂ H₂) [(D,o)] σ0 H7 s7:=fun {s7 H7 o} I7 =>
   (I7.pins_of (pins':=[(D,o)]) fun p hp=>by
    have e:p=(D,o):=by simpa using hp
    subst e
    exact I7.pin (D,o) (List.mem_append_right _ List.mem_cons_self)).weak wk.1 wk.2
  cases b with
  | false =>
   obtain⟨m',hm,w'⟩:=q5
   obtain⟨b1,b2⟩:=back I5
   exact wpAny_pure ⟨rfl,m',hm,i+1,ys,us,nn,H5,one I5,rv,b1,b2,w'⟩
  | true =>
   refine wpAny_bind (wpAny_bind (wpAny_mono (he _ s4 σ4 H5 _ I5 q5) (fun v s5 ⟨y,H6,I6,r6,q6⟩=>?_) (fun _ _ f=>False.elim f)))
   obtain⟨m',hm,w'⟩:=q6
   obtain⟨eD,nD,_,_,_⟩:=I6.pin (D,zCe us nn) (List.mem_append_right _ List.mem_cons_self)
   have hul:us.toArray.size <= sizeLine:=by rw[List.size_toArray,<- rv.length];exact hz
   refine wpAny_bind (wpAny_list_append_plain (hsz:=hul) ⟨nn,eD⟩ fun h' hp hs=>wpAny_pure (wpAny_pure ⟨rfl,?_⟩))
   obtain⟨n',hp⟩:=hp
   have hp':h'.get? D=some (zCe (us++[v]) n'):=by rw[hp];simp
   have I7:Inv (zw X vars scope cl C fp s₂ H₂) (Qo fp s2.heap) σ4 H6 { s5 with heap:=h',toks:=s5.toks }:=by
    refine Inv.turned (it:=D) (I6.pins_of (pins':=Qo fp s2.heap) fun p hp=>I6.pin p (List.mem_append_right _ (List.mem_cons_of_mem _ hp))) (fun b o hb e=>(hs.2 b hb).trans e) nD hDC (.inr hD0) (fun x c e=>hDc x c e) fun p hp=>?_
    have hp2:p∈Qo fp s2.heap:=by simpa using hp
    exact Ne.symm (hS p.1 (zF9 hp2).1).2.2.2
   have I8:Inv (zw X vars scope cl C fp s₂ H₂) ((D,zCe (us++[v]) n')::Qo fp s2.heap) σ4 H6 { s5 with heap:=h',toks:=s5.toks }:=I7.pins_of fun p hp=>by
    rcases List.mem_cons.mp hp with rfl | hp
    ·exact⟨hp',nD,hDC,hDs,fun v z=>by cases z⟩
    ·exact I7.pin p (List.mem_append_right _ hp)
   obtain⟨b1,b2⟩:=back I8
   exact⟨m',hm,i+1,ys++[y],us++[v],n',H6,one I8,rv.append (.cons r6 .nil),b1,b2,w'⟩
end
section
variable {X:Cx}{vars:List Str}{scope:Scope}{cl:List (Str×Addr)}{tg elt iter:Expr}{ifs:List Expr}{pos:Pos}{wi:TI}{g:TG}{ti:TT}{te:TE}
theorem zE1 (hc:X.calm=true) (S:jp X vars scope cl) (hg:∀ C fp s₂ H₂,PG (zw X vars scope cl C fp s₂ H₂) tg g) (ht:∀ C fp s₂ H₂,Jb (zw X vars scope cl C fp s₂ H₂) ifs ti)
  (he:∀ C fp s₂ H₂,PE (zw X vars scope cl C fp s₂ H₂) elt te) {pins:List (Addr×Obj)}{σ:St}{s2:Shared}{E:Value->Shared->Prop}{F:Addr->Hp->Prop}{RR:Value->Addr->Result->Shared->Prop}{itv:Value}
  (h2:PIE X pins σ tg (fun J H1=>∃ W:Nat->Nat->List V->Hp->Prop,(∃ m,W 0 m [] H1)/\∀ i m ys H2,W i m ys H2->ys.length <= sizeLine /\
   ((J.stop i H2/\∀ D,H2 D=none->F D (upd H2 D (.lst ys))) \/
    (J.go i H2/\∀ x H3,J.yld i H2 x H3->g x (σ++List.replicate vars.length none) H3 fun σ2 H4=>Wk (σ++List.replicate vars.length none) σ2/\ti σ2 H4 fun b H5 =>
     if b=true then te σ2 H5 fun y H6=>∃ m',m' < m/\W (i+1) m' (ys++[y]) H6 else ∃ m',m' < m/\W (i+1) m' ys H5))) itv s2)
  (hRR:∀ D C s' H',(∃ m,s'.heap.Ns C m)->C≠X.env.locals->(∀ x c,X.env.cells.lookup x=some c->c≠C)->Inv X pins σ H' s'->(∀ (h':Heap),Heap.SameBut C s'.heap h'->∀ (s'':Shared),s''={ s' with heap:=h' }->Inv X pins σ H' s'') ->
   (∀ (σ':St) (s3:Shared),Inv X pins σ' H' s3->(∃ a,Heap.SameBut a s'.heap s3.heap/\(a=X.env.locals\/∃ x,X.env.cells.lookup x=some a))->∀ (h':Heap),Heap.SameBut C s3.heap h'->Inv X pins σ' H' { s3 with heap:=h' }) ->
   F D H'->RR (.ref D) C (.ok .next) s') :
  wpAny (model X.prog X.w) X.A (newList []) (fun acc s₃=>wpAny (model X.prog X.w) X.A (newFunctionEnv scope X.env.globals cl [] X.env.qual none .none (some X.env)) (fun cenv s₄ =>
   codeAny (model X.prog X.w) X.A (.compStart (.ListComp elt [⟨tg,iter,ifs,0⟩] scope pos) 0 itv acc { cenv with scope:=relabel scope X.env }) (RR acc cenv.locals) s₄) E s₃) E s2:=by
 obtain⟨it,fp,tn,J,H2,e,I2,T,st2,f2,W,⟨m0,w0⟩,turn⟩:=h2
 subst e
 refine wpAny_newObj_type (wpAny_newFunctionEnv S.noCell (by intro y hy;simp at hy) (fun h₁ hns₁ hsb₁=>?_) S.kind)
 dsimp only at hns₁ hsb₁ ⊢
 generalize hH2:s2.heap.push { cls:=.type "list",dict:=none,data:=.seq ([]:List Value).toArray }=P2 at hns₁ hsb₁ ⊢
 have hC:P2.objs.size=s2.heap.objs.size+1:=by rw[<- hH2,Heap.size_push]
 have hDC:s2.heap.objs.size≠P2.objs.size:=by rw[hC];exact Nat.ne_of_lt (Nat.lt_succ_self _)
 have hCle:s2.heap.objs.size <= P2.objs.size:=by rw[hC];exact Nat.le_succ _
 have below:∀ b,b < s2.heap.objs.size->b≠P2.objs.size/\b≠s2.heap.objs.size:=fun b hb=>⟨by rw[hC];exact Nat.ne_of_lt (Nat.lt_succ_of_lt hb),Nat.ne_of_lt hb⟩
 have old:∀ b o,s2.heap.get? b=some o->h₁.get? b=some o:=fun b o e=>hsb₁.extBut b o (below b (Heap.lt_size e)).1 (Heap.get?_push_of_some _ (hH2 ▸ Heap.get?_push_of_some _ e))
 have hacc:h₁.get? s2.heap.objs.size=some (zCe [] 0):=hsb₁.extBut _ _ hDC (Heap.get?_push_of_some _ (hH2 ▸ Heap.get?_push_size _ rfl))
 have hst₁:tn 0 h₁:=T.keep _ _ _ st2 fun b _ o e=>old b o e
 have hob:∀ b∈fp,∃ o,s2.heap.get? b=some o:=fun b hb=>by
  obtain⟨o,e,_⟩:=T.obj _ _ st2 b hb
  exact⟨o,e⟩
 have fpl:∀ b∈fp,b < s2.heap.objs.size:=fun b hb=>by
  obtain⟨o,e⟩:=hob b hb
  exact Heap.lt_size e
 have cget:∀ x c,cl.lookup x=some c->X.env.cells.lookup x=some c:=fun x c e=>S.cells.get e
 have celt:∀ x c,X.env.cells.lookup x=some c->c < s2.heap.objs.size:=fun x c e=>by
  obtain⟨v,q⟩:=I2.cell x c e
  exact q.lt
 have pint:∀ p∈X.pn++pins,p.1 < s2.heap.objs.size:=fun p hp=>Heap.lt_size (I2.pin p hp).1
 have fpst:∀ b∈fp,b∉frs X.stack:=fun b hb z=>by
  rcases List.mem_cons.mp (I2.stkSub b z) with e | e
  ·exact (f2 b hb).2.1 e
  ·exact (f2 b hb).2.2.1 e
 have nst:s2.heap.objs.size∉frs X.stack:=fun z=>by
  rcases List.mem_cons.mp (I2.stkSub _ z) with e | e
  ·exact absurd (e ▸ I2.lt) (Nat.lt_irrefl _)
  ·exact I2.nofs (Nat.le_refl _) e
 have CL:P2.objs.size≠X.env.locals:=fun z=>absurd (Nat.lt_of_lt_of_le (z ▸ I2.lt) hCle) (Nat.lt_irrefl _)
 have CC:∀ x c,X.env.cells.lookup x=some c->c≠P2.objs.size:=fun x c e=>Nat.ne_of_lt (Nat.lt_of_lt_of_le (celt x c e) hCle)
 have CP:∀ p∈X.pn++pins,p.1≠P2.objs.size:=fun p hp=>Nat.ne_of_lt (Nat.lt_of_lt_of_le (pint p hp) hCle)
 have loop:∀ s₃:Shared,s₃={ s2 with heap:=h₁,toks:=s2.toks+([]:List (Str×Value)).length } ->
   codeAny (model X.prog X.w) X.A (.compLoop (.ListComp elt [⟨tg,iter,ifs,0⟩] scope pos) 0 (.ref it) (.ref s2.heap.objs.size) (compEnvC scope cl P2.objs.size X.env)) (RR (.ref s2.heap.objs.size) P2.objs.size) s₃:=by
  rintro s₃ rfl
  have I0:Inv (zw X vars scope cl P2.objs.size fp s2 H2) [(s2.heap.objs.size,zCe [] 0)] (σ++List.replicate vars.length none) H2 { s2 with heap:=h₁,toks:=s2.toks+([]:List (Str×Value)).length } :=
   zJt I2 S f2 hob (Nat.le_refl _) hCle hDC hacc (fun v z=>by cases z) hns₁ old
  refine zL1 hc T (hg _ _ _ _) (ht _ _ _ _) (he _ _ _ _) (D:=s2.heap.objs.size) W (F:=fun ys H'=>∀ D,H' D=none->F D (upd H' D (.lst ys))) (Nat.le_refl _) hDC nst (fun x c e=>Nat.ne_of_lt (celt x c (cget x c e)))
   (fun b hb=>⟨(below b (fpl b hb)).1,fpst b hb,fun x c e z=>(f2 b hb).2.2.2.2.1 x c (cget x c e) z,Nat.ne_of_gt (fpl b hb)⟩) turn ?_ I0 hst₁ (fun b hb=>(f2 b hb).1) w0
  intro s' ys us n H' I' rv hz q
  obtain⟨eD,nD,_,_,_⟩:=I'.pin (s2.heap.objs.size,zCe us n) (List.mem_append_right _ List.mem_cons_self)
  have J1:Inv X pins σ H' s':=I2.call' I'.os I'.base I'.hok I'.bare (fun b hb=>⟨(f2 b hb).2.2.2.1,(f2 b hb).2.1,(f2 b hb).2.2.2.2.1,(f2 b hb).2.2.2.2.2⟩) I'.tk
  have J2:Inv X pins σ (upd H' s2.heap.objs.size (.lst ys)) s':=J1.track I2.sz nD (fun z=>absurd (z ▸ I2.lt) (Nat.lt_irrefl _)) (fun x c e=>Nat.ne_of_lt (celt x c e)) (fun p hp=>Nat.ne_of_lt (pint p hp)) ⟨hz,us,n,rv,eD⟩
  have nC:upd H' s2.heap.objs.size (.lst ys) P2.objs.size=none:=by
   rw[jP (Ne.symm hDC)]
   exact I'.free
  refine hRR _ _ s' _ ?_ CL CC J2 (fun h' hs s'' e=>?_) (fun σ' s3 I3 _ h' hs=>?_) (q _ nD)
  ·obtain⟨m,hn,_⟩:=I'.loc
   exact⟨m,hn⟩
  ·subst e
   exact J2.turned (t':=s'.toks) (it:=P2.objs.size) (fun b o hb e=>(hs.2 b hb).trans e) nC CL (.inr (Nat.le_trans I2.sz hCle)) CC CP
  ·exact I3.turned (t':=s3.toks) (it:=P2.objs.size) (fun b o hb e=>(hs.2 b hb).trans e) nC CL (.inr (Nat.le_trans I2.sz hCle)) CC CP
 exact codeAny_compStart_list (loop _ rfl) (T.self _ 0 _ _ _ hst₁ (loop _ rfl))
theorem zIv (hc:X.calm=true) (S:jp X vars scope cl) (hi:PI X tg iter wi) (hg:∀ C fp s₂ H₂,PG (zw X vars scope cl C fp s₂ H₂) tg g) (ht:∀ C fp s₂ H₂,Jb (zw X vars scope cl C fp s₂ H₂) ifs ti)
  (he:∀ C fp s₂ H₂,PE (zw X vars scope cl C fp s₂ H₂) elt te) (hs:∀ x,foldedSetIterable iter X.env x=pure x:=by intro _;rfl):PE X (.ListComp elt [⟨tg,iter,ifs,0⟩] scope pos) (zG1 vars.length wi g ti te):=by
 intro pins s σ H Q I h
 rw[eval_ListComp]
 refine wpAny_comprehension_free (use:=none) rfl hs S.clos S.kind S.names (thn (hi pins s σ H _ I h) fun v s1 h1=>thn h1 fun itv s2 h2=>?_)
 refine zE1 hc S hg ht he (F:=fun D H'=>Q (.ref D) H') h2 fun D C s' H' hn hCL hCC J2 J3 _ q=>?_
 obtain⟨m,hn⟩:=hn
 exact⟨m,hn,fun h' hs'=>⟨.ref D,H',J3 h' hs' _ rfl,rfl,q⟩⟩
theorem zKP {i:Nat}{y:Str}{py spos:Pos} (hc:X.calm=true) (S:jp X vars scope cl) (hN:X.N.Nodup) (hiy:X.N[i]? = some y) (hy:Loc X.env.scope y) (hi:PI X tg iter wi)
  (hg:∀ C fp s₂ H₂,PG (zw X vars scope cl C fp s₂ H₂) tg g) (ht:∀ C fp s₂ H₂,Jb (zw X vars scope cl C fp s₂ H₂) ifs ti)
  (he:∀ C fp s₂ H₂,PE (zw X vars scope cl C fp s₂ H₂) elt te) (hs:∀ x,foldedSetIterable iter X.env x=pure x:=by intro _;rfl)
  (hsw:swapsWith (.ListComp elt [⟨tg,iter,ifs,0⟩] scope pos) (some (.Name y py)) spos.line X.env=pure true:=by rfl)
  (hf:X.fn y=true\/X.env.scope.names.lookup y=some .local:=by first | exact .inl rfl | exact .inr rfl | assumption) :
  PS X (.Assign [.Name y py] (.ListComp elt [⟨tg,iter,ifs,0⟩] scope pos) spos) (zM4 (zG1 vars.length wi g ti te) (jW i)):=by
 intro pins s σ H D0 I h
 rw[exec_Assign_Name_used _ _ _ _ hsw]
 refine wpAny_bind (wpAny_standAt (wpAny_bind ?_))
 show wpAny _ X.A (do let _ <- comprehension (.ListComp elt [⟨tg,iter,ifs,0⟩] scope pos) scope X.env _ (newList []) false (eval iter X.env) (some (assign (.Name y py) X.env))) _ _ s
 refine wpAny_bind (wpAny_mono (wpAny_comprehension_free (use:=some (assign (.Name y py) X.env)) (Q:=fun _ s'=>SP X pins D0 .next s') rfl hs S.clos S.kind S.names
  (thn (hi pins s σ H _ I h) fun v s1 h1=>thn h1 fun itv s2 h2=>?_)) (fun _ s' hq=>wpAny_pure (wpAny_pure hq)) fun _ _ e=>e)
 refine zE1 hc S hg ht he (F:=fun D H'=>D0.nx (σ.set i (some (.ref D))) H') h2 fun D C s' H' hn hCL hCC J2 _ J4 q=>?_
 obtain⟨m,hn⟩:=hn
 show wpAny _ X.A (assign (.Name y py) X.env (.ref D)) _ _ _
 refine wpAny_assign_Name (zGC J2 hN hiy hy (v:=.ref D) rfl (fun s3 I3 ⟨a,hsb,ha⟩=>?_) hf)
 have hCa:C≠a:=by
  rcases ha with rfl | ha
  ·exact hCL
  ·exact Ne.symm (hCC y a ha)
 refine⟨m,hn.sameBut hsb hCa,fun h' hs'=>⟨σ.set i (some (.ref D)),H',J4 _ s3 I3 ⟨a,hsb,?_⟩ h' hs',q⟩⟩
 rcases ha with rfl | ha
 ·exact .inl rfl
 ·exact .inr ⟨y,ha⟩
end
end L2
namespace L2
open PySem PySem.Spec PyProof.Rows
noncomputable def Its (z:Str):It:=⟨fun i _=>i < z.length,fun i H x H'=>H'=H/\∃ c,z.cps[i]? = some c/\x=.str ⟨#[c]⟩,fun i _=>z.length <= i⟩
theorem zLx {P:Program}{w:World}{K:PySem.W.Frag}{tg:Expr} (it:Addr) (z:Str) (t:Tok):zDS P w K tg (Its z) [it] it (fun i h=>h.IsStrIter it "str_ascii_iterator" z t i) where
 mem:=by simp
 obj:=fun i h st b hb=>by
  have e:b=it:=by simpa using hb
  subst e
  obtain⟨o,e,c,d⟩:=st
  exact⟨o,e,fun v z=>by rw[d] at z;cases z⟩
 keep:=fun i h h' st k=>let ⟨o,ho,r⟩:=st;⟨o,k it (by simp) o ho,r⟩
 item:=by
  intro X hP hw hK hc i pins s σ H E I hf st hg
  subst hP hw hK
  obtain⟨f0,f1,f2,f3,f4,f5⟩:=hf it (by simp)
  have hlt:i < z.cps.size:=hg
  refine wpAny_pyNext_ascii_item st (c:=z.cps[i]) (by simp[hlt]) fun h' st' sb=>?_
  have I1:Inv X pins σ H { s with heap:=h',toks:=s.toks+1 }:=I.turned (fun b o hb e=>(sb.2 b hb).trans e) f0 f1 f3 f4 f5
  obtain⟨o,e,c,d⟩:=id st'
  exact⟨_,rfl,zDg (s:={ s with heap:=h',toks:=s.toks+1 }) e c d (by decide) ⟨.str ⟨#[z.cps[i]]⟩,H,I1,⟨_,rfl⟩,⟨rfl,z.cps[i],by simp[hlt],rfl⟩,st',fun b hb=>(hf b hb).1⟩⟩
 done:=by
  intro X hP hw hK hc i pins s σ H E I hf st hg
  subst hP hw hK
  obtain⟨f0,f1,f2,f3,f4,f5⟩:=hf it (by simp)
  have hle:z.cps.size <= i:=hg
  exact wpAny_pyNext_ascii_end (I.ok.hd hc) st (by simp[hle]) fun h' eb=>⟨rfl,I.turned (t':=s.toks) (fun b o hb e=>eb b o hb e) f0 f1 f3 f4 f5⟩
 self:=fun _ _ _ _ _ st h=>wpAny_pyIter_striter_ascii st h
theorem zL5 {P:Program}{w:World}{K:PySem.W.Frag}{tg:Expr} (it:Addr) (z:Str) (t:Tok):zDS P w K tg (Its z) [it] it (fun i h=>h.IsStrIter it "str_iterator" z t i) where
 mem:=by simp
 obj:=fun i h st b hb=>by
  have e:b=it:=by simpa using hb
  subst e
  obtain⟨o,e,c,d⟩:=st
  exact⟨o,e,fun v z=>by rw[d] at z;cases z⟩
 keep:=fun i h h' st k=>let ⟨o,ho,r⟩:=st;⟨o,k it (by simp) o ho,r⟩
 item:=by
  intro X hP hw hK hc i pins s σ H E I hf st hg
  subst hP hw hK
  obtain⟨f0,f1,f2,f3,f4,f5⟩:=hf it (by simp)
  have hlt:i < z.cps.size:=hg
  refine wpAny_pyNext_wide_item st (c:=z.cps[i]) (by simp[hlt]) fun h' st' sb=>?_
  have I1:Inv X pins σ H { s with heap:=h',toks:=s.toks+1 }:=I.turned (fun b o hb e=>(sb.2 b hb).trans e) f0 f1 f3 f4 f5
  obtain⟨o,e,c,d⟩:=id st'
  exact⟨_,rfl,zDg (s:={ s with heap:=h',toks:=s.toks+1 }) e c d (by decide) ⟨.str ⟨#[z.cps[i]]⟩,H,I1,⟨_,rfl⟩,⟨rfl,z.cps[i],by simp[hlt],rfl⟩,st',fun b hb=>(hf b hb).1⟩⟩
 done:=by
  intro X hP hw hK hc i pins s σ H E I hf st hg
  subst hP hw hK
  obtain⟨f0,f1,f2,f3,f4,f5⟩:=hf it (by simp)
  have hle:z.cps.size <= i:=hg
  exact wpAny_pyNext_wide_end (I.ok.hd hc) st (by simp[hle]) fun h' eb=>⟨rfl,I.turned (t':=s.toks) (fun b o hb e=>eb b o hb e) f0 f1 f3 f4 f5⟩
 self:=fun _ _ _ _ _ st h=>wpAny_pyIter_striter_wide st h
noncomputable def zSJ (tl:TE):TI:=fun σ H R=>tl σ H fun x H1=>∃ z,x=.str z/\R (Its z) H1
theorem zRP {X:Cx}{tg l:Expr}{tl:TE} (hl:PE X l tl):PI X tg l (zSJ tl):=by
 intro pins s σ H R I h
 refine thn (hl pins s σ H _ I h) fun v s1 ⟨x,H1,I1,r1,q1⟩=>?_
 obtain⟨z,e,q⟩:=q1
 subst e
 obtain⟨t,rfl⟩:=r1
 have fin:∀ b∈[s1.heap.objs.size],zCn X pins H1 b:=fun b hb=>by
  have e:b=s1.heap.objs.size:=by simpa using hb
  subst e
  exact I1.fpOk (Nat.le_refl _) (I1.hok.fresh (Nat.le_refl _))
 cases ha:z.cps.all (· < 128)
 ·refine wpAny_pyIter_wide ha ?_
  exact⟨s1.heap.objs.size,[s1.heap.objs.size],_,Its z,H1,rfl,I1.kept (t':=s1.toks) fun b o e=>Heap.get?_push_of_some _ e,zL5 _ z t,⟨_,Heap.get?_push_size _ rfl,rfl,rfl⟩,fin,q⟩
 ·refine wpAny_pyIter_ascii ha ?_
  exact⟨s1.heap.objs.size,[s1.heap.objs.size],_,Its z,H1,rfl,I1.kept (t':=s1.toks) fun b o e=>Heap.get?_push_of_some _ e,zLx _ z t,⟨_,Heap.get?_push_size _ rfl,rfl,rfl⟩,fin,q⟩
section
variable {X:Cx}
theorem zLA:OpR X (compareOp .LtE) (fun x y H Q=>∃ i j,x=.str i/\y=.str j/\Q (.bl (!decide (j.cps.toList < i.cps.toList))) H):=by
 intro pins s σ H x y v u Q I rx ry h
 obtain⟨i,j,rfl,rfl,q⟩:=h
 obtain⟨t,rfl⟩:=rx
 obtain⟨t',rfl⟩:=ry
 exact PySem.P.le_str (jV I q rfl)
noncomputable def zFk (z:Str) (lo hi:Option Int):Str:=⟨((z.cps.toList.drop (HT.sIx z.length 0 lo)).take (HT.sIx z.length z.length hi - HT.sIx z.length 0 lo)).toArray⟩
theorem zHw (lo hi:Option Int) (n:Nat):Builtin.Str.strSliceIndices lo hi 1 n=(List.range (HT.sIx n n hi - HT.sIx n 0 lo)).map fun k=>HT.sIx n 0 lo+k:=by
 have clip:∀ v:Int,max 0 (min (if v < 0 then v+(n:Int) else v) (n:Int))=((HT.sIx n 0 (some v):Nat):Int)/\max 0 (min (if v < 0 then v+(n:Int) else v) (n:Int))=((HT.sIx n n (some v):Nat):Int):=fun v=>by
  unfold HT.sIx
  by_cases hv:v < 0
  ·simp only[if_pos hv];omega
  ·simp only[if_neg hv];omega
 have key:∀ a b:Nat,sliceRange (a:Int) (b:Int) 1=(List.range (b - a)).map fun k=>a+k:=fun a b=>by
  unfold sliceRange
  have hc:(if (1:Int) > 0 then (if (a:Int) < (b:Int) then ((b:Int) - a+1 - 1) / 1 else 0) else (if (a:Int) > (b:Int) then ((a:Int) - b - 1 - 1) / (-1) else 0)).toNat=b - a:=by
   rw[if_pos (by decide)]
   by_cases h:(a:Int) < (b:Int)
   ·rw[if_pos h,Int.ediv_one];omega
   ·rw[if_neg h];omega
  dsimp only
  rw[hc]
  refine List.map_congr_left fun k _=>?_
  omega
 unfold Builtin.Str.strSliceIndices
 cases lo with
 | none =>
  cases hi with
  | none=>exact key 0 n
  | some v =>
   simp only[show (1:Int) > 0 by decide,if_true]
   rw[(clip v).2]
   exact key 0 _
 | some u =>
  cases hi with
  | none =>
   simp only[show (1:Int) > 0 by decide,if_true]
   rw[(clip u).1]
   exact key _ n
  | some v =>
   simp only[show (1:Int) > 0 by decide,if_true]
   rw[(clip u).1,(clip v).2]
   exact key _ _
theorem zOe {α:Type} (xs:Array α) (a m:Nat):((List.range m).map fun k=>a+k).filterMap (xs[·]?)=(xs.toList.drop a).take m:=by
 rw[List.filterMap_map]
 induction m generalizing a with
 | zero=>simp
 | succ m ih =>
  rw[List.range_succ,List.filterMap_append,ih,List.take_succ]
  congr 1
  simp only[List.filterMap_cons,List.filterMap_nil,Function.comp]
  rw[List.getElem?_drop,Array.getElem?_toList]
  cases xs[a+m]?<;>rfl
theorem zLy (z:Str) (lo hi:Option Int):Txt.slice z lo hi=zFk z lo hi:=by
 have h1:=HT.zHP z.length 0 (Nat.zero_le _) lo
 have h2:=HT.zHP z.length z.length (Nat.le_refl _) hi
 unfold Txt.slice zFk
 rw[zHw,zOe]
 split
 ·rename_i h
  rw[List.length_map,List.length_range] at h
  have h3:HT.sIx z.length z.length hi - HT.sIx z.length 0 lo=z.length:=by
   have h':=(Bool.and_eq_true_iff.mp h).2
   exact eq_of_beq h'
  have e1:HT.sIx z.length 0 lo=0:=by omega
  rw[h3,e1,List.drop_zero]
  have hl:z.cps.toList.length=z.length:=by simp[Str.length]
  rw[List.take_of_length_le (by omega)]
 ·rfl
noncomputable def zSk:V->Option Int->Option Int->Hp->VK->Prop:=fun x lo hi H Q=>∃ z,x=.str z/\z.length <= sizeLine/\Q (.str (zFk z lo hi)) H
theorem zQS:SlR X zSk:=by
 intro pins s σ H x v vl vu lo hi sl Q I rx hs pl pu h
 obtain⟨z,rfl,hz,q⟩:=h
 obtain⟨t,rfl⟩:=rx
 refine⟨"str",_,F.slot_str_getitem.lookup,typeIs_str _ _ _,wpAny_with_toks (n:=1) I.tk ?_⟩
 obtain⟨o,ho,hc,hd⟩:=hs
 have fin:(Txt.slice z lo hi).length <= sizeLine/\∀ t' k,1 <= ({ s with toks:=k }:Shared).toks->EP X pins σ Q (.str (Txt.slice z lo hi) t') { s with toks:=k } :=
  ⟨Nat.le_trans (Txt.slice_le z lo hi) hz,fun t' k hk=>⟨.str (Txt.slice z lo hi),H,I.tok k hk,⟨_,rfl⟩,by rw[zLy];exact q⟩⟩
 cases pl with
 | none =>
  cases pu with
  | none=>exact wpAny_getItem_str_slice (l:=none) (u:=none) (st:=none) ⟨o,ho,hc,hd⟩ rfl (post_val_or_str fin)
  | int j uj=>exact wpAny_getItem_str_slice (l:=none) (u:=some (j,uj)) (st:=none) ⟨o,ho,hc,hd⟩ rfl (post_val_or_str fin)
 | int i ui =>
  cases pu with
  | none=>exact wpAny_getItem_str_slice (l:=some (i,ui)) (u:=none) (st:=none) ⟨o,ho,hc,hd⟩ rfl (post_val_or_str fin)
  | int j uj=>exact wpAny_getItem_str_slice (l:=some (i,ui)) (u:=some (j,uj)) (st:=none) ⟨o,ho,hc,hd⟩ rfl (post_val_or_str fin)
theorem zAn {ys:List Str}:∀ {us:List Value},zU (ys.map V.str) us->StrsAre us ys:=by
 induction ys with
 | nil=>intro us r;rw[List.map_nil] at r;cases r;exact .nil
 | cons y ys ih =>
  intro us r
  rw[List.map_cons] at r
  cases r with
  | cons r1 r2 =>
   obtain⟨t,e⟩:=r1
   subst e
   exact .cons y t (ih r2)
noncomputable def zJW (K:PySem.W.Frag):V->List V->Hp->VK->Prop:=fun x vs H Q=>∃ z p ys,x=.str z/\vs=[.ref p]/\(SqL K H p (ys.map V.str)\/SqT K H p (ys.map V.str))/\(ys.map (·.length)).sum+ys.length * z.length <= 16777216/\Q (.str (Txt.join z ys)) H
theorem zDm:MtR X "str.join" (zJW X.K):=by
 intro pins s σ H x vs v us Q I rx rv h
 obtain⟨z,p,ys,rfl,rfl,hq,hz,q⟩:=h
 obtain⟨t,rfl⟩:=rx
 obtain⟨u,rfl,ru⟩:=QV rv
 cases ru
 rcases hq with hq | hq
 ·obtain⟨its,r,pl,_⟩:=I.list hq
  exact wpAny_with_toks (n:=1) I.tk (join_list pl.isList (by simpa using zAn r) hz fun t' k hk=>⟨.str (Txt.join z ys),H,I.tok k hk,⟨_,rfl⟩,q⟩)
 ·obtain⟨its,r,pl,_⟩:=I.tuple hq
  exact wpAny_with_toks (n:=1) I.tk (join_tuple pl (by simpa using zAn r) hz fun t' k hk=>⟨.str (Txt.join z ys),H,I.tok k hk,⟨_,rfl⟩,q⟩)
theorem zGI:∀ (l:List (Str×Tok)),zU ((l.map (·.1)).map V.str) (strValues l)
 | []=>.nil
 | (x,t)::r=>.cons ⟨t,rfl⟩ (zGI r)
noncomputable def zL2:V->List V->Hp->VK->Prop:=fun x vs H Q=>∃ z y,x=.str z/\vs=[.str y]/\(y.length == 0)=false/\z.length+2 <= sizeLine/\∀ p,H p=none->Q (.ref p) (upd H p (.lst ((Txt.split z y).map V.str)))
end
end L2
namespace L2
open PySem PySem.Spec PyProof.Rows PySem.Builtin.Str
section
variable {X:Cx}
theorem zHf:MtR X "str.split" zL2:=by
 intro pins s σ H x vs v us Q I rx rv h
 obtain⟨z,y,rfl,rfl,hy,hz,q⟩:=h
 obtain⟨t,rfl⟩:=rx
 obtain⟨u,rfl,tu,rfl⟩:=QV rv
 have hn:(partsBetween z (occurrences z y 0 z.length (z.length+1)) y.length).length <= sizeLine:=by
  have e1:=StrLaws.occ_length_le z y 0 z.length (z.length+1)
  rw[length_partsBetween];omega
 have fin:∀ (l:List (Str×Tok)) (k:Nat),l.map (·.1)=Txt.split z y->l.length <= sizeLine->1 <= k->EP X pins σ Q (.ref s.heap.objs.size) { s with heap:=s.heap.push { cls:=.type "list",data:=.seq (strValues l).toArray },toks:=k }:=fun l k e hl hk=>by
  have e2:=zGI l
  rw[e] at e2
  have hz2:((Txt.split z y).map V.str).length <= sizeLine:=by rw[List.length_map,<- e,List.length_map];exact hl
  exact⟨.ref s.heap.objs.size,_,I.lnew e2 hz2 hk,rfl,q _ I.fresh⟩
 refine wpAny_with_toks (n:=1) I.tk ?_
 cases h1:(decide (z.length < y.length) || decide (strKind z < strKind y))
 ·cases hf:(occurrences z y 0 z.length (z.length+1)).isEmpty
  ·refine call_meets F.slot_str_split (typeIs_str _ _ _) F.entry_str_split (F.args_str_split_2 _ _) (meets_str_split_sep z y t tu h1 hy hf (by omega) hn) ?_
   show wants _ _ _ { s with toks:=_,heap:=s.heap.push { cls:=.type "list",data:=.seq (strsFrom s.toks (partsBetween z (occurrences z y 0 z.length (z.length+1)) y.length)).toArray } }
   rw[strsFrom_eq]
   have e3:=(numbered_texts s.toks (partsBetween z (occurrences z y 0 z.length (z.length+1)) y.length))
   refine fin (numbered s.toks _) _ (e3.trans ((if_neg (ne_true_of_eq_false h1)).trans (if_neg (ne_true_of_eq_false hf))).symm) ?_
   have e4:=congrArg List.length e3
   rw[List.length_map] at e4
   rw[e4];exact hn
  ·exact call_meets F.slot_str_split (typeIs_str _ _ _) F.entry_str_split (F.args_str_split_2 _ _) (meets_str_split_not_found z y t tu h1 hy hf)
    (fin [(z,t)] s.toks ((if_neg (ne_true_of_eq_false h1)).trans (if_pos hf)).symm (by show 1 <= sizeLine;decide))
 ·exact call_meets F.slot_str_split (typeIs_str _ _ _) F.entry_str_split (F.args_str_split_2 _ _) (meets_str_split_cannot_occur z y t tu h1)
   (fin [(z,t)] s.toks (if_pos h1).symm (by show 1 <= sizeLine;decide))
theorem zJy:OpR X (binaryOp .Mult) (fun x y H Q=>∃ z n,x=.str z/\y=.int n/\MulOk z n/\Q (.str (Txt.mul z n)) H):=by
 intro pins s σ H x y v u Q I rx ry h
 obtain⟨z,n,rfl,rfl,hm,q⟩:=h
 obtain⟨t,rfl⟩:=rx
 obtain⟨t',rfl⟩:=ry
 exact wpAny_with_toks (n:=1) I.tk (SB.mul hm fun t' k hk=>⟨.str _,H,I.tok k hk,⟨_,rfl⟩,q⟩)
theorem zNl {bs:List Bool}:∀ {us:List Value},zU (bs.map V.bl) us->us=bs.map Value.bool:=by
 induction bs with
 | nil=>intro us r;rw[List.map_nil] at r;cases r;rfl
 | cons b bs ih =>
  intro us r
  rw[List.map_cons] at r
  cases r with
  | cons r1 r2=>rw[ih r2];cases r1;rfl
theorem zFb (bs:List Bool):((List.range bs.length).all fun i=>bs.getD i false)=bs.all id:=by
 induction bs with
 | nil=>rfl
 | cons b bs ih =>
  rw[List.length_cons,List.range_succ_eq_map,List.all_cons,List.all_map,List.all_cons,<- ih]
  rfl
noncomputable def zQf (K:PySem.W.Frag):List V->Hp->VK->Prop:=fun xs H Q=>∃ (p:Addr) (bs:List Bool),xs=[.ref p]/\SqL K H p (bs.map V.bl)/\Q (.bl (bs.all id)) H
theorem zIH (hc:X.calm=true):j9 X (.builtin "all") (zQf X.K):=by
 intro pins s σ H xs us Q I r h
 obtain⟨p,bs,rfl,hq,q⟩:=h
 obtain⟨u,rfl,ru⟩:=QV r
 cases ru
 obtain⟨its,rv,pl,hz⟩:=I.list hq
 have e:=zNl rv
 subst e
 obtain⟨o,ho,ho2⟩:=pl.isList
 have hlt:p < s.heap.objs.size:=Heap.lt_size ho
 refine wpAny_with_toks (n:=1) I.tk (call_all_walk (wpAny_pyIter_list pl.isList ?_))
 refine⟨s.heap.objs.size,_,_,_,_,_,fun i=>bs.getD i false,rfl,Walks.list (show X.A.in1.handled=none from I.ok.hd hc) s.heap.objs.size p (Nat.ne_of_lt hlt) (bs.map Value.bool).toArray,⟨⟨_,Heap.get?_push_size _ rfl,rfl,rfl⟩,pl.isList.push _⟩,?_,fun h' tk hk htk=>?_⟩
 ·intro i v s' Q' E' hP hQ
  have hP':(bs.map Value.bool)[i]? = some v:=by simpa using hP
  rw[List.getElem?_map] at hP'
  cases hb:bs[i]? with
  | none=>rw[hb] at hP';cases hP'
  | some b =>
   rw[hb] at hP'
   cases hP'
   have e:bs.getD i false=b:=by simp[List.getD,hb]
   dsimp only at hQ
   rw[e] at hQ
   exact wpAny_truthy_bool hQ
 ·have hk':∀ b o,s.heap.get? b=some o->h'.get? b=some o:=fun b o e=>hk b o (by simpa using Nat.ne_of_lt (Heap.lt_size e)) (Heap.get?_push_of_some _ e)
  refine⟨.bl (bs.all id),H,I.kept hk' htk,?_,q⟩
  show Value.bool _=Value.bool _
  rw[<- zFb]
  simp
end
mutual
inductive qv (K:PySem.W.Frag) (H:Hp):V->PyData->Prop
 | non:qv K H .non .none
 | bl (b:Bool):qv K H (.bl b) (.bool b)
 | int (i:Int):qv K H (.int i) (.int i)
 | str (x:Str):qv K H (.str x) (.str x)
 | lst {p:Addr}{xs:List V}{ds:List PyData}:SqL K H p xs->Z5 K H xs ds->qv K H (.ref p) (.list ds)
 | tup {p:Addr}{xs:List V}{ds:List PyData}:SqT K H p xs->Z5 K H xs ds->qv K H (.ref p) (.tuple ds)
inductive Z5 (K:PySem.W.Frag) (H:Hp):List V->List PyData->Prop
 | nil:Z5 K H [] []
 | cons {v:V}{d:PyData}{vs:List V}{ds:List PyData}:qv K H v d->Z5 K H vs ds->Z5 K H (v::vs) (d::ds)
end
section
variable {X:Cx}{pins:List (Addr×Obj)}{σ:St}{H:Hp}{s:Shared}
mutual
theorem qv.reads (I:Inv X pins σ H s):∀ {v:V}{d:PyData}{u:Value},qv X.K H v d->zg v u->∃ as,Reads s.heap u d as
 | _,_,_,.non,r=>by cases r;exact⟨_,.none⟩
 | _,_,_,.bl b,r=>by cases r;exact⟨_,.bool b⟩
 | _,_,_,.int i,r=>by obtain⟨t,rfl⟩:=r;exact⟨_,.int i t⟩
 | _,_,_,.str x,r=>by obtain⟨t,rfl⟩:=r;exact⟨_,.str x t⟩
 | _,_,_,.lst hq ha,r=>by
  cases r
  obtain⟨its,rv,⟨o,n,e,hc,hd,hs⟩,_⟩:=I.list hq
  obtain⟨as,ra⟩:=Z5.reads I ha rv
  exact⟨_,.list e hc hs (by simpa using ra)⟩
 | _,_,_,.tup hq ha,r=>by
  cases r
  obtain⟨its,rv,⟨o,e,hc,n,hs⟩,_⟩:=I.tuple hq
  obtain⟨as,ra⟩:=Z5.reads I ha rv
  exact⟨_,.tuple e hc hs (by simpa using ra)⟩
theorem Z5.reads (I:Inv X pins σ H s):∀ {vs:List V}{ds:List PyData}{us:List Value},Z5 X.K H vs ds->zU vs us->∃ as,ReadsAll s.heap us ds as
 | _,_,_,.nil,r=>by cases r;exact⟨_,.nil⟩
 | _,_,_,.cons h t,r=>by
  cases r with
  | cons r1 r2 =>
   obtain⟨as,ra⟩:=qv.reads I h r1
   obtain⟨bs,rb⟩:=Z5.reads I t r2
   exact⟨_,.cons ra rb⟩
end
end
section
variable {X:Cx}
noncomputable def zMq (K:PySem.W.Frag) (neg:Bool):R2:=fun x y H Q=>∃ d e,qv K H x d/\qv K H y e/\SeqAt.shaped d=true/\SeqAt.shaped e=true/\Q (.bl (if neg then !PyData.eqv d e else PyData.eqv d e)) H
theorem zPl {k:Nat} (hr:jL k X.A):OpR X (compareOp .Eq) (zMq X.K false):=by
 intro pins s σ H x y v u Q I rx ry h
 obtain⟨d,e,hd,he,sd,se,q⟩:=h
 obtain⟨as,ra⟩:=hd.reads I rx
 obtain⟨bs,rb⟩:=he.reads I ry
 exact eq_dataH ra rb sd se hr.units ⟨.bl _,H,I,rfl,q⟩
theorem zQ7 {k:Nat} (hr:jL k X.A):OpR X (compareOp .NotEq) (zMq X.K true):=by
 intro pins s σ H x y v u Q I rx ry h
 obtain⟨d,e,hd,he,sd,se,q⟩:=h
 obtain⟨as,ra⟩:=hd.reads I rx
 obtain⟨bs,rb⟩:=he.reads I ry
 exact ne_dataH ra rb sd se hr.units ⟨.bl _,H,I,rfl,q⟩
where RelC:V->Value->Prop:=fun c cv=>(∃ n,c=.ty n/\cv=.type n)\/∃ a,c=.ref a/\cv=.ref a
end
end L2
namespace L2
open PySem PySem.Spec PyProof.Rows
section
variable {X:Cx}
noncomputable def zPc:R2:=fun x y H Q=>match x,y with
 | .int i,.int j=>Q (.int (i+j)) H
 | .str a,.str b=>a.length+b.length <= sizeLine/\Q (.str (a++b)) H
 | .ref l,.ref b=>∃ xs zs,H l=some (.lst xs)/\H b=some (.lst zs)/\xs.length+zs.length <= sizeLine/\∀ p,H p=none->Q (.ref p) (upd H p (.lst (xs++zs)))
 | _,_=>False
theorem yD:OpR X (binaryOp .Add) zPc:=by
 intro pins s σ H x y v u Q I rx ry h
 cases x with
 | int i =>
  cases y with
  | int j=>exact zQM pins s σ H _ _ v u Q I rx ry ⟨i,j,rfl,rfl,h⟩
  | _=>exact False.elim h
 | str a =>
  cases y with
  | str b=>exact zKa pins s σ H _ _ v u Q I rx ry ⟨a,b,rfl,rfl,h⟩
  | _=>exact False.elim h
 | ref l =>
  cases y with
  | ref b =>
   obtain⟨xs,zs,h1,h2,h3,h4⟩:=h
   exact zQm pins s σ H _ _ v u Q I rx ry ⟨l,b,xs,zs,rfl,rfl,h1,h2,h3,h4⟩
  | _=>exact False.elim h
 | _=>exact False.elim h
noncomputable def zQk:R2:=fun x y H Q=>match x,y with
 | .int i,.int j=>Q (.int (i - j)) H
 | _,_=>False
theorem zE6:OpR X (binaryOp .Sub) zQk:=by
 intro pins s σ H x y v u Q I rx ry h
 cases x with
 | int i =>
  cases y with
  | int j=>exact zPi pins s σ H _ _ v u Q I rx ry ⟨i,j,rfl,rfl,h⟩
  | _=>exact False.elim h
 | _=>exact False.elim h
noncomputable def zQF:R2:=fun x y H Q=>match x,y with
 | .int i,.int j=>zKb i j/\Q (.int (i * j)) H
 | .str z,.int n=>MulOk z n/\Q (.str (Txt.mul z n)) H
 | _,_=>False
theorem zR0:OpR X (binaryOp .Mult) zQF:=by
 intro pins s σ H x y v u Q I rx ry h
 cases x with
 | int i =>
  cases y with
  | int j=>exact zQt pins s σ H _ _ v u Q I rx ry ⟨i,j,rfl,rfl,h⟩
  | _=>exact False.elim h
 | str z =>
  cases y with
  | int n=>exact zJy pins s σ H _ _ v u Q I rx ry ⟨z,n,rfl,rfl,h⟩
  | _=>exact False.elim h
 | _=>exact False.elim h
noncomputable def zRW:R2:=fun x y H Q=>match x,y with
 | .int i,.int j=>0 < j/\Q (.int (i % j)) H
 | _,_=>False
theorem Qq:OpR X (binaryOp .Mod) zRW:=by
 intro pins s σ H x y v u Q I rx ry h
 cases x with
 | int i =>
  cases y with
  | int j=>exact zQh pins s σ H _ _ v u Q I rx ry ⟨i,j,rfl,rfl,h⟩
  | _=>exact False.elim h
 | _=>exact False.elim h
noncomputable def zQ3:R2:=fun x y H Q=>match x,y with
 | .int i,.int j=>(0 < j/\j < 1073741824)/\Q (.int (i / j)) H
 | _,_=>False
theorem zAq:OpR X (binaryOp .FloorDiv) zQ3:=by
 intro pins s σ H x y v u Q I rx ry h
 cases x with
 | int i =>
  cases y with
  | int j=>exact zOO pins s σ H _ _ v u Q I rx ry ⟨i,j,rfl,rfl,h⟩
  | _=>exact False.elim h
 | _=>exact False.elim h
noncomputable def uLt:R2:=fun x y H Q=>match x,y with
 | .int i,.int j=>Q (.bl (decide (i < j))) H
 | .str i,.str j=>Q (.bl (decide (i.cps.toList < j.cps.toList))) H
 | _,_=>False
theorem zP6:OpR X (compareOp .Lt) uLt:=by
 intro pins s σ H x y v u Q I rx ry h
 cases x with
 | int i =>
  cases y with
  | int j=>exact zR5 pins s σ H _ _ v u Q I rx ry ⟨i,j,rfl,rfl,h⟩
  | _=>exact False.elim h
 | str i =>
  cases y with
  | str j=>exact zLg pins s σ H _ _ v u Q I rx ry ⟨i,j,rfl,rfl,h⟩
  | _=>exact False.elim h
 | _=>exact False.elim h
noncomputable def uLe:R2:=fun x y H Q=>match x,y with
 | .int i,.int j=>Q (.bl (decide (i <= j))) H
 | .str i,.str j=>Q (.bl (!decide (j.cps.toList < i.cps.toList))) H
 | _,_=>False
theorem zHU:OpR X (compareOp .LtE) uLe:=by
 intro pins s σ H x y v u Q I rx ry h
 cases x with
 | int i =>
  cases y with
  | int j=>exact zR4 pins s σ H _ _ v u Q I rx ry ⟨i,j,rfl,rfl,h⟩
  | _=>exact False.elim h
 | str i =>
  cases y with
  | str j=>exact zLA pins s σ H _ _ v u Q I rx ry ⟨i,j,rfl,rfl,h⟩
  | _=>exact False.elim h
 | _=>exact False.elim h
noncomputable def uGt:R2:=fun x y H Q=>match x,y with
 | .int i,.int j=>Q (.bl (decide (j < i))) H
 | _,_=>False
theorem zEI:OpR X (compareOp .Gt) uGt:=by
 intro pins s σ H x y v u Q I rx ry h
 cases x with
 | int i =>
  cases y with
  | int j=>exact zRp pins s σ H _ _ v u Q I rx ry ⟨i,j,rfl,rfl,h⟩
  | _=>exact False.elim h
 | _=>exact False.elim h
noncomputable def uIn (K:PySem.W.Frag) (neg:Bool):R2:=fun x y H Q=>match x,y with
 | .str i,.str j=>Q (.bl (xor neg (!(Builtin.Str.occurrences j i 0 j.length 1).isEmpty))) H
 | x,.ref p=>∃ xs,(SqL K H p xs\/SqT K H p xs)/\y9 x=true/\xs.all y9=true/\Q (.bl (xor neg (inV x xs))) H
 | _,_=>False
theorem zSM:OpR X (compareOp .In) (uIn X.K false):=by
 intro pins s σ H x y v u Q I rx ry h
 cases y with
 | str j =>
  cases x with
  | str i =>
   have h':Q (.bl (xor false (!(Builtin.Str.occurrences j i 0 j.length 1).isEmpty))) H:=h
   rw[Bool.false_xor] at h'
   exact zKx pins s σ H _ _ v u Q I rx ry ⟨i,j,rfl,rfl,h'⟩
  | _=>exact False.elim h
 | ref p =>
  have h':∃ xs,(SqL X.K H p xs\/SqT X.K H p xs)/\y9 x=true/\xs.all y9=true/\Q (.bl (xor false (inV x xs))) H:=by cases x<;>exact h
  obtain⟨xs,h1,h2,h3,h4⟩:=h'
  rw[Bool.false_xor] at h4
  exact zLE pins s σ H _ _ v u Q I rx ry ⟨p,xs,rfl,h1,h2,h3,h4⟩
 | _=>cases x<;>exact False.elim h
theorem zPF:OpR X (compareOp .NotIn) (uIn X.K true):=by
 intro pins s σ H x y v u Q I rx ry h
 cases y with
 | str j =>
  cases x with
  | str i =>
   have h':Q (.bl (xor true (!(Builtin.Str.occurrences j i 0 j.length 1).isEmpty))) H:=h
   rw[Bool.true_xor] at h'
   exact zHa pins s σ H _ _ v u Q I rx ry ⟨i,j,rfl,rfl,h'⟩
  | _=>exact False.elim h
 | ref p =>
  have h':∃ xs,(SqL X.K H p xs\/SqT X.K H p xs)/\y9 x=true/\xs.all y9=true/\Q (.bl (xor true (inV x xs))) H:=by cases x<;>exact h
  obtain⟨xs,h1,h2,h3,h4⟩:=h'
  rw[Bool.true_xor] at h4
  exact zHK pins s σ H _ _ v u Q I rx ry ⟨p,xs,rfl,h1,h2,h3,h4⟩
 | _=>cases x<;>exact False.elim h
noncomputable def uIx (K:PySem.W.Frag):R2:=fun x y H Q=>match x,y with
 | .str z,.int i=>∃ c,z.length <= sizeLine/\atI z.cps.toList i=some c/\Q (.str ⟨#[c]⟩) H
 | .ref p,.int i=>∃ xs v,(SqL K H p xs\/SqT K H p xs)/\atI xs i=some v/\Q v H
 | _,_=>False
theorem zSY:IxR X (uIx X.K):=by
 intro value slice pins s σ H x y v u Q I rx ry h hs
 cases x with
 | str z =>
  cases y with
  | int i =>
   obtain⟨c,h1,h2,h3⟩:=h
   exact zQ0 value slice pins s σ H _ _ v u Q I rx ry ⟨z,i,c,rfl,rfl,h1,h2,h3⟩ hs
  | _=>exact False.elim h
 | ref p =>
  cases y with
  | int i =>
   obtain⟨xs,c,h1 | h1,h2,h3⟩:=h
   ·exact zN7 value slice pins s σ H _ _ v u Q I rx ry ⟨p,xs,i,c,rfl,rfl,h1,h2,h3⟩ hs
   ·exact zPz value slice pins s σ H _ _ v u Q I rx ry ⟨p,xs,i,c,rfl,rfl,h1,h2,h3⟩ hs
  | _=>exact False.elim h
 | _=>exact False.elim h
noncomputable def uSl (K:PySem.W.Frag):V->Option Int->Option Int->Hp->VK->Prop:=fun x lo hi H Q=>match x with
 | .str z=>z.length <= sizeLine/\Q (.str (zFk z lo hi)) H
 | .ref a=>(∃ xs,SqL K H a xs/\∀ p,H p=none->Q (.ref p) (upd H p (.lst (zBj xs lo hi)))) \/
   (∃ xs,SqT K H a xs /\ ¬ (HT.sIx xs.length 0 lo=0/\HT.sIx xs.length xs.length hi=xs.length)/\∀ p,H p=none->Q (.ref p) (upd H p (.tup (zBj xs lo hi))))
 | _=>False
theorem zEa:SlR X (uSl X.K):=by
 intro pins s σ H x v vl vu lo hi sl Q I rx hs pl pu h
 cases x with
 | str z=>exact zQS pins s σ H _ v vl vu lo hi sl Q I rx hs pl pu ⟨z,rfl,h⟩
 | ref a =>
  rcases h with ⟨xs,h1,h2⟩ | ⟨xs,h1,h2,h3⟩
  ·exact zO9 pins s σ H _ v vl vu lo hi sl Q I rx hs pl pu ⟨a,xs,rfl,h1,h2⟩
  ·exact zQv pins s σ H _ v vl vu lo hi sl Q I rx hs pl pu ⟨a,xs,rfl,h1,h2,h3⟩
 | _=>exact False.elim h
noncomputable def zPZ (K:PySem.W.Frag):List V->Hp->VK->Prop:=fun xs H Q=>match xs with
 | [.str z]=>z.length <= sizeLine/\Q (.int z.length) H
 | [.ref p]=>∃ ys,(SqL K H p ys\/SqT K H p ys)/\Q (.int ys.length) H
 | _=>False
theorem zRz:j9 X (.builtin "len") (zPZ X.K):=by
 intro pins s σ H xs us Q I r h
 match xs,h with
 | [.str z],h=>exact zHJ pins s σ H _ us Q I r ⟨z,rfl,h⟩
 | [.ref p],h =>
  obtain⟨ys,h1,h2⟩:=h
  exact zHz pins s σ H _ us Q I r ⟨p,ys,rfl,h1,h2⟩
theorem zO2:PIp X .Add (fun x y H Q=>match x,y with | .int i,.int j=>Q (.int (i+j)) H | .str a,.str b=>a.length+b.length <= sizeLine/\Q (.str (a++b)) H | _,_=>False):=by
 intro pins s σ H x y v u Q I rx ry h
 cases x with
 | int i =>
  cases y with
  | int j=>exact zQi pins s σ H _ _ v u Q I rx ry ⟨i,j,rfl,rfl,h⟩
  | _=>exact False.elim h
 | str a =>
  cases y with
  | str b=>exact zIh pins s σ H _ _ v u Q I rx ry ⟨a,b,rfl,rfl,h⟩
  | _=>exact False.elim h
 | _=>exact False.elim h
end
theorem QK:bootBuiltins "len" = some (.builtin "len"):=by decide +kernel
theorem zKe:bootBuiltins "all" = some (.builtin "all"):=by decide +kernel
theorem zAe:bootBuiltins "isinstance" = some (.builtin "isinstance"):=by decide +kernel
theorem zIG:bootBuiltins "str" = some (.type "str"):=by decide +kernel
theorem zHM:bootBuiltins "int" = some (.type "int"):=by decide +kernel
theorem zOG:bootBuiltins "list" = some (.type "list"):=by decide +kernel
theorem zH5:bootBuiltins "tuple" = some (.type "tuple"):=by decide +kernel
structure Has (P:Program) (w:World) (K:PySem.W.Frag) (mg:Str->Option Value) (base:Heap) (x:Str) (k:Nat) (ps:List Str) (sp:Sp):Prop where
 ex:∃ f fd,jU P w K mg base CX0 k f fd ps sp/\Qp K fd ps []/\PySem.W.keepIn K (.ref f)=true/\mg x=some (.ref f)
section
variable {X:Cx}{k kk:Nat}{x:Str}{ps:List Str}{sp:Sp}{e:Expr}{es:List Expr}{t:TA}{p pos:Pos}
theorem zNk (h:Has X.prog X.w X.K X.mg X.base x k ps sp) (hr:jL kk X.A) (hk:k <= kk) (hg:Gl X x) (ha:PA X (e::es) t) (hx:ya CX0 X E0:=by exact zAk) (hdb:(x == ("__debug__" : Str))=false:=by decide)
  (he:starEach (e::es) X.env=(false,eval e X.env)::starEach es X.env:=by rfl) (hpl:(backTo pos (starEach es X.env)).any (·.1)=false:=by rfl) :
  PE X (.Call (.Name x p) (e::es) [] pos) (zN3 sp [] E0 t):=by
 obtain⟨f,fd,F,b,kp,m⟩:=h.ex
 exact zOR F (hr.mono hk) hg m kp b .nil hx ha hdb he hpl
structure Jy (mg:Str->Option Value) (x:Str) (v:V):Prop where
 ex:∃ u,mg x=some u/\zg v u
theorem zH6 {v:V} (h:Jy X.mg x v) (hg:Gl X x) (hd:(x == ("__debug__" : Str))=false:=by decide):PE X (.Name x pos) (tC v):=by
 obtain⟨u,m,r⟩:=h.ex
 exact zOM hg m r hd
end
noncomputable def zF2:V->Value->Bool
 | .non,.none=>true
 | .bl a,.bool b=>a == b
 | .int i,.int j _=>i == j
 | .str x,.str y _=>x == y
 | _,_=>false
theorem zDn:∀ {v:V}{u:Value},zF2 v u=true->zg v u
 | .non,.none,_=>rfl
 | .bl a,.bool b,h=>by
  have e:a=b:=eq_of_beq h
  rw[e];rfl
 | .int i,.int j t,h=>by
  have e:i=j:=eq_of_beq h
  rw[e];exact⟨t,rfl⟩
 | .str x,.str y t,h=>by
  have e:x=y:=eq_of_beq h
  rw[e];exact⟨t,rfl⟩
noncomputable def zFX:List V->List Value->Bool
 | [],[]=>true
 | v::vs,u::us=>zF2 v u && zFX vs us
 | _,_=>false
theorem zEB:∀ {vs:List V}{us:List Value},zFX vs us=true->zU vs us
 | [],[],_=>.nil
 | v::vs,u::us,h=>by
  have h':(zF2 v u && zFX vs us)=true:=h
  rw[Bool.and_eq_true] at h'
  exact .cons (zDn h'.1) (zEB h'.2)
theorem zOL {K:PySem.W.Frag}{H:Hp}{a:Addr}{d:Option Addr}{its:Array Value}{n:Nat}{sl:Array (Option Value)}{xs:List V} (h:K.lookup a=some ⟨.type "tuple",d,.seq its n,sl⟩) (r:zFX xs its.toList=true) (hz:xs.length <= sizeLine:=by decide):SqT K H a xs:=by
 have e:=(zEB r).length
 have e2:its.toList.length=its.size:=by simp
 exact .inr ⟨_,its,n,h,rfl,rfl,by omega,zEB r⟩
theorem zBA {K:PySem.W.Frag}{A B:String}{b:Bool} (h:(if (Value.type A == Value.type B)=true then some true else if PySem.W.kitMeta B=true then (PySem.fastBuiltinMro A).map (·.contains (Value.type B)) else none)=some b):PySem.W.kitOne K (.type A) (.type B)=some b:=h
end L2
namespace TX
open PySem
noncomputable def qO (c:Nat):List Nat->List (List Nat)
 | []=>[[]]
 | d::r=>if d=c then []::qO c r else match qO c r with
  | []=>[[d]]
  | p::ps=>(d::p)::ps
noncomputable def zAr (c:Nat):List (List Nat)->List Nat
 | []=>[]
 | [p]=>p
 | p::q::r=>p++c::zAr c (q::r)
theorem zLH (c:Nat) (l:List Nat):qO c l≠[]:=by
 cases l with
 | nil=>simp[qO]
 | cons d r =>
  unfold qO
  split
  ·simp
  ·split<;>simp
theorem zD1 (c:Nat):∀ p:List Nat,c∉p->qO c p=[p]
 | [],_=>rfl
 | d::r,h=>by
  have hd:d≠c:=fun e=>h (by simp[e])
  have hr:c∉r:=fun e=>h (List.mem_cons_of_mem _ e)
  unfold qO
  rw[if_neg hd,zD1 c r hr]
theorem zFF (c:Nat):∀ (p r:List Nat),c∉p->qO c (p++c::r)=p::qO c r
 | [],r,_=>by
  show qO c (c::r)=_
  unfold qO
  rw[if_pos rfl]
  cases r<;>rfl
 | d::q,r,h=>by
  have hd:d≠c:=fun e=>h (by simp[e])
  have hq:c∉q:=fun e=>h (List.mem_cons_of_mem _ e)
  show qO c (d::(q++c::r))=_
  conv=>lhs;unfold qO
  rw[if_neg hd,zFF c q r hq]
theorem zD2 (c:Nat):∀ ps:List (List Nat),ps≠[]->(∀ p∈ps,c∉p)->qO c (zAr c ps)=ps
 | [],h,_=>absurd rfl h
 | [p],_,h=>zD1 c p (h p (by simp))
 | p::q::r,_,h=>by
  show qO c (p++c::zAr c (q::r))=_
  rw[zFF c p _ (h p (by simp)),zD2 c (q::r) (by simp) fun x hx=>h x (List.mem_cons_of_mem _ hx)]
theorem zAi (c:Nat):∀ ps:List Str,(Str.join ⟨#[c]⟩ ps).cps.toList=zAr c (ps.map fun p=>p.cps.toList)
 | []=>rfl
 | [p]=>rfl
 | p::q::r=>by
  have ih:=zAi c (q::r)
  show (p++(⟨#[c]⟩:Str)++Str.join ⟨#[c]⟩ (q::r)).cps.toList=p.cps.toList++c::zAr c ((q::r).map fun p=>p.cps.toList)
  rw[<- ih]
  show (p.cps ++ #[c]++(Str.join ⟨#[c]⟩ (q::r)).cps).toList=_
  simp
theorem zNo (x:Str) (c:Nat):Txt.split x ⟨#[c]⟩≠[]:=by
 unfold Txt.split
 split
 ·simp
 ·split
  ·simp
  ·rw[StrLaws.partsBetween_eq]
   obtain⟨p,r,e⟩:=StrLaws.partsFrom_ne x (⟨#[c]⟩:Str).length 0 (Builtin.Str.occurrences x ⟨#[c]⟩ 0 x.length (x.length+1))
   rw[e];simp
theorem zIb (x:Str) (c:Nat):(Txt.split x ⟨#[c]⟩).map (fun p=>p.cps.toList)=qO c x.cps.toList:=by
 have h1:=StrLaws.join_split x ⟨#[c]⟩
 have h2:=zAi c (Txt.split x ⟨#[c]⟩)
 rw[h1] at h2
 rw[h2,zD2]
 ·intro e
  exact zNo x c (List.map_eq_nil_iff.mp e)
 ·intro p hp
  obtain⟨q,hq,rfl⟩:=List.mem_map.mp hp
  exact StrLaws.split_free x c q hq
noncomputable def ofL (l:List Nat):Str:=⟨l.toArray⟩
theorem zJY (x:Str):ofL x.cps.toList=x:=by
 cases x;simp[ofL]
theorem zMt (x:Str) (c:Nat):Txt.split x ⟨#[c]⟩=(qO c x.cps.toList).map ofL:=by
 rw[<- zIb,List.map_map]
 have:(ofL ∘ fun p:Str=>p.cps.toList)=id:=by
  funext p;exact zJY p
 rw[this,List.map_id]
theorem zGP (c d:Nat):∀ ps:List (List Nat),(∀ p∈ps,c∉p)->zAr d ps=(zAr c ps).map fun x=>if x=c then d else x
 | [],_=>rfl
 | [p],h=>by
  show p=p.map _
  have hp:=h p (by simp)
  conv=>lhs;rw[<- List.map_id p]
  refine List.map_congr_left fun x hx=>?_
  have:x≠c:=fun e=>hp (e ▸ hx)
  simp[this]
 | p::q::r,h=>by
  show p++d::zAr d (q::r)=(p++c::zAr c (q::r)).map _
  rw[List.map_append,List.map_cons,zGP c d (q::r) fun x hx=>h x (List.mem_cons_of_mem _ hx)]
  have hp:=h p (by simp)
  have e:p.map (fun x=>if x=c then d else x)=p:=by
   conv=>rhs;rw[<- List.map_id p]
   refine List.map_congr_left fun x hx=>?_
   have:x≠c:=fun e=>hp (e ▸ hx)
   simp[this]
  rw[e];simp
theorem zGc (x:Str) (c d:Nat):(Txt.replace x ⟨#[c]⟩ ⟨#[d]⟩).cps.toList=x.cps.toList.map fun y=>if y=c then d else y:=by
 rw[StrLaws.replace_one,zAi,zGP c d]
 ·rw[<- zAi,StrLaws.join_split]
 ·intro p hp
  obtain⟨q,hq,rfl⟩:=List.mem_map.mp hp
  exact StrLaws.split_free x c q hq
end TX
namespace TX
open PySem
noncomputable def sp (y:Nat):Nat:=if y=10 then 32 else y
end TX
namespace TS
open PySem PyProof.Rows
variable {prog:Program}{w:World}{A:Around}{E:Value->Shared->Prop}{s:Shared}{a₀:Array Keyed}{κ:KeyKind}
structure SG (a₀:Array Keyed) (st:SortSt):Prop where
 pm:(arrOf st).Perm a₀
 kd:kindOf st=oneType'
 fl:failedOf st=none
theorem SG.sz {st:SortSt} (h:SG a₀ st):(arrOf st).size=a₀.size:=h.pm.size_eq
theorem SG.arr {st:SortSt} (h:SG a₀ st) {xs:Array Keyed} (p:xs.Perm (arrOf st)):SG a₀ (setArr st xs):=⟨p.trans h.pm,h.kd,h.fl⟩
theorem SG.item {st:SortSt} (h:SG a₀ st) (h0:KeysOf κ a₀) {i:Nat} (hi:i < a₀.size):∃ x p a,(arrOf st)[i]? = some (x,p)/\κ.keyOf x=some a/\KK κ (arrOf st) i=a:=by
 have hi':i < (arrOf st).size:=by rw[h.sz];exact hi
 have hm:(arrOf st)[i]∈a₀.toList:=(Array.perm_iff_toList_perm.mp h.pm).mem_iff.mp (by simp)
 obtain⟨a,ha⟩:=h0 _ hm
 have e:(arrOf st)[i]? = some ((arrOf st)[i].1,(arrOf st)[i].2):=getElem?_pos _ i hi'
 exact⟨_,_,a,e,ha,by unfold KK;rw[e];show (κ.keyOf (arrOf st)[i].1).getD κ.dflt=a;rw[ha];rfl⟩
theorem zFP {st:SortSt}{i j:Nat}{Q:Option Bool->SortSt->Prop} (hO:κ.OneLt) (h0:KeysOf κ a₀) (g:SG a₀ st) (hi:i < a₀.size) (hj:j < a₀.size) (h:Q (some (κ.blt (KK κ (arrOf st) i) (KK κ (arrOf st) j))) st):wpS (model prog w) A E s (ltAt' i j) Q st:=by
 obtain⟨x,p,a,e1,h1,k1⟩:=g.item h0 hi
 obtain⟨y,q,b,e2,h2,k2⟩:=g.item h0 hj
 rw[k1,k2] at h
 exact wpS_ltAtK hO g.kd e1 e2 h1 h2 h
noncomputable def Ri (κ:KeyKind) (xs:Array Keyed) (lo k:Nat):Prop:=∀ i j,i <= j->j < k->κ.kle (KK κ xs (lo+i)) (KK κ xs (lo+j))
structure j8 (a₀:Array Keyed) (lo hi:Nat) (st st':SortSt):Prop where
 ok:SG a₀ st'
 out:∀ k,k < lo\/hi <= k->(arrOf st')[k]? = (arrOf st)[k]?
 pd:pendingOf st'=pendingOf st
theorem j8.refl {lo hi:Nat}{st:SortSt} (g:SG a₀ st):j8 a₀ lo hi st st:=⟨g,fun _ _=>rfl,rfl⟩
theorem j8.trans {lo hi:Nat}{st st' st'':SortSt} (h:j8 a₀ lo hi st st') (k:j8 a₀ lo hi st' st''):j8 a₀ lo hi st st'':=⟨k.ok,fun i hi=>(k.out i hi).trans (h.out i hi),k.pd.trans h.pd⟩
theorem zKt {st:SortSt}{lo n ok:Nat}{Q:Bool->SortSt->Prop} (hO:κ.OneLt) (h0:KeysOf κ a₀) (hn:lo+n <= a₀.size) (hok:ok <= n) (g:SG a₀ st) (hs:Ri κ (arrOf st) lo ok)
  (h:∀ st',j8 a₀ lo (lo+n) st st'->Ri κ (arrOf st') lo n->Q true st'):wpS (model prog w) A E s (binarySort' lo n ok) Q st:=by
 rw[binarySort'_eq]
 refine wpS_bind (wpS_mono (wpS_forRange (I:=fun k c t=>c=(none,())/\j8 a₀ lo (lo+n) st t/\Ri κ (arrOf t) lo (min k n))
  (Q:=fun c t=>c=(none,())/\j8 a₀ lo (lo+n) st t/\Ri κ (arrOf t) lo n) (fun k c t hak hkn ⟨ec,kp,ri⟩=>?step) (fun c t ⟨ec,kp,ri⟩=>⟨ec,kp,?fin⟩) ⟨rfl,j8.refl g,fun i j hij hj=>?ini⟩) fun c t ⟨ec,kp,ri⟩=>?post)
 case step =>
  subst ec
  rw[show min k n=k by omega] at ri
  have kl:lo+k < a₀.size:=by omega
  refine wpS_bind (wpS_mono (wpS_forRange (I:=fun x c u=>u=t/\∃ l r,c=(none,l,r)/\l <= r/\r <= k/\r - l <= k - x/\(∀ i,i < l->κ.kle (KK κ (arrOf t) (lo+i)) (KK κ (arrOf t) (lo+k)))/\(∀ i,r <= i->i < k->κ.klt (KK κ (arrOf t) (lo+k)) (KK κ (arrOf t) (lo+i))))
   (Q:=fun c u=>u=t/\∃ l r,c=(none,l,r)/\l <= k/\(∀ i,i < l->κ.kle (KK κ (arrOf t) (lo+i)) (KK κ (arrOf t) (lo+k)))/\(∀ i,l <= i->i < k->κ.klt (KK κ (arrOf t) (lo+k)) (KK κ (arrOf t) (lo+i))))
   (fun x c u _ hx ⟨eu,l,r,ec,h1,h2,h3,h4,h5⟩=>?st2) (fun c u ⟨eu,l,r,ec,h1,h2,h3,h4,h5⟩=>?fi2) ⟨rfl,0,k,rfl,by omega,by omega,by omega,fun i hi=>by omega,fun i h1 h2=>by omega⟩) fun c u ⟨eu,l,r,ec,h1,h2,h3⟩=>?po2)
  case st2 =>
   subst eu ec
   dsimp only
   by_cases hge:l ≥ r
   ·rw[if_pos hge]
    obtain rfl:l=r:=by omega
    exact wpS_pure ⟨rfl,l,l,rfl,h2,h4,h5⟩
   ·rw[if_neg hge]
    refine wpS_bind (zFP hO h0 kp.ok kl (by omega) ?_)
    cases hb:κ.blt (KK κ (arrOf u) (lo+k)) (KK κ (arrOf u) (lo+(l+r) / 2)) with
    | true =>
     simp only[if_true]
     exact wpS_pure ⟨rfl,l,(l+r) / 2,rfl,by omega,by omega,by omega,h4,fun i a b=>KeyOrd.klt_of_klt_of_kle hb (ri _ _ a b)⟩
    | false =>
     simp only[Bool.false_eq_true,if_false]
     exact wpS_pure ⟨rfl,(l+r) / 2+1,r,rfl,by omega,by omega,by omega,fun i a=>KeyOrd.kle_trans (ri i ((l+r) / 2) (by omega) (by omega)) (show κ.kle _ _ from hb),h5⟩
  case fi2 =>
   subst eu ec
   obtain rfl:l=r:=by omega
   exact⟨rfl,l,l,rfl,h2,h4,h5⟩
  case po2 =>
   subst eu ec
   show wpS _ _ _ _ (do moveDown' (lo+k) (lo+l);pure (ForInStep.yield (none,()))) _ _
   rw[moveDown'_eq]
   have ks:lo+k < (arrOf u).size:=by rw[kp.ok.sz];exact kl
   refine wpS_bind (wpS_modify (wpS_pure ⟨rfl,kp.trans ⟨kp.ok.arr (bubble_perm _ _ _),fun i hi=>?_,rfl⟩,?_⟩))
   ·show (bubble (arrOf u) (lo+k) (lo+k - (lo+l)))[i]? = _
    rw[getElem?_bubble ks _ (by omega),if_neg (by omega),if_neg (by omega)]
   ·rw[show min (k+1) n=k+1 by omega]
    intro i j hij hj
    show κ.kle (KK κ (bubble (arrOf u) (lo+k) (lo+k - (lo+l))) (lo+i)) (KK κ (bubble (arrOf u) (lo+k) (lo+k - (lo+l))) (lo+j))
    rw[KK_bubble ks (by omega),KK_bubble ks (by omega),show lo+k - (lo+k - (lo+l))=lo+l by omega]
    by_cases c1:lo+i=lo+l<;>by_cases c2:lo+l < lo+i/\lo+i <= lo+k<;>by_cases c3:lo+j=lo+l<;>by_cases c4:lo+l < lo+j/\lo+j <= lo+k<;>simp only[c1,c2,c3,c4,if_true,if_false]<;>try omega
    ·exact KeyOrd.kle_refl _
    ·exact KeyOrd.kle_of_klt (by have:=h3 (j - 1) (by omega) (by omega);rwa [show lo+(j - 1)=lo+j - 1 by omega] at this)
    ·have:=ri (i - 1) (j - 1) (by omega) (by omega);rwa [show lo+(i - 1)=lo+i - 1 by omega,show lo+(j - 1)=lo+j - 1 by omega] at this
    ·exact h2 _ (by omega)
    ·have:=ri i (j - 1) (by omega) (by omega);rwa [show lo+(j - 1)=lo+j - 1 by omega] at this
    ·exact ri _ _ (by omega) (by omega)
 case fin=>rwa [show min (max (max ok 1) n) n=n by omega] at ri
 case ini =>
  by_cases h1:ok=0
  ·obtain rfl:i=j:=by omega
   exact KeyOrd.kle_refl _
  ·exact hs i j hij (by omega)
 case post =>
  subst ec
  exact wpS_pure (h t kp ri)
noncomputable def zHI (lo a nrem:Nat):StateT SortSt Sem AscSt :=
 forIn [a:nrem] ((none,a):AscSt) fun _ c=>do
  match <- ltAt' (lo+c.2) (lo+c.2 - 1) with
  | some b=>if b=true then pure (ForInStep.done (none,c.2)) else pure (ForInStep.yield (none,c.2+1))
  | _=>pure (ForInStep.done (some none,c.2))
noncomputable def tl3 (lo n nrem:Nat):StateT SortSt Sem (Option Nat):=do
 reverseSlice' lo (lo+n)
 let c <- zHI lo n nrem
 match c.1 with
 | some r=>pure r
 | none=>pure (some c.2)
noncomputable def zJw (lo n nrem:Nat):StateT SortSt Sem DescSt :=
 forIn [n:nrem] ((none,n,0):DescSt) fun _ c=>do
  match <- ltAt' (lo+c.2.1) (lo+c.2.1 - 1) with
  | some b =>
   if b=true then
    if c.2.2 > 0 then do
     reverseSlice' (lo+c.2.1 - (c.2.2+1)) (lo+c.2.1)
     pure (ForInStep.yield (none,c.2.1+1,0))
    else pure (ForInStep.yield (none,c.2.1+1,0))
   else do
    match <- ltAt' (lo+c.2.1 - 1) (lo+c.2.1) with
    | some b=>if b=true then pure (ForInStep.done (none,c.2.1,c.2.2)) else pure (ForInStep.yield (none,c.2.1+1,c.2.2+1))
    | _=>pure (ForInStep.done (some none,c.2.1,c.2.2))
  | _=>pure (ForInStep.done (some none,c.2.1,c.2.2))
noncomputable def zHN (lo n nrem:Nat):StateT SortSt Sem (Option Nat):=do
 liftM (rule "list.sort.descending-run")
 let c <- zJw lo (n+1) nrem
 match c.1 with
 | some r=>pure r
 | none =>
  if c.2.2 > 0 then do
   reverseSlice' (lo+c.2.1 - (c.2.2+1)) (lo+c.2.1)
   tl3 lo c.2.1 nrem
  else tl3 lo c.2.1 nrem
theorem zIV (lo nrem:Nat):countRun' lo nrem=(do
  let c <- zHI lo 1 nrem
  match c.1 with
  | some r=>pure r
  | none =>
   if (c.2 == nrem)=true then pure (some c.2)
   else if c.2 > 1 then do
    match <- ltAt' lo (lo+c.2 - 1) with
    | some b=>if b=true then pure (some c.2) else do
      reverseSlice' lo (lo+c.2)
      zHN lo c.2 nrem
    | _=>pure none
   else zHN lo c.2 nrem):=by
 rw[countRun'_eq]
 unfold zHN tl3 zJw zHI
 refine congrArg (bind _) ?_
 funext c
 obtain⟨r,n⟩:=c
 cases r with
 | some r=>rfl
 | none =>
  dsimp only
  split
  ·rfl
  ·split
   ·congr 1;funext x
    cases x with
    | none=>rfl
    | some b =>
     dsimp only
     split
     ·rfl
     ·congr 1;funext _r
      congr 1;funext _u;congr 1;congr 1;funext c2;obtain⟨r2,n2,q2⟩:=c2
      cases r2 with
      | some r2=>rfl
      | none =>
       dsimp only
       split
       ·congr 1;funext _v;congr 1;funext _w;congr 1;funext c3;obtain⟨r3,n3⟩:=c3;cases r3<;>rfl
       ·congr 1;funext _w;congr 1;funext c3;obtain⟨r3,n3⟩:=c3;cases r3<;>rfl
   ·congr 1;funext _u;congr 1;congr 1;funext c2;obtain⟨r2,n2,q2⟩:=c2
    cases r2 with
    | some r2=>rfl
    | none =>
     dsimp only
     split
     ·congr 1;funext _v;congr 1;funext _w;congr 1;funext c3;obtain⟨r3,n3⟩:=c3;cases r3<;>rfl
     ·congr 1;funext _w;congr 1;funext c3;obtain⟨r3,n3⟩:=c3;cases r3<;>rfl
noncomputable def Fa (κ:KeyKind) (xs:Array Keyed) (lo k:Nat):Prop:=∀ i j,i <= j->j < k->κ.kle (KK κ xs (lo+j)) (KK κ xs (lo+i))
theorem Ri.more {xs:Array Keyed}{lo x:Nat} (h:Ri κ xs lo x) (hx:1 <= x) (e:κ.kle (KK κ xs (lo+x - 1)) (KK κ xs (lo+x))):Ri κ xs lo (x+1):=by
 intro i j hij hj
 by_cases c:j < x
 ·exact h i j hij c
 obtain rfl:j=x:=by omega
 by_cases d:i=j
 ·subst d;exact KeyOrd.kle_refl _
 ·exact KeyOrd.kle_trans (h i (j - 1) (by omega) (by omega)) (by rwa [show lo+(j - 1)=lo+j - 1 by omega])
theorem Fa.more {xs:Array Keyed}{lo x:Nat} (h:Fa κ xs lo x) (hx:1 <= x) (e:κ.kle (KK κ xs (lo+x)) (KK κ xs (lo+x - 1))):Fa κ xs lo (x+1):=by
 intro i j hij hj
 by_cases c:j < x
 ·exact h i j hij c
 obtain rfl:j=x:=by omega
 by_cases d:i=j
 ·subst d;exact KeyOrd.kle_refl _
 ·exact KeyOrd.kle_trans (by rwa [show lo+(j - 1)=lo+j - 1 by omega]) (h i (j - 1) (by omega) (by omega))
theorem Ri.one {xs:Array Keyed}{lo:Nat}:Ri κ xs lo 1:=fun i j a b=>by obtain rfl:i=j:=(by omega);exact KeyOrd.kle_refl _
theorem Fa.one {xs:Array Keyed}{lo:Nat}:Fa κ xs lo 1:=fun i j a b=>by obtain rfl:i=j:=(by omega);exact KeyOrd.kle_refl _
theorem zKn {st:SortSt}{lo a nrem:Nat}{Q:AscSt->SortSt->Prop} (hO:κ.OneLt) (h0:KeysOf κ a₀) (hn:lo+nrem <= a₀.size) (ha:1 <= a) (han:a <= nrem) (g:SG a₀ st) (hs:Ri κ (arrOf st) lo a)
  (h:∀ n,a <= n->n <= nrem->Ri κ (arrOf st) lo n->(n=nrem\/κ.klt (KK κ (arrOf st) (lo+n)) (KK κ (arrOf st) (lo+n - 1)))->Q (none,n) st):wpS (model prog w) A E s (zHI lo a nrem) Q st:=by
 unfold zHI
 refine wpS_forRange (I:=fun x c u=>u=st/\c=(none,x)/\Ri κ (arrOf st) lo x) (fun x c u hax hxn ⟨eu,ec,ri⟩=>?step) (fun c u ⟨eu,ec,ri⟩=>?fin) ⟨rfl,rfl,hs⟩
 case fin =>
  subst eu ec
  rw[show max a nrem=nrem by omega] at ri ⊢
  exact h nrem han (Nat.le_refl _) ri (.inl rfl)
 case step =>
  subst eu ec
  dsimp only
  refine wpS_bind (zFP hO h0 g (by omega) (by omega) ?_)
  cases hb:κ.blt (KK κ (arrOf u) (lo+x)) (KK κ (arrOf u) (lo+x - 1)) with
  | true=>simp only[if_true];exact wpS_pure (h x hax (by omega) ri (.inr hb))
  | false=>simp only[Bool.false_eq_true,if_false];exact wpS_pure ⟨rfl,rfl,ri.more (by omega) hb⟩
theorem j8.mir {lo n i j:Nat}{st:SortSt} (g:SG a₀ st) (hi:lo <= i) (hj:j <= lo+n) (hn:lo+n <= a₀.size):j8 a₀ lo (lo+n) st (setArr st (mirror (arrOf st) i j ((j - i) / 2))) :=
 ⟨g.arr (mirror_perm _ _ _ _),fun k hk=>by show (mirror (arrOf st) i j ((j - i) / 2))[k]? = _;rw[getElem?_mirror_all (by rw[g.sz];omega),if_neg (by omega)],rfl⟩
theorem zLV {st st₀:SortSt}{lo n nrem:Nat}{Q:Option Nat->SortSt->Prop} (hO:κ.OneLt) (h0:KeysOf κ a₀) (hn:lo+nrem <= a₀.size) (h1:1 <= n) (hnn:n <= nrem) (kp:j8 a₀ lo (lo+nrem) st₀ st) (hs:Fa κ (arrOf st) lo n)
  (h:∀ m st',j8 a₀ lo (lo+nrem) st₀ st'->1 <= m->m <= nrem->Ri κ (arrOf st') lo m->Q (some m) st'):wpS (model prog w) A E s (tl3 lo n nrem) Q st:=by
 unfold tl3
 have hz:lo+n <= (arrOf st).size:=by rw[kp.ok.sz];omega
 refine wpS_bind (wpS_reverse ?_)
 have k2:=kp.trans (j8.mir (i:=lo) (j:=lo+n) (lo:=lo) (n:=nrem) kp.ok (Nat.le_refl _) (by omega) hn)
 refine wpS_bind (zKn hO h0 hn h1 hnn k2.ok ?_ fun m a b c _=>wpS_pure (h m _ k2 (by omega) b c))
 intro i j hij hj
 show κ.kle (KK κ (mirror (arrOf st) lo (lo+n) ((lo+n - lo) / 2)) (lo+i)) (KK κ (mirror (arrOf st) lo (lo+n) ((lo+n - lo) / 2)) (lo+j))
 rw[KK_mirror hz,KK_mirror hz,if_pos (by omega),if_pos (by omega)]
 have:=hs (n - 1 - j) (n - 1 - i) (by omega) (by omega)
 rwa [show lo+(n - 1 - i)=lo+(lo+n) - 1 - (lo+i) by omega,show lo+(n - 1 - j)=lo+(lo+n) - 1 - (lo+j) by omega] at this
theorem Fa.same {xs ys:Array Keyed}{lo n:Nat} (h:Fa κ xs lo n) (e:∀ k,KK κ ys k=KK κ xs k):Fa κ ys lo n:=fun i j a b=>by rw[e,e];exact h i j a b
theorem zRF {st st₀:SortSt}{lo n nrem:Nat}{Q:DescSt->SortSt->Prop} (hO:κ.OneLt) (h0:KeysOf κ a₀) (hn:lo+nrem <= a₀.size) (h1:1 <= n) (hnn:n <= nrem) (kp:j8 a₀ lo (lo+nrem) st₀ st) (hs:Fa κ (arrOf st) lo n)
  (h:∀ m q st',j8 a₀ lo (lo+nrem) st₀ st'->n <= m->m <= nrem->Fa κ (arrOf st') lo m->q+1 <= m->(∀ i,lo+m - (q+1) <= i->i < lo+m->KK κ (arrOf st') i=KK κ (arrOf st') (lo+m - 1))->Q (none,m,q) st') :
  wpS (model prog w) A E s (zJw lo n nrem) Q st:=by
 unfold zJw
 refine wpS_forRange (I:=fun x c u=>∃ q,c=(none,x,q)/\j8 a₀ lo (lo+nrem) st₀ u/\Fa κ (arrOf u) lo x/\q+1 <= x/\(∀ i,lo+x - (q+1) <= i->i < lo+x->KK κ (arrOf u) i=KK κ (arrOf u) (lo+x - 1)))
  (fun x c u hax hxn ⟨q,ec,k2,fa,hq,he⟩=>?step) (fun c u ⟨q,ec,k2,fa,hq,he⟩=>?fin) ⟨0,rfl,kp,hs,by omega,fun i a b=>by congr 1;omega⟩
 case fin =>
  subst ec
  rw[show max n nrem=nrem by omega] at fa hq he ⊢
  exact h nrem q u k2 hnn (Nat.le_refl _) fa hq he
 case step =>
  subst ec
  dsimp only
  have hz:lo+x <= (arrOf u).size:=by rw[k2.ok.sz];omega
  refine wpS_bind (zFP hO h0 k2.ok (by omega) (by omega) ?_)
  cases hb:κ.blt (KK κ (arrOf u) (lo+x)) (KK κ (arrOf u) (lo+x - 1)) with
  | true =>
   simp only[if_true]
   have f2:=fa.more (by omega) (KeyOrd.kle_of_klt hb)
   by_cases c:q > 0
   ·rw[if_pos c]
    exact wpS_bind (wpS_reverse (wpS_pure ⟨0,rfl,k2.trans (j8.mir k2.ok (by omega) (by omega) hn),f2.same (KK_mirror_equal hz he),by omega,fun i a b=>by congr 1;omega⟩))
   ·rw[if_neg c]
    exact wpS_pure ⟨0,rfl,k2,f2,by omega,fun i a b=>by congr 1;omega⟩
  | false =>
   simp only[Bool.false_eq_true,if_false]
   refine wpS_bind (zFP hO h0 k2.ok (by omega) (by omega) ?_)
   cases hc:κ.blt (KK κ (arrOf u) (lo+x - 1)) (KK κ (arrOf u) (lo+x)) with
   | true=>simp only[if_true];exact wpS_pure (h x q u k2 hax (by omega) fa hq he)
   | false =>
    simp only[Bool.false_eq_true,if_false]
    have eq:=KeyOrd.kle_antisymm (show κ.kle (KK κ (arrOf u) (lo+x)) (KK κ (arrOf u) (lo+x - 1)) from hc) hb
    refine wpS_pure ⟨q+1,rfl,k2,fa.more (by omega) hc,by omega,fun i a b=>?_⟩
    rw[show lo+(x+1) - 1=lo+x by omega]
    by_cases d:i=lo+x
    ·rw[d]
    ·rw[eq];exact he i (by omega) (by omega)
theorem zJI {st st₀:SortSt}{lo n nrem:Nat}{Q:Option Nat->SortSt->Prop} (hO:κ.OneLt) (h0:KeysOf κ a₀) (hn:lo+nrem <= a₀.size) (hnn:n+1 <= nrem) (kp:j8 a₀ lo (lo+nrem) st₀ st) (hs:Fa κ (arrOf st) lo (n+1))
  (h:∀ m st',j8 a₀ lo (lo+nrem) st₀ st'->1 <= m->m <= nrem->Ri κ (arrOf st') lo m->Q (some m) st'):wpS (model prog w) A E s (zHN lo n nrem) Q st:=by
 unfold zHN
 refine wpS_bind (wpS_lift (wpAny_rule ⟨rfl,?_⟩))
 refine wpS_bind (zRF hO h0 hn (by omega) hnn kp hs fun m q u k2 a b fa hq he=>?_)
 dsimp only
 have hz:lo+m <= (arrOf u).size:=by rw[k2.ok.sz];omega
 by_cases c:q > 0
 ·rw[if_pos c]
  exact wpS_bind (wpS_reverse (zLV hO h0 hn (by omega) b (k2.trans (j8.mir k2.ok (by omega) (by omega) hn)) (fa.same (KK_mirror_equal hz he)) h))
 ·rw[if_neg c]
  exact zLV hO h0 hn (by omega) b k2 fa h
theorem zQp {st:SortSt}{lo nrem:Nat}{Q:Option Nat->SortSt->Prop} (hO:κ.OneLt) (h0:KeysOf κ a₀) (hn:lo+nrem <= a₀.size) (h1:1 <= nrem) (g:SG a₀ st)
  (h:∀ m st',j8 a₀ lo (lo+nrem) st st'->1 <= m->m <= nrem->Ri κ (arrOf st') lo m->Q (some m) st'):wpS (model prog w) A E s (countRun' lo nrem) Q st:=by
 rw[zIV]
 refine wpS_bind (zKn hO h0 hn (Nat.le_refl 1) h1 g Ri.one fun n a b ri hor=>?_)
 dsimp only
 by_cases e:n=nrem
 ·rw[if_pos (by simpa using e)]
  exact wpS_pure (h n st (j8.refl g) a b ri)
 rw[if_neg (by simpa using e)]
 have hlt:=hor.resolve_left e
 by_cases c:n > 1
 ·rw[if_pos c]
  refine wpS_bind (zFP hO h0 g (by omega) (by omega) ?_)
  cases hb:κ.blt (KK κ (arrOf st) lo) (KK κ (arrOf st) (lo+n - 1)) with
  | true=>simp only[if_true];exact wpS_pure (h n st (j8.refl g) a b ri)
  | false =>
   simp only[Bool.false_eq_true,if_false]
   have hz:lo+n <= (arrOf st).size:=by rw[g.sz];omega
   have hall:∀ k,lo <= k->k < lo+n->KK κ (arrOf st) k=KK κ (arrOf st) (lo+n - 1):=by
    intro k k1 k2
    have a1:=ri 0 (k - lo) (by omega) (by omega)
    have a2:=ri (k - lo) (n - 1) (by omega) (by omega)
    rw[show lo+(k - lo)=k by omega] at a1 a2
    rw[show lo+(n - 1)=lo+n - 1 by omega] at a2
    exact KeyOrd.kle_antisymm a2 (KeyOrd.kle_trans hb a1)
   refine wpS_bind (wpS_reverse (zJI hO h0 hn (by omega) (j8.mir g (Nat.le_refl _) (by omega) hn) (Fa.same (xs:=arrOf st) (Fa.more (fun i j p q=>?_) (by omega) (KeyOrd.kle_of_klt hlt)) (KK_mirror_equal hz hall)) h))
   rw[hall (lo+i) (by omega) (by omega),hall (lo+j) (by omega) (by omega)]
   exact KeyOrd.kle_refl _
 ·rw[if_neg c]
  obtain rfl:n=1:=by omega
  exact zJI hO h0 hn (by omega) (j8.refl g) (Fa.one.more (Nat.le_refl _) (KeyOrd.kle_of_klt hlt)) h
noncomputable def kyo (κ:KeyKind) (p:Keyed):κ.α:=(κ.keyOf p.1).getD κ.dflt
noncomputable def Zy (κ:KeyKind) (p:Keyed):Prop:=∃ a,κ.keyOf p.1=some a
theorem zGx {st:SortSt}{p q:Keyed}{Q:Option Bool->SortSt->Prop} (hO:κ.OneLt) (kd:kindOf st=oneType') (hp:Zy κ p) (hq:Zy κ q) (h:Q (some (κ.blt (kyo κ p) (kyo κ q))) st):wpS (model prog w) A E s (lt' p q) Q st:=by
 obtain⟨a,ha⟩:=hp
 obtain⟨b,hb⟩:=hq
 rw[show kyo κ p=a by unfold kyo;rw[ha];rfl,show kyo κ q=b by unfold kyo;rw[hb];rfl] at h
 rw[lt'_eq]
 refine wpS_bind (wpS_get ?_)
 rw[kd,keyLt'_oneType]
 exact wpS_bind (wpS_lift (wpAny_attempt (hO prog w A _ s p.1 q.1 a b ha hb ⟨rfl,wpS_pure h⟩)))
theorem qA {st:SortSt}{arr:Array Keyed}{i:Nat}{p:Keyed}{Q:Keyed->SortSt->Prop} (e:arr[i]? = some p) (h:Q p st):wpS (model prog w) A E s (elem' arr i) Q st:=by
 rw[elem'_eq,e];exact wpS_pure h
noncomputable def JL:Bool->Keyed->Array Keyed->Nat->Nat->Nat->StateT SortSt Sem (Option Nat):=sortPriv% PySem.Builtin.gallop
noncomputable def byd (left:Bool) (key:Keyed) (arr:Array Keyed) (base i:Nat):StateT SortSt Sem (Option Bool):=do
 let x <- elem' arr (base+i)
 if left then lt' x key else return (<- lt' key x).map (!·)
noncomputable def gl3 (left:Bool) (key:Keyed) (arr:Array Keyed) (base n lo hi:Nat):StateT SortSt Sem (Option Nat):=do
 let mut lo:=lo
 let mut hi:=hi
 for _ in [0:n] do
  if lo ≥ hi then break
  let m:=lo+(hi - lo) / 2
  let some more <- byd left key arr base m | return none
  if more then lo:=m+1 else hi:=m
 return some hi
noncomputable def gl1 (left:Bool) (key:Keyed) (arr:Array Keyed) (base n hint:Nat):StateT SortSt Sem (Option Nat):=do
 let mut lastofs:=0
 let mut ofs:=1
 for _ in [0:n] do
  if ofs ≥ n - hint then break
  let some more <- byd left key arr base (hint+ofs) | return none
  if !more then break
  lastofs:=ofs
  ofs:=2 * ofs+1
 gl3 left key arr base n (hint+lastofs+1) (hint+min ofs (n - hint))
noncomputable def gl2 (left:Bool) (key:Keyed) (arr:Array Keyed) (base n hint:Nat):StateT SortSt Sem (Option Nat):=do
 let mut lastofs:=0
 let mut ofs:=1
 for _ in [0:n] do
  if ofs ≥ hint+1 then break
  let some found <- byd left key arr base (hint - ofs) | return none
  if found then break
  lastofs:=ofs
  ofs:=2 * ofs+1
 gl3 left key arr base n (hint+1 - min ofs (hint+1)) (hint - lastofs)
theorem zKR (left:Bool) (key:Keyed) (arr:Array Keyed) (base n hint:Nat):JL left key arr base n hint=(do
  match <- byd left key arr base hint with
  | some r=>if r=true then gl1 left key arr base n hint else gl2 left key arr base n hint
  | _=>pure none):=by
 show (sortPriv% PySem.Builtin.gallop) left key arr base n hint=_
 unfold gl1 gl2 gl3
 rfl
noncomputable def By (κ:KeyKind) (left:Bool) (key:Keyed) (arr:Array Keyed) (i:Nat):Bool:=if left then κ.blt (KK κ arr i) (kyo κ key) else !κ.blt (kyo κ key) (KK κ arr i)
theorem yC {arr:Array Keyed}{i:Nat}{p:Keyed} (e:arr[i]? = some p):KK κ arr i=kyo κ p:=by unfold KK;rw[e];rfl
theorem zFM {st:SortSt}{left:Bool}{key:Keyed}{arr:Array Keyed}{base i:Nat}{Q:Option Bool->SortSt->Prop} (hO:κ.OneLt) (kd:kindOf st=oneType') (ha:∀ p,p∈arr.toList->Zy κ p) (hk:Zy κ key) (hi:base+i < arr.size)
  (h:Q (some (By κ left key arr (base+i))) st):wpS (model prog w) A E s (byd left key arr base i) Q st:=by
 unfold byd
 have e:arr[base+i]? = some arr[base+i]:=getElem?_pos arr (base+i) hi
 have hx:Zy κ arr[base+i]:=ha _ (by simp)
 refine wpS_bind (qA e ?_)
 unfold By at h
 rw[yC e] at h
 cases left with
 | true=>simp only[if_true] at h ⊢;exact zGx hO kd hx hk h
 | false=>simp only[Bool.false_eq_true,if_false] at h ⊢;exact wpS_bind (zGx hO kd hk hx (wpS_pure h))
noncomputable def GK (κ:KeyKind) (left:Bool) (key:Keyed) (arr:Array Keyed) (base n k:Nat):Prop:=k <= n/\(∀ i,i < k->By κ left key arr (base+i)=true)/\(∀ i,k <= i->i < n->By κ left key arr (base+i)=false)
theorem By.down {left:Bool}{key:Keyed}{arr:Array Keyed}{base n:Nat} (so:Ri κ arr base n) {i j:Nat} (hij:i <= j) (hj:j < n) (h:By κ left key arr (base+j)=true):By κ left key arr (base+i)=true:=by
 unfold By at *
 cases left with
 | true=>simp only[if_true] at h ⊢;exact KeyOrd.klt_of_kle_of_klt (so i j hij hj) h
 | false =>
  simp only[Bool.false_eq_true,if_false,Bool.not_eq_true'] at h ⊢
  exact KeyOrd.kle_trans (so i j hij hj) h
theorem By.up {left:Bool}{key:Keyed}{arr:Array Keyed}{base n:Nat} (so:Ri κ arr base n) {i j:Nat} (hij:i <= j) (hj:j < n) (h:By κ left key arr (base+i)=false):By κ left key arr (base+j)=false:=by
 cases e:By κ left key arr (base+j) with
 | false=>rfl
 | true=>rw[By.down so hij hj e] at h;cases h
theorem zLc {st:SortSt}{left:Bool}{key:Keyed}{arr:Array Keyed}{base n lo hi:Nat}{Q:Option Nat->SortSt->Prop} (hO:κ.OneLt) (kd:kindOf st=oneType') (ha:∀ p,p∈arr.toList->Zy κ p) (hk:Zy κ key) (hb:base+n <= arr.size) (so:Ri κ arr base n)
  (hlh:lo <= hi) (hn:hi <= n) (h1:∀ i,i < lo->By κ left key arr (base+i)=true) (h2:∀ i,hi <= i->i < n->By κ left key arr (base+i)=false) (h:∀ k,GK κ left key arr base n k->Q (some k) st):wpS (model prog w) A E s (gl3 left key arr base n lo hi) Q st:=by
 unfold gl3
 refine wpS_bind (wpS_mono (wpS_forRange (I:=fun x c u=>u=st/\∃ r l,c=(none,l,r)/\l <= r/\r <= n/\r - l <= n - x/\(∀ i,i < l->By κ left key arr (base+i)=true)/\(∀ i,r <= i->i < n->By κ left key arr (base+i)=false))
  (Q:=fun c u=>u=st/\∃ r l,c=(none,l,r)/\GK κ left key arr base n r) (fun x c u _ hx ⟨eu,r,l,ec,a1,a2,a3,a4,a5⟩=>?step) (fun c u ⟨eu,r,l,ec,a1,a2,a3,a4,a5⟩=>?fin) ⟨rfl,hi,lo,rfl,hlh,hn,by omega,h1,h2⟩) fun c u ⟨eu,r,l,ec,g⟩=>?post)
 case step =>
  subst eu ec
  dsimp only
  by_cases hge:l ≥ r
  ·rw[if_pos hge]
   obtain rfl:l=r:=by omega
   exact wpS_pure ⟨rfl,l,l,rfl,a2,a4,a5⟩
  rw[if_neg hge]
  refine wpS_bind (zFM hO kd ha hk (by omega) ?_)
  cases hm:By κ left key arr (base+(l+(r - l) / 2)) with
  | true =>
   simp only[if_true]
   exact wpS_pure ⟨rfl,r,l+(r - l) / 2+1,rfl,by omega,a2,by omega,fun i hi=>By.down so (by omega) (by omega) hm,a5⟩
  | false =>
   simp only[Bool.false_eq_true,if_false]
   exact wpS_pure ⟨rfl,l+(r - l) / 2,l,rfl,by omega,by omega,by omega,a4,fun i b c=>By.up so b c hm⟩
 case fin =>
  obtain rfl:l=r:=by omega
  exact⟨eu,l,l,ec,a2,a4,a5⟩
 case post =>
  subst eu ec
  exact wpS_pure (h r g)
theorem zPj {st:SortSt}{left:Bool}{key:Keyed}{arr:Array Keyed}{base n hint:Nat}{Q:Option Nat->SortSt->Prop} (hO:κ.OneLt) (kd:kindOf st=oneType') (ha:∀ p,p∈arr.toList->Zy κ p) (hk:Zy κ key) (hb:base+n <= arr.size) (so:Ri κ arr base n)
  (hh:hint < n) (h1:By κ left key arr (base+hint)=true) (h:∀ k,GK κ left key arr base n k->Q (some k) st):wpS (model prog w) A E s (gl1 left key arr base n hint) Q st:=by
 unfold gl1
 refine wpS_bind (wpS_mono (wpS_forRange (I:=fun x c u=>u=st/\∃ l o,c=(none,l,o)/\l < o/\x+1 <= o/\hint+l < n/\By κ left key arr (base+(hint+l))=true)
  (Q:=fun c u=>u=st/\∃ l o,c=(none,l,o)/\l < o/\hint+l < n/\By κ left key arr (base+(hint+l))=true/\(n - hint <= o\/By κ left key arr (base+(hint+o))=false)) (fun x c u _ hx ⟨eu,l,o,ec,a1,a2,a3,a4⟩=>?step) (fun c u ⟨eu,l,o,ec,a1,a2,a3,a4⟩=>⟨eu,l,o,ec,a1,a3,a4,.inl (by omega)⟩)
   ⟨rfl,0,1,rfl,by omega,by omega,by omega,h1⟩) fun c u ⟨eu,l,o,ec,a1,a2,a3,a4⟩=>?post)
 case step =>
  subst eu ec
  dsimp only
  by_cases hge:o ≥ n - hint
  ·rw[if_pos hge]
   exact wpS_pure ⟨rfl,l,o,rfl,a1,a3,a4,.inl hge⟩
  rw[if_neg hge]
  refine wpS_bind (zFM hO kd ha hk (by omega) ?_)
  cases hm:By κ left key arr (base+(hint+o)) with
  | true =>
   simp only[Bool.not_true,Bool.false_eq_true,if_false]
   exact wpS_pure ⟨rfl,o,2 * o+1,rfl,by omega,by omega,by omega,hm⟩
  | false =>
   simp only[Bool.not_false,if_true]
   exact wpS_pure ⟨rfl,l,o,rfl,a1,a3,a4,.inr hm⟩
 case post =>
  subst eu ec
  dsimp only
  refine zLc hO kd ha hk hb so (by omega) (by omega) (fun i hi=>By.down so (j:=hint+l) (by omega) (by omega) a3) (fun i b c=>?_) h
  rcases a4 with a4 | a4
  ·omega
  ·by_cases hge:o ≥ n - hint
   ·omega
   ·exact By.up so (by omega) c a4
theorem zQo {st:SortSt}{left:Bool}{key:Keyed}{arr:Array Keyed}{base n hint:Nat}{Q:Option Nat->SortSt->Prop} (hO:κ.OneLt) (kd:kindOf st=oneType') (ha:∀ p,p∈arr.toList->Zy κ p) (hk:Zy κ key) (hb:base+n <= arr.size) (so:Ri κ arr base n)
  (hh:hint < n) (h1:By κ left key arr (base+hint)=false) (h:∀ k,GK κ left key arr base n k->Q (some k) st):wpS (model prog w) A E s (gl2 left key arr base n hint) Q st:=by
 unfold gl2
 refine wpS_bind (wpS_mono (wpS_forRange (I:=fun x c u=>u=st/\∃ l o,c=(none,l,o)/\l < o/\x+1 <= o/\l <= hint/\By κ left key arr (base+(hint - l))=false)
  (Q:=fun c u=>u=st/\∃ l o,c=(none,l,o)/\l < o/\l <= hint/\By κ left key arr (base+(hint - l))=false/\(hint+1 <= o\/By κ left key arr (base+(hint - o))=true)) (fun x c u _ hx ⟨eu,l,o,ec,a1,a2,a3,a4⟩=>?step) (fun c u ⟨eu,l,o,ec,a1,a2,a3,a4⟩=>⟨eu,l,o,ec,a1,a3,a4,.inl (by omega)⟩)
   ⟨rfl,0,1,rfl,by omega,by omega,by omega,h1⟩) fun c u ⟨eu,l,o,ec,a1,a2,a3,a4⟩=>?post)
 case step =>
  subst eu ec
  dsimp only
  by_cases hge:o ≥ hint+1
  ·rw[if_pos hge]
   exact wpS_pure ⟨rfl,l,o,rfl,a1,a3,a4,.inl hge⟩
  rw[if_neg hge]
  refine wpS_bind (zFM hO kd ha hk (by omega) ?_)
  cases hm:By κ left key arr (base+(hint - o)) with
  | false =>
   simp only[Bool.false_eq_true,if_false]
   exact wpS_pure ⟨rfl,o,2 * o+1,rfl,by omega,by omega,by omega,hm⟩
  | true =>
   simp only[if_true]
   exact wpS_pure ⟨rfl,l,o,rfl,a1,a3,a4,.inr hm⟩
 case post =>
  subst eu ec
  dsimp only
  refine zLc hO kd ha hk hb so (by omega) (by omega) (fun i hi=>?_) (fun i b c=>By.up so (i:=hint - l) (by omega) c a3) h
  rcases a4 with a4 | a4
  ·omega
  ·by_cases hge:o ≥ hint+1
   ·omega
   ·exact By.down so (j:=hint - o) (by omega) (by omega) a4
theorem JI {st:SortSt}{left:Bool}{key:Keyed}{arr:Array Keyed}{base n hint:Nat}{Q:Option Nat->SortSt->Prop} (hO:κ.OneLt) (kd:kindOf st=oneType') (ha:∀ p,p∈arr.toList->Zy κ p) (hk:Zy κ key) (hb:base+n <= arr.size) (so:Ri κ arr base n)
  (hh:hint < n) (h:∀ k,GK κ left key arr base n k->Q (some k) st):wpS (model prog w) A E s (JL left key arr base n hint) Q st:=by
 rw[zKR]
 refine wpS_bind (zFM hO kd ha hk (by omega) ?_)
 cases hm:By κ left key arr (base+hint) with
 | true=>simp only[if_true];exact zPj hO kd ha hk hb so hh hm h
 | false=>simp only[Bool.false_eq_true,if_false];exact zQo hO kd ha hk hb so hh hm h
structure MI (R:Keyed->Keyed->Prop) (l ra rb out:List Keyed):Prop where
 pm:(out++ra++rb).Perm l
 so:out.Pairwise R
 oa:∀ x,x∈out->∀ y,y∈ra->R x y
 ob:∀ x,x∈out->∀ y,y∈rb->R x y
 sa:ra.Pairwise R
 sb:rb.Pairwise R
theorem MI.swap {R:Keyed->Keyed->Prop}{l ra rb out:List Keyed} (h:MI R l ra rb out):MI R l rb ra out :=
 ⟨List.Perm.trans (l₂:=out++ra++rb) (by rw[List.append_assoc,List.append_assoc];exact List.perm_append_comm.append_left out) h.pm,h.so,h.ob,h.oa,h.sb,h.sa⟩
theorem MI.run {R:Keyed->Keyed->Prop}{l xs ra rb out:List Keyed} (h:MI R l (xs++ra) rb out) (c:∀ x,x∈xs->∀ y,y∈rb->R x y):MI R l ra rb (out++xs):=by
 obtain⟨pm,so,oa,ob,sa,sb⟩:=h
 rw[List.pairwise_append] at sa
 refine⟨by simpa [List.append_assoc] using pm,List.pairwise_append.mpr ⟨so,sa.1,fun x hx y hy=>oa x hx y (List.mem_append_left _ hy)⟩,fun x hx y hy=>?_,fun x hx y hy=>?_,sa.2.1,sb⟩
 ·rcases List.mem_append.mp hx with hx | hx
  ·exact oa x hx y (List.mem_append_right _ hy)
  ·exact sa.2.2 x hx y hy
 ·rcases List.mem_append.mp hx with hx | hx
  ·exact ob x hx y hy
  ·exact c x hx y hy
theorem MI.fin {R:Keyed->Keyed->Prop}{l ra rb out:List Keyed} (h:MI R l ra rb out) (c:∀ x,x∈ra->∀ y,y∈rb->R x y):(out++ra++rb).Pairwise R:=by
 obtain⟨pm,so,oa,ob,sa,sb⟩:=h
 refine List.pairwise_append.mpr ⟨List.pairwise_append.mpr ⟨so,sa,oa⟩,sb,fun x hx y hy=>?_⟩
 rcases List.mem_append.mp hx with hx | hx
 ·exact ob x hx y hy
 ·exact c x hx y hy
theorem JJ {a:Array Keyed}{i:Nat}{y:Keyed} (h:y∈a.toList.drop i):∃ j,i <= j/\j < a.size/\a[j]? = some y:=by
 obtain⟨j,hj,e⟩:=List.mem_iff_getElem.mp h
 rw[List.getElem_drop] at e
 rw[List.length_drop] at hj
 have:i+j < a.size:=by rw[<- Array.length_toList];omega
 exact⟨i+j,by omega,this,by rw[getElem?_pos a (i+j) this,<- e];simp⟩
theorem zIx {a:Array Keyed}{i:Nat}{p:Keyed} (e:a[i]? = some p):a.toList.drop i=p::a.toList.drop (i+1):=by
 obtain⟨hi,e⟩:=Array.getElem?_eq_some_iff.mp e
 rw[List.drop_eq_getElem_cons (by rw[Array.length_toList];exact hi),Array.getElem_toList,e]
theorem zCG {a:Array Keyed}{i k:Nat}:a.toList.drop i=(a.extract i (i+k)).toList++a.toList.drop (i+k):=by
 rw[Array.toList_extract,List.extract_eq_take_drop,<- List.drop_drop,Nat.add_sub_cancel_left,List.take_append_drop]
theorem zDV {a:Array Keyed}{i k:Nat}{y:Keyed} (h:y∈(a.extract i k).toList):∃ j,i <= j/\j < k/\j < a.size/\a[j]? = some y:=by
 obtain⟨j,hj,e⟩:=List.mem_iff_getElem.mp h
 rw[Array.getElem_toList,Array.getElem_extract] at e
 rw[Array.length_toList,Array.size_extract] at hj
 have:i+j < a.size:=by omega
 exact⟨i+j,by omega,by omega,this,by rw[getElem?_pos a (i+j) this,e]⟩
theorem zD5 {a:Array Keyed}{n:Nat}{p:Keyed} (e:a[n]? = some p):(a.toList.take (n+1)).reverse=p::(a.toList.take n).reverse:=by
 obtain⟨hi,e⟩:=Array.getElem?_eq_some_iff.mp e
 rw[List.take_succ_eq_append_getElem (by rw[Array.length_toList];exact hi),List.reverse_append,Array.getElem_toList,e];rfl
theorem zDD {a:Array Keyed}{m n:Nat} (h:m <= n):(a.toList.take n).reverse=(a.extract m n).reverse.toList++(a.toList.take m).reverse:=by
 rw[Array.toList_reverse,<- List.reverse_append,Array.toList_extract,List.extract_eq_take_drop]
 congr 1
 obtain⟨d,rfl⟩:∃ d,n=m+d:=⟨n - m,by omega⟩
 rw[Nat.add_sub_cancel_left,List.take_add]
theorem JE {a:Array Keyed}{n:Nat}{y:Keyed} (h:y∈(a.toList.take n).reverse):∃ j,j < n/\j < a.size/\a[j]? = some y:=by
 rw[List.mem_reverse] at h
 obtain⟨j,hj,e⟩:=List.mem_iff_getElem.mp h
 rw[List.getElem_take] at e
 rw[List.length_take,Array.length_toList] at hj
 exact⟨j,by omega,by omega,by rw[getElem?_pos a j (by omega),<- e];simp⟩
structure jm (st st':SortSt):Prop where
 kd:kindOf st'=kindOf st
 ar:arrOf st'=arrOf st
 pd:pendingOf st'=pendingOf st
 fl:failedOf st'=failedOf st
theorem jm.refl (st:SortSt):jm st st:=⟨rfl,rfl,rfl,rfl⟩
noncomputable def zFG:Nat->StateT SortSt Sem Unit:=sortPriv% PySem.Builtin.setMinGallop
theorem zDj {st₀ st:SortSt}{n:Nat}{Q:Unit->SortSt->Prop} (g:jm st₀ st) (h:∀ st',jm st₀ st'->Q () st'):wpS (model prog w) A E s (zFG n) Q st:=by
 show wpS _ _ _ _ (modify fun z:SortSt=>SortSt.mk' (kindOf z) (arrOf z) (pendingOf z) n (failedOf z)) _ _
 exact wpS_modify (h _ ⟨g.kd,g.ar,g.pd,g.fl⟩)
noncomputable def zEU:Array Keyed->Array Keyed->StateT SortSt Sem (Array Keyed):=sortPriv% PySem.Builtin.mergeLo
noncomputable def zEW:Array Keyed->Array Keyed->StateT SortSt Sem (Array Keyed):=sortPriv% PySem.Builtin.mergeHi
noncomputable def dnL (x y out:Array Keyed) (i j:Nat):=out++x.extract i x.size++y.extract j y.size
noncomputable def lsL (x y out:Array Keyed) (i j:Nat):=out++y.extract j y.size++x.extract i x.size
noncomputable def dnH (x y out:Array Keyed) (i j:Nat):=x.extract 0 i++y.extract 0 j++out.reverse
noncomputable def fsH (x y out:Array Keyed) (i j:Nat):=y.extract 0 j++x.extract 0 i++out.reverse
noncomputable abbrev C7:=Option (Array Keyed)×Array Keyed×Nat×Nat×Nat×Nat×Nat
noncomputable abbrev C6:=Option (Array Keyed)×Array Keyed×Nat×Nat×Nat×Nat
noncomputable def loD (x y out:Array Keyed) (i j mg ac bc:Nat):StateT SortSt Sem (ForInStep C7):=do
 let p <- elem' x i
 if (i+1+1 == x.size)=true then pure (.done (some (lsL x y (out.push p) (i+1) j),out.push p,i+1,j,mg,ac,bc))
 else if (decide (ac < 7) && decide (bc < 7))=true then pure (.done (none,out.push p,i+1,j,mg,ac,bc))
 else pure (.yield (none,out.push p,i+1,j,mg,ac,bc))
noncomputable def loC (x y out:Array Keyed) (i j mg ac bc:Nat):StateT SortSt Sem (ForInStep C7):=do
 let p <- elem' x i
 match <- JL true p y j (y.size - j) 0 with
 | some k =>
  if k > 0 then
   if (j+k == y.size)=true then pure (.done (some (dnL x y (out++y.extract j (j+k)) i (j+k)),out++y.extract j (j+k),i,j+k,mg,ac,k))
   else loD x y (out++y.extract j (j+k)) i (j+k) mg ac k
  else loD x y out i j mg ac k
 | _=>pure (.done (some (dnL x y out i j),out,i,j,mg,ac,bc))
noncomputable def loB (x y out:Array Keyed) (i j mg ac bc:Nat):StateT SortSt Sem (ForInStep C7):=do
 let p <- elem' y j
 if (j+1 == y.size)=true then pure (.done (some (dnL x y (out.push p) i (j+1)),out.push p,i,j+1,mg,ac,bc))
 else loC x y (out.push p) i (j+1) mg ac bc
noncomputable def loA (x y out:Array Keyed) (i j mg ac bc:Nat):StateT SortSt Sem (ForInStep C7):=do
 zFG mg
 let p <- elem' y j
 match <- JL false p x i (x.size - i) 0 with
 | some k =>
  if k > 0 then
   if (i+k+1 == x.size)=true then pure (.done (some (lsL x y (out++x.extract i (i+k)) (i+k) j),out++x.extract i (i+k),i+k,j,mg,k,bc))
   else if (i+k == x.size)=true then pure (.done (some (dnL x y (out++x.extract i (i+k)) (i+k) j),out++x.extract i (i+k),i+k,j,mg,k,bc))
   else loB x y (out++x.extract i (i+k)) (i+k) j mg k bc
  else loB x y out i j mg k bc
 | _=>pure (.done (some (dnL x y out i j),out,i,j,mg,ac,bc))
noncomputable def lo1 (x y:Array Keyed) (mg:Nat) (c:C6):StateT SortSt Sem (ForInStep C6):=do
 let p <- elem' y c.2.2.2.1
 let q <- elem' x c.2.2.1
 match <- lt' p q with
 | some r =>
  if r=true then do
   let p <- elem' y c.2.2.2.1
   if (c.2.2.2.1+1 == y.size)=true then pure (.done (some (dnL x y (c.2.1.push p) c.2.2.1 (c.2.2.2.1+1)),c.2.1.push p,c.2.2.1,c.2.2.2.1+1,0,c.2.2.2.2.2+1))
   else if c.2.2.2.2.2+1 ≥ mg then pure (.done (none,c.2.1.push p,c.2.2.1,c.2.2.2.1+1,0,c.2.2.2.2.2+1))
   else pure (.yield (none,c.2.1.push p,c.2.2.1,c.2.2.2.1+1,0,c.2.2.2.2.2+1))
  else do
   let q <- elem' x c.2.2.1
   if (c.2.2.1+1+1 == x.size)=true then pure (.done (some (lsL x y (c.2.1.push q) (c.2.2.1+1) c.2.2.2.1),c.2.1.push q,c.2.2.1+1,c.2.2.2.1,c.2.2.2.2.1+1,0))
   else if c.2.2.2.2.1+1 ≥ mg then pure (.done (none,c.2.1.push q,c.2.2.1+1,c.2.2.2.1,c.2.2.2.2.1+1,0))
   else pure (.yield (none,c.2.1.push q,c.2.2.1+1,c.2.2.2.1,c.2.2.2.2.1+1,0))
 | _=>pure (.done (some (dnL x y c.2.1 c.2.2.1 c.2.2.2.1),c.2.1,c.2.2.1,c.2.2.2.1,c.2.2.2.2.1,c.2.2.2.2.2))
noncomputable abbrev C5:=Option (Array Keyed)×Array Keyed×Nat×Nat×Nat
noncomputable def loO (x y:Array Keyed) (c:C5):StateT SortSt Sem (ForInStep C5):=do
 let d <- forIn [0:x.size+y.size] ((none,c.2.1,c.2.2.1,c.2.2.2.1,0,0):C6) fun _ d=>lo1 x y c.2.2.2.2 d
 match d.1 with
 | some r=>pure (.done (some r,d.2.1,d.2.2.1,d.2.2.2.1,c.2.2.2.2))
 | none=>do
  liftM (rule "list.sort.gallop")
  let e <- forIn [0:x.size+y.size] ((none,d.2.1,d.2.2.1,d.2.2.2.1,c.2.2.2.2+1,d.2.2.2.2.1,d.2.2.2.2.2):C7) fun _ e =>
   if e.2.2.2.2.1 > 1 then loA x y e.2.1 e.2.2.1 e.2.2.2.1 (e.2.2.2.2.1 - 1) e.2.2.2.2.2.1 e.2.2.2.2.2.2 else loA x y e.2.1 e.2.2.1 e.2.2.2.1 e.2.2.2.2.1 e.2.2.2.2.2.1 e.2.2.2.2.2.2
  match e.1 with
  | some r=>pure (.done (some r,e.2.1,e.2.2.1,e.2.2.2.1,e.2.2.2.2.1))
  | none=>do
   zFG (e.2.2.2.2.1+1)
   pure (.yield (none,e.2.1,e.2.2.1,e.2.2.2.1,e.2.2.2.2.1+1))
theorem zIT (x y:Array Keyed):zEU x y=(do
 liftM (rule "list.sort.merge-lo")
 let p <- elem' y 0
 if (1 == y.size)=true then pure (dnL x y #[p] 0 1)
 else if (0+1 == x.size)=true then pure (lsL x y #[p] 0 1)
 else do
  let z <- get
  let c <- forIn [0:x.size+y.size] ((none,#[p],0,1,gallopOf z):C5) fun _ c=>loO x y c
  match c.1 with
  | some r=>pure r
  | none=>liftM (unsupported "internal:list.sort.merge-bound" : Sem (Array Keyed))):=by
 show (sortPriv% PySem.Builtin.mergeLo) x y=_
 refine congrArg (bind _) (funext fun _=>congrArg (bind _) (funext fun p=>ite_congr rfl (fun _=>rfl) fun _=>ite_congr rfl (fun _=>rfl) fun _=>congrArg (bind _) (funext fun z=>?_)))
 refine congr (congrArg bind (congrArg _ (funext fun _=>funext fun c=>congrArg (bind _) (funext fun d=>?_)))) (funext fun c=>?_)
 ·obtain⟨d1,d⟩:=d
  cases d1 with
  | some r=>rfl
  | none=>exact congrArg (bind _) (funext fun _=>congrArg (bind _) (funext fun e=>by obtain⟨e1,e⟩:=e;cases e1<;>rfl))
 ·obtain⟨c1,c⟩:=c
  cases c1<;>rfl
noncomputable def kl (κ:KeyKind) (p q:Keyed):Prop:=κ.kle (kyo κ p) (kyo κ q)
structure MG (κ:KeyKind) (x y:Array Keyed):Prop where
 kx:∀ p,p∈x.toList->Zy κ p
 ky:∀ p,p∈y.toList->Zy κ p
 rx:Ri κ x 0 x.size
 ry:Ri κ y 0 y.size
 nx:1 <= x.size
 ny:1 <= y.size
 fst:∀ p q,y[0]? = some p->x[0]? = some q->kl κ p q
 lst:∀ p q,y[y.size - 1]? = some p->x[x.size - 1]? = some q->kl κ p q
noncomputable def Rs (κ:KeyKind) (x y r:Array Keyed):Prop:=r.toList.Perm (x.toList++y.toList)/\r.toList.Pairwise (kl κ)
theorem Ri.at {x:Array Keyed} (r:Ri κ x 0 x.size) {i j:Nat}{p q:Keyed} (hij:i <= j) (hp:x[i]? = some p) (hq:x[j]? = some q):kl κ p q:=by
 have hj:j < x.size:=(Array.getElem?_eq_some_iff.mp hq).1
 have:=r i j hij hj
 rwa [Nat.zero_add,Nat.zero_add,yC hp,yC hq] at this
theorem Ri.tail {x:Array Keyed} (r:Ri κ x 0 x.size) (i n:Nat) (h:i+n <= x.size):Ri κ x i n:=fun a b c d=>by
 have:=r (i+a) (i+b) (by omega) (by omega)
 rwa [Nat.zero_add,Nat.zero_add] at this
theorem Ri.pair {x:Array Keyed} (r:Ri κ x 0 x.size):x.toList.Pairwise (kl κ):=by
 rw[List.pairwise_iff_getElem]
 intro i j hi hj hij
 rw[Array.length_toList] at hi hj
 exact r.at (Nat.le_of_lt hij) (by rw[getElem?_pos x i hi];simp) (by rw[getElem?_pos x j hj];simp)
theorem zAH {x:Array Keyed} (h:∀ p,p∈x.toList->Zy κ p) {i:Nat}{p:Keyed} (e:x[i]? = some p):Zy κ p:=by
 obtain⟨hi,rfl⟩:=Array.getElem?_eq_some_iff.mp e
 exact h _ (by simp)
theorem qj (x:Array Keyed) {i:Nat} (h:i < x.size):∃ p,x[i]? = some p:=⟨_,getElem?_pos x i h⟩
noncomputable def ML (κ:KeyKind) (x y:Array Keyed) (i j:Nat) (out:Array Keyed):Prop:=MI (kl κ) (x.toList++y.toList) (x.toList.drop i) (y.toList.drop j) out.toList
section
variable {x y out:Array Keyed}{i j:Nat}{p:Keyed}
theorem ML.a (h:ML κ x y i j out) (e:x[i]? = some p) (c:∀ m q,j <= m->y[m]? = some q->kl κ p q):ML κ x y (i+1) j (out.push p):=by
 unfold ML at *
 rw[zIx e] at h
 have:=MI.run (xs:=[p]) h fun z hz q hq=>by
  obtain⟨m,a,_,b⟩:=JJ hq
  rw[List.mem_singleton.mp hz];exact c m q a b
 rwa [Array.toList_push]
theorem ML.b (h:ML κ x y i j out) (e:y[j]? = some p) (c:∀ m q,i <= m->x[m]? = some q->kl κ p q):ML κ x y i (j+1) (out.push p):=by
 unfold ML at *
 rw[zIx e] at h
 have:=MI.run (xs:=[p]) h.swap fun z hz q hq=>by
  obtain⟨m,a,_,b⟩:=JJ hq
  rw[List.mem_singleton.mp hz];exact c m q a b
 rw[Array.toList_push];exact this.swap
theorem ML.as {k:Nat} (h:ML κ x y i j out) (c:∀ m q,i <= m->m < i+k->x[m]? = some q->∀ m' q',j <= m'->y[m']? = some q'->kl κ q q'):ML κ x y (i+k) j (out++x.extract i (i+k)):=by
 unfold ML at *
 rw[zCG (k:=k)] at h
 have:=MI.run h fun z hz q hq=>by
  obtain⟨m,a,_,b⟩:=JJ hq
  obtain⟨m',a',b',_,c'⟩:=zDV hz
  exact c m' z a' b' c' m q a b
 rwa [Array.toList_append]
theorem ML.bs {k:Nat} (h:ML κ x y i j out) (c:∀ m q,j <= m->m < j+k->y[m]? = some q->∀ m' q',i <= m'->x[m']? = some q'->kl κ q q'):ML κ x y i (j+k) (out++y.extract j (j+k)):=by
 unfold ML at *
 have h:=h.swap
 rw[zCG (k:=k)] at h
 have:=MI.run h fun z hz q hq=>by
  obtain⟨m,a,_,b⟩:=JJ hq
  obtain⟨m',a',b',_,c'⟩:=zDV hz
  exact c m' z a' b' c' m q a b
 rw[Array.toList_append];exact this.swap
theorem zCH (z:Array Keyed) (i:Nat):(z.extract i z.size).toList=z.toList.drop i:=by
 rw[Array.toList_extract,List.extract_eq_take_drop,List.take_of_length_le (by rw[List.length_drop,Array.length_toList];omega)]
theorem ML.dn (h:ML κ x y i j out) (c:i=x.size\/j=y.size):Rs κ x y (dnL x y out i j):=by
 unfold Rs dnL
 rw[Array.toList_append,Array.toList_append,zCH,zCH]
 refine⟨h.pm,h.fin fun a ha b hb=>?_⟩
 obtain⟨m,a1,a2,a3⟩:=JJ ha
 obtain⟨m',b1,b2,b3⟩:=JJ hb
 omega
theorem ML.ls (g:MG κ x y) (h:ML κ x y i j out) (c:i+1=x.size):Rs κ x y (lsL x y out i j):=by
 unfold Rs lsL
 rw[Array.toList_append,Array.toList_append,zCH,zCH]
 refine⟨h.swap.pm,h.swap.fin fun a ha b hb=>?_⟩
 obtain⟨m,a1,a2,a3⟩:=JJ ha
 obtain⟨m',b1,b2,b3⟩:=JJ hb
 obtain rfl:m'=x.size - 1:=by omega
 obtain⟨l,el⟩:=qj y (i:=y.size - 1) (by omega)
 exact KeyOrd.kle_trans (g.ry.at (show m <= y.size - 1 by omega) a3 el) (g.lst l b el b3)
end
noncomputable def Lo7 (κ:KeyKind) (st₀:SortSt) (x y:Array Keyed) (b:Nat) (c:C7) (u:SortSt):Prop :=
 jm st₀ u/\match c.1 with
  | some r=>Rs κ x y r
  | none=>ML κ x y c.2.2.1 c.2.2.2.1 c.2.1/\c.2.2.1+1 < x.size/\c.2.2.2.1 < y.size/\b <= c.2.2.1+c.2.2.2.1
noncomputable def St7 (κ:KeyKind) (st₀:SortSt) (x y:Array Keyed) (b:Nat) (r:ForInStep C7) (u:SortSt):Prop :=
 match r with
 | .done c=>Lo7 κ st₀ x y b c u
 | .yield c=>c.1=none/\Lo7 κ st₀ x y b c u
section
variable {st₀ st:SortSt}{x y out:Array Keyed}{i j mg ac bc b:Nat}
theorem zKi (g:MG κ x y) (sg:jm st₀ st) (h:ML κ x y i j out) (hi:i+1 < x.size) (hj:j < y.size) (hb:b <= i+j) (c:∀ p,x[i]? = some p->∀ m q,j <= m->y[m]? = some q->kl κ p q) :
  wpS (model prog w) A E s (loD x y out i j mg ac bc) (St7 κ st₀ x y b) st:=by
 unfold loD
 obtain⟨p,e⟩:=qj x (show i < x.size by omega)
 have h2:=h.a e (c p e)
 refine wpS_bind (qA e ?_)
 by_cases c1:i+1+1=x.size
 ·rw[if_pos (by simpa using c1)]
  exact wpS_pure ⟨sg,h2.ls g c1⟩
 rw[if_neg (by simpa using c1)]
 split
 ·exact wpS_pure ⟨sg,h2,by show i+1+1 < _;omega,hj,by show b <= i+1+j;omega⟩
 ·exact wpS_pure ⟨rfl,sg,h2,by show i+1+1 < _;omega,hj,by show b <= i+1+j;omega⟩
theorem zQY (hO:κ.OneLt) (kd:kindOf st=oneType') (g:MG κ x y) (sg:jm st₀ st) (h:ML κ x y i j out) (hi:i+1 < x.size) (hj:j < y.size) (hb:b <= i+j) :
  wpS (model prog w) A E s (loC x y out i j mg ac bc) (St7 κ st₀ x y b) st:=by
 unfold loC
 obtain⟨p,e⟩:=qj x (show i < x.size by omega)
 refine wpS_bind (qA e (wpS_bind (JI hO kd g.ky (zAH g.kx e) (by omega) (g.ry.tail j _ (by omega)) (by omega) fun k ⟨k1,k2,k3⟩=>?_)))
 have f2:∀ m q,j <= m->m < j+k->y[m]? = some q->∀ m' q',i <= m'->x[m']? = some q'->kl κ q q':=fun m q a b c m' q' a' b'=>by
  have:=k2 (m - j) (by omega)
  unfold By at this
  rw[if_pos rfl,show j+(m - j)=m by omega,yC c] at this
  exact KeyOrd.kle_trans (KeyOrd.kle_of_klt this) (g.rx.at a' e b')
 have f3:∀ m q,j+k <= m->y[m]? = some q->kl κ p q:=fun m q a b=>by
  have hm:m < y.size:=(Array.getElem?_eq_some_iff.mp b).1
  have:=k3 (m - j) (by omega) (by omega)
  unfold By at this
  rw[if_pos rfl,show j+(m - j)=m by omega,yC b] at this
  exact this
 dsimp only
 by_cases c1:k > 0
 ·rw[if_pos c1]
  have h2:=h.bs f2
  by_cases c2:j+k=y.size
  ·rw[if_pos (by simpa using c2)]
   exact wpS_pure ⟨sg,h2.dn (.inr c2)⟩
  rw[if_neg (by simpa using c2)]
  exact zKi g sg h2 hi (by omega) (by omega) fun p' e' m q a b=>by rw[e] at e';cases e';exact f3 m q a b
 ·rw[if_neg c1]
  obtain rfl:k=0:=by omega
  exact zKi g sg h hi hj hb fun p' e' m q a b=>by rw[e] at e';cases e';exact f3 m q (by omega) b
theorem zK7 (hO:κ.OneLt) (kd:kindOf st=oneType') (g:MG κ x y) (sg:jm st₀ st) (h:ML κ x y i j out) (hi:i+1 < x.size) (hj:j < y.size) (hb:b <= i+j) (c:∀ p,y[j]? = some p->∀ m q,i <= m->x[m]? = some q->kl κ p q) :
  wpS (model prog w) A E s (loB x y out i j mg ac bc) (St7 κ st₀ x y b) st:=by
 unfold loB
 obtain⟨p,e⟩:=qj y hj
 have h2:=h.b e (c p e)
 refine wpS_bind (qA e ?_)
 by_cases c1:j+1=y.size
 ·rw[if_pos (by simpa using c1)]
  exact wpS_pure ⟨sg,h2.dn (.inr c1)⟩
 rw[if_neg (by simpa using c1)]
 exact zQY hO kd g sg h2 hi (by omega) (by omega)
theorem zRV (hO:κ.OneLt) (kd:kindOf st₀=oneType') (g:MG κ x y) (sg:jm st₀ st) (h:ML κ x y i j out) (hi:i+1 < x.size) (hj:j < y.size) (hb:b <= i+j) :
  wpS (model prog w) A E s (loA x y out i j mg ac bc) (St7 κ st₀ x y b) st:=by
 unfold loA
 obtain⟨p,e⟩:=qj y hj
 refine wpS_bind (zDj sg fun u sg=>?_)
 have kd:kindOf u=oneType':=sg.kd.trans kd
 refine wpS_bind (qA e (wpS_bind (JI hO kd g.kx (zAH g.ky e) (by omega) (g.rx.tail i _ (by omega)) (by omega) fun k ⟨k1,k2,k3⟩=>?_)))
 have f2:∀ m q,i <= m->m < i+k->x[m]? = some q->∀ m' q',j <= m'->y[m']? = some q'->kl κ q q':=fun m q a b c m' q' a' b'=>by
  have:=k2 (m - i) (by omega)
  unfold By at this
  rw[if_neg (by decide),show i+(m - i)=m by omega,yC c,Bool.not_eq_true'] at this
  exact KeyOrd.kle_trans (show κ.kle (kyo κ q) (kyo κ p) from this) (g.ry.at a' e b')
 have f3:∀ m q,i+k <= m->x[m]? = some q->kl κ p q:=fun m q a b=>by
  have hm:m < x.size:=(Array.getElem?_eq_some_iff.mp b).1
  have:=k3 (m - i) (by omega) (by omega)
  unfold By at this
  rw[if_neg (by decide),show i+(m - i)=m by omega,yC b,Bool.not_eq_false'] at this
  exact KeyOrd.kle_of_klt this
 dsimp only
 by_cases c1:k > 0
 ·rw[if_pos c1]
  have h2:=h.as f2
  by_cases c2:i+k+1=x.size
  ·rw[if_pos (by simpa using c2)]
   exact wpS_pure ⟨sg,h2.ls g c2⟩
  rw[if_neg (by simpa using c2)]
  by_cases c3:i+k=x.size
  ·rw[if_pos (by simpa using c3)]
   exact wpS_pure ⟨sg,h2.dn (.inl c3)⟩
  rw[if_neg (by simpa using c3)]
  exact zK7 hO kd g sg h2 (by omega) hj (by omega) fun p' e' m q a b=>by rw[e] at e';cases e';exact f3 m q a b
 ·rw[if_neg c1]
  obtain rfl:k=0:=by omega
  exact zK7 hO kd g sg h hi hj hb fun p' e' m q a b=>by rw[e] at e';cases e';exact f3 m q (by omega) b
noncomputable def Lo6 (κ:KeyKind) (st₀:SortSt) (x y:Array Keyed) (b:Nat) (c:C6) (u:SortSt):Prop :=
 jm st₀ u/\match c.1 with
  | some r=>Rs κ x y r
  | none=>ML κ x y c.2.2.1 c.2.2.2.1 c.2.1/\c.2.2.1+1 < x.size/\c.2.2.2.1 < y.size/\b <= c.2.2.1+c.2.2.2.1
noncomputable def St6 (κ:KeyKind) (st₀:SortSt) (x y:Array Keyed) (b:Nat) (r:ForInStep C6) (u:SortSt):Prop :=
 match r with
 | .done c=>Lo6 κ st₀ x y b c u
 | .yield c=>c.1=none/\Lo6 κ st₀ x y b c u
theorem zP5 {c:C6} (hO:κ.OneLt) (kd:kindOf st₀=oneType') (g:MG κ x y) (sg:jm st₀ st) (h:ML κ x y c.2.2.1 c.2.2.2.1 c.2.1) (hi:c.2.2.1+1 < x.size) (hj:c.2.2.2.1 < y.size) (hb:b <= c.2.2.1+c.2.2.2.1+1) :
  wpS (model prog w) A E s (lo1 x y mg c) (St6 κ st₀ x y b) st:=by
 unfold lo1
 obtain⟨p,e⟩:=qj y hj
 obtain⟨q,e'⟩:=qj x (show c.2.2.1 < x.size by omega)
 have kd:kindOf st=oneType':=sg.kd.trans kd
 refine wpS_bind (qA e (wpS_bind (qA e' (wpS_bind (zGx hO kd (zAH g.ky e) (zAH g.kx e') ?_)))))
 cases hb:κ.blt (kyo κ p) (kyo κ q) with
 | true =>
  dsimp only
  rw[if_pos rfl]
  have h2:=h.b e fun m z a b=>KeyOrd.kle_trans (KeyOrd.kle_of_klt hb) (g.rx.at a e' b)
  refine wpS_bind (qA e ?_)
  by_cases c1:c.2.2.2.1+1=y.size
  ·rw[if_pos (by simpa using c1)]
   exact wpS_pure ⟨sg,h2.dn (.inr c1)⟩
  rw[if_neg (by simpa using c1)]
  split
  ·exact wpS_pure ⟨sg,h2,hi,by show c.2.2.2.1+1 < _;omega,by show b <= c.2.2.1+(c.2.2.2.1+1);omega⟩
  ·exact wpS_pure ⟨rfl,sg,h2,hi,by show c.2.2.2.1+1 < _;omega,by show b <= c.2.2.1+(c.2.2.2.1+1);omega⟩
 | false =>
  dsimp only
  rw[if_neg (by decide)]
  have h2:=h.a e' fun m z a b=>KeyOrd.kle_trans hb (g.ry.at a e b)
  refine wpS_bind (qA e' ?_)
  by_cases c1:c.2.2.1+1+1=x.size
  ·rw[if_pos (by simpa using c1)]
   exact wpS_pure ⟨sg,h2.ls g c1⟩
  rw[if_neg (by simpa using c1)]
  split
  ·exact wpS_pure ⟨sg,h2,by show c.2.2.1+1+1 < _;omega,hj,by show b <= c.2.2.1+1+c.2.2.2.1;omega⟩
  ·exact wpS_pure ⟨rfl,sg,h2,by show c.2.2.1+1+1 < _;omega,hj,by show b <= c.2.2.1+1+c.2.2.2.1;omega⟩
noncomputable def Lo5 (κ:KeyKind) (st₀:SortSt) (x y:Array Keyed) (b:Nat) (c:C5) (u:SortSt):Prop :=
 jm st₀ u/\match c.1 with
  | some r=>Rs κ x y r
  | none=>ML κ x y c.2.2.1 c.2.2.2.1 c.2.1/\c.2.2.1+1 < x.size/\c.2.2.2.1 < y.size/\b <= c.2.2.1+c.2.2.2.1
theorem zPm {c:C5}{R:ForInStep C5->SortSt->Prop} (hO:κ.OneLt) (kd:kindOf st₀=oneType') (g:MG κ x y) (sg:jm st₀ st) (h:ML κ x y c.2.2.1 c.2.2.2.1 c.2.1) (hi:c.2.2.1+1 < x.size) (hj:c.2.2.2.1 < y.size) (hb:b <= c.2.2.1+c.2.2.2.1)
  (hd:∀ r d u,jm st₀ u->Rs κ x y r->R (.done (some r,d)) u) (hy:∀ d u,Lo5 κ st₀ x y (b+1) (none,d) u->R (.yield (none,d)) u) :
  wpS (model prog w) A E s (loO x y c) R st:=by
 unfold loO
 refine wpS_bind (wpS_mono (wpS_forRange (I:=fun k d u=>d.1=none/\Lo6 κ st₀ x y (b+min k 1) d u) (Q:=Lo6 κ st₀ x y (b+1)) (fun k d u _ hk ⟨n,sg,d2⟩=>?step) (fun d u ⟨n,dd⟩=>?fin) ⟨rfl,sg,h,hi,hj,hb⟩) fun d u dd=>?post)
 case step =>
  rw[n] at d2
  refine wpS_mono (zP5 (b:=b+1) hO kd g sg d2.1 d2.2.1 d2.2.2.1 (by have:=d2.2.2.2;omega)) fun r u h=>?_
  rw[show min (k+1) 1=1 by omega]
  cases r<;>exact h
 case fin=>rwa [show min (max 0 (x.size+y.size)) 1=1 by have:=g.nx;omega] at dd
 case post =>
  obtain⟨d1,d⟩:=d
  cases d1 with
  | some r=>exact wpS_pure (hd r _ u dd.1 dd.2)
  | none =>
   refine wpS_bind (wpS_lift (wpAny_rule ⟨rfl,?_⟩))
   refine wpS_bind (wpS_mono (wpS_forRange (I:=fun k e u=>e.1=none/\Lo7 κ st₀ x y (b+1) e u) (Q:=Lo7 κ st₀ x y (b+1)) (fun k e u _ hk ⟨n,sg,e2⟩=>?step2) (fun e u ⟨n,ee⟩=>ee) ⟨rfl,dd⟩) fun e u ee=>?post2)
   case step2 =>
    rw[n] at e2
    split<;>exact wpS_mono (zRV hO kd g sg e2.1 e2.2.1 e2.2.2.1 e2.2.2.2) fun r u h=>by cases r<;>exact h
   case post2 =>
    obtain⟨e1,e⟩:=e
    cases e1 with
    | some r=>exact wpS_pure (hd r _ u ee.1 ee.2)
    | none=>exact wpS_bind (zDj ee.1 fun u sg=>wpS_pure (hy _ u ⟨sg,ee.2⟩))
theorem zJb {Q:Array Keyed->SortSt->Prop} (hO:κ.OneLt) (kd:kindOf st=oneType') (g:MG κ x y) (h:∀ r u,jm st u->Rs κ x y r->Q r u):wpS (model prog w) A E s (zEU x y) Q st:=by
 rw[zIT]
 refine wpS_bind (wpS_lift (wpAny_rule ⟨rfl,?_⟩))
 obtain⟨p,e⟩:=qj y (show 0 < y.size from g.ny)
 have g1:=g.nx
 have g2:=g.ny
 refine wpS_bind (qA e ?_)
 have h1:ML κ x y 0 1 #[p]:=by
  have h0:ML κ x y 0 0 #[]:=⟨by simp,List.Pairwise.nil,fun _ h=>by simp at h,fun _ h=>by simp at h,by rw[List.drop_zero];exact g.rx.pair,by rw[List.drop_zero];exact g.ry.pair⟩
  obtain⟨q,e'⟩:=qj x (show 0 < x.size from g.nx)
  exact h0.b e fun m z a b=>KeyOrd.kle_trans (g.fst p q e e') (g.rx.at a e' b)
 by_cases c1:1=y.size
 ·rw[if_pos (by simpa using c1)]
  exact wpS_pure (h _ _ (jm.refl _) (h1.dn (.inr c1)))
 rw[if_neg (by simpa using c1)]
 by_cases c2:0+1=x.size
 ·rw[if_pos (by simpa using c2)]
  exact wpS_pure (h _ _ (jm.refl _) (h1.ls g c2))
 rw[if_neg (by simpa using c2)]
 refine wpS_bind (wpS_get ?_)
 refine wpS_bind (wpS_mono (wpS_forRange (I:=fun k c u=>c.1=none/\Lo5 κ st x y (k+1) c u) (Q:=fun c u=>∃ r d,c=(some r,d)/\jm st u/\Rs κ x y r) (fun k c u _ hk ⟨n,sg,c2⟩=>?step) (fun c u ⟨n,sg,c2⟩=>?fin) ⟨rfl,jm.refl _,h1,by show 0+1 < _;omega,by show 1 < _;omega,by show 0+1 <= 0+1;omega⟩) fun c u ⟨r,d,ec,sg,rs⟩=>?post)
 case step =>
  rw[n] at c2
  exact zPm (b:=k+1) hO kd g sg c2.1 c2.2.1 c2.2.2.1 c2.2.2.2 (fun r d u sg rs=>⟨r,d,rfl,sg,rs⟩) fun d u l=>⟨rfl,l⟩
 case fin=>rw[n] at c2;have:=c2.2;omega
 case post=>subst ec;exact wpS_pure (h r u sg rs)
end
noncomputable abbrev H7:=Option (Array Keyed)×Nat×Nat×Array Keyed×Nat×Nat×Nat
noncomputable abbrev H6:=Option (Array Keyed)×Nat×Nat×Array Keyed×Nat×Nat
noncomputable abbrev H5:=Option (Array Keyed)×Nat×Nat×Array Keyed×Nat
noncomputable def hiD (x y out:Array Keyed) (i j mg ac bc:Nat):StateT SortSt Sem (ForInStep H7):=do
 let p <- elem' x (i - 1)
 if (i - 1 == 0)=true then pure (.done (some (dnH x y (out.push p) (i - 1) j),i - 1,j,out.push p,mg,ac,bc))
 else if (decide (ac < 7) && decide (bc < 7))=true then pure (.done (none,i - 1,j,out.push p,mg,ac,bc))
 else pure (.yield (none,i - 1,j,out.push p,mg,ac,bc))
noncomputable def hiC (x y out:Array Keyed) (i j mg ac bc:Nat):StateT SortSt Sem (ForInStep H7):=do
 let p <- elem' x (i - 1)
 match <- JL true p y 0 j (j - 1) with
 | some t =>
  if j - t > 0 then
   if (t == 1)=true then pure (.done (some (fsH x y (out++(y.extract t j).reverse) i t),i,t,out++(y.extract t j).reverse,mg,ac,j - t))
   else if (t == 0)=true then pure (.done (some (dnH x y (out++(y.extract t j).reverse) i t),i,t,out++(y.extract t j).reverse,mg,ac,j - t))
   else hiD x y (out++(y.extract t j).reverse) i t mg ac (j - t)
  else hiD x y out i j mg ac (j - t)
 | _=>pure (.done (some (dnH x y out i j),i,j,out,mg,ac,bc))
noncomputable def hiB (x y out:Array Keyed) (i j mg ac bc:Nat):StateT SortSt Sem (ForInStep H7):=do
 let p <- elem' y (j - 1)
 if (j - 1 == 1)=true then pure (.done (some (fsH x y (out.push p) i (j - 1)),i,j - 1,out.push p,mg,ac,bc))
 else hiC x y (out.push p) i (j - 1) mg ac bc
noncomputable def hiA (x y out:Array Keyed) (i j mg ac bc:Nat):StateT SortSt Sem (ForInStep H7):=do
 zFG mg
 let p <- elem' y (j - 1)
 match <- JL false p x 0 i (i - 1) with
 | some t =>
  if i - t > 0 then
   if (t == 0)=true then pure (.done (some (dnH x y (out++(x.extract t i).reverse) t j),t,j,out++(x.extract t i).reverse,mg,i - t,bc))
   else hiB x y (out++(x.extract t i).reverse) t j mg (i - t) bc
  else hiB x y out i j mg (i - t) bc
 | _=>pure (.done (some (dnH x y out i j),i,j,out,mg,ac,bc))
noncomputable def hi1 (x y:Array Keyed) (mg:Nat) (c:H6):StateT SortSt Sem (ForInStep H6):=do
 let p <- elem' y (c.2.2.1 - 1)
 let q <- elem' x (c.2.1 - 1)
 match <- lt' p q with
 | some r =>
  if r=true then do
   let q <- elem' x (c.2.1 - 1)
   if (c.2.1 - 1 == 0)=true then pure (.done (some (dnH x y (c.2.2.2.1.push q) (c.2.1 - 1) c.2.2.1),c.2.1 - 1,c.2.2.1,c.2.2.2.1.push q,c.2.2.2.2.1+1,0))
   else if c.2.2.2.2.1+1 ≥ mg then pure (.done (none,c.2.1 - 1,c.2.2.1,c.2.2.2.1.push q,c.2.2.2.2.1+1,0))
   else pure (.yield (none,c.2.1 - 1,c.2.2.1,c.2.2.2.1.push q,c.2.2.2.2.1+1,0))
  else do
   let p <- elem' y (c.2.2.1 - 1)
   if (c.2.2.1 - 1 == 1)=true then pure (.done (some (fsH x y (c.2.2.2.1.push p) c.2.1 (c.2.2.1 - 1)),c.2.1,c.2.2.1 - 1,c.2.2.2.1.push p,0,c.2.2.2.2.2+1))
   else if c.2.2.2.2.2+1 ≥ mg then pure (.done (none,c.2.1,c.2.2.1 - 1,c.2.2.2.1.push p,0,c.2.2.2.2.2+1))
   else pure (.yield (none,c.2.1,c.2.2.1 - 1,c.2.2.2.1.push p,0,c.2.2.2.2.2+1))
 | _=>pure (.done (some (dnH x y c.2.2.2.1 c.2.1 c.2.2.1),c.2.1,c.2.2.1,c.2.2.2.1,c.2.2.2.2.1,c.2.2.2.2.2))
noncomputable def hiO (x y:Array Keyed) (c:H5):StateT SortSt Sem (ForInStep H5):=do
 let d <- forIn [0:x.size+y.size] ((none,c.2.1,c.2.2.1,c.2.2.2.1,0,0):H6) fun _ d=>hi1 x y c.2.2.2.2 d
 match d.1 with
 | some r=>pure (.done (some r,d.2.1,d.2.2.1,d.2.2.2.1,c.2.2.2.2))
 | none=>do
  liftM (rule "list.sort.gallop")
  let e <- forIn [0:x.size+y.size] ((none,d.2.1,d.2.2.1,d.2.2.2.1,c.2.2.2.2+1,d.2.2.2.2.1,d.2.2.2.2.2):H7) fun _ e =>
   if e.2.2.2.2.1 > 1 then hiA x y e.2.2.2.1 e.2.1 e.2.2.1 (e.2.2.2.2.1 - 1) e.2.2.2.2.2.1 e.2.2.2.2.2.2 else hiA x y e.2.2.2.1 e.2.1 e.2.2.1 e.2.2.2.2.1 e.2.2.2.2.2.1 e.2.2.2.2.2.2
  match e.1 with
  | some r=>pure (.done (some r,e.2.1,e.2.2.1,e.2.2.2.1,e.2.2.2.2.1))
  | none=>do
   zFG (e.2.2.2.2.1+1)
   pure (.yield (none,e.2.1,e.2.2.1,e.2.2.2.1,e.2.2.2.2.1+1))
theorem zIY (x y:Array Keyed):zEW x y=(do
 liftM (rule "list.sort.merge-hi")
 let p <- elem' x (x.size - 1)
 if (x.size - 1 == 0)=true then pure (dnH x y #[p] (x.size - 1) y.size)
 else if (y.size == 1)=true then pure (fsH x y #[p] (x.size - 1) y.size)
 else do
  let z <- get
  let c <- forIn [0:x.size+y.size] ((none,x.size - 1,y.size,#[p],gallopOf z):H5) fun _ c=>hiO x y c
  match c.1 with
  | some r=>pure r
  | none=>liftM (unsupported "internal:list.sort.merge-bound" : Sem (Array Keyed))):=by
 show (sortPriv% PySem.Builtin.mergeHi) x y=_
 refine congrArg (bind _) (funext fun _=>congrArg (bind _) (funext fun p=>ite_congr rfl (fun _=>rfl) fun _=>ite_congr rfl (fun _=>rfl) fun _=>congrArg (bind _) (funext fun z=>?_)))
 refine congr (congrArg bind (congrArg _ (funext fun _=>funext fun c=>congrArg (bind _) (funext fun d=>?_)))) (funext fun c=>?_)
 ·obtain⟨d1,d⟩:=d
  cases d1 with
  | some r=>rfl
  | none=>exact congrArg (bind _) (funext fun _=>congrArg (bind _) (funext fun e=>by obtain⟨e1,e⟩:=e;cases e1<;>rfl))
 ·obtain⟨c1,c⟩:=c
  cases c1<;>rfl
noncomputable def MH (κ:KeyKind) (x y:Array Keyed) (i j:Nat) (out:Array Keyed):Prop:=MI (fun p q=>kl κ q p) (x.toList++y.toList) (x.toList.take i).reverse (y.toList.take j).reverse out.toList
section
variable {x y out:Array Keyed}{i j:Nat}{p:Keyed}
theorem MH.a (h:MH κ x y (i+1) j out) (e:x[i]? = some p) (c:∀ m q,m < j->y[m]? = some q->kl κ q p):MH κ x y i j (out.push p):=by
 unfold MH at *
 rw[zD5 e] at h
 have:=MI.run (xs:=[p]) h fun z hz q hq=>by
  obtain⟨m,a,_,b⟩:=JE hq
  rw[List.mem_singleton.mp hz];exact c m q a b
 rwa [Array.toList_push]
theorem MH.b (h:MH κ x y i (j+1) out) (e:y[j]? = some p) (c:∀ m q,m < i->x[m]? = some q->kl κ q p):MH κ x y i j (out.push p):=by
 unfold MH at *
 rw[zD5 e] at h
 have:=MI.run (xs:=[p]) h.swap fun z hz q hq=>by
  obtain⟨m,a,_,b⟩:=JE hq
  rw[List.mem_singleton.mp hz];exact c m q a b
 rw[Array.toList_push];exact this.swap
theorem MH.as {k:Nat} (hk:k <= i) (h:MH κ x y i j out) (c:∀ m q,k <= m->m < i->x[m]? = some q->∀ m' q',m' < j->y[m']? = some q'->kl κ q' q):MH κ x y k j (out++(x.extract k i).reverse):=by
 unfold MH at *
 rw[zDD hk] at h
 have:=MI.run h fun z hz q hq=>by
  obtain⟨m,a,_,b⟩:=JE hq
  rw[Array.toList_reverse,List.mem_reverse] at hz
  obtain⟨m',a',b',_,c'⟩:=zDV hz
  exact c m' z a' b' c' m q a b
 rwa [Array.toList_append]
theorem MH.bs {k:Nat} (hk:k <= j) (h:MH κ x y i j out) (c:∀ m q,k <= m->m < j->y[m]? = some q->∀ m' q',m' < i->x[m']? = some q'->kl κ q' q):MH κ x y i k (out++(y.extract k j).reverse):=by
 unfold MH at *
 have h:=h.swap
 rw[zDD hk] at h
 have:=MI.run h fun z hz q hq=>by
  obtain⟨m,a,_,b⟩:=JE hq
  rw[Array.toList_reverse,List.mem_reverse] at hz
  obtain⟨m',a',b',_,c'⟩:=zDV hz
  exact c m' z a' b' c' m q a b
 rw[Array.toList_append];exact this.swap
theorem zCm (z:Array Keyed) (i:Nat):(z.extract 0 i).toList=z.toList.take i:=by
 rw[Array.toList_extract,List.extract_eq_take_drop];rfl
theorem zQe (a b c:List Keyed):a++b++c.reverse=(c++b.reverse++a.reverse).reverse:=by simp
theorem MH.dn (h:MH κ x y i j out) (c:i=0\/j=0):Rs κ x y (dnH x y out i j):=by
 unfold Rs dnH
 rw[Array.toList_append,Array.toList_append,zCm,zCm,Array.toList_reverse,zQe]
 refine⟨(List.reverse_perm _).trans h.swap.pm,List.pairwise_reverse.mpr (h.swap.fin fun a ha b hb=>?_)⟩
 obtain⟨m,a1,a2,a3⟩:=JE ha
 obtain⟨m',b1,b2,b3⟩:=JE hb
 omega
theorem MH.fs (g:MG κ x y) (h:MH κ x y i j out) (c:j=1):Rs κ x y (fsH x y out i j):=by
 unfold Rs fsH
 rw[Array.toList_append,Array.toList_append,zCm,zCm,Array.toList_reverse,zQe]
 refine⟨(List.reverse_perm _).trans h.pm,List.pairwise_reverse.mpr (h.fin fun a ha b hb=>?_)⟩
 obtain⟨m,a1,a2,a3⟩:=JE ha
 obtain⟨m',b1,b2,b3⟩:=JE hb
 obtain rfl:m'=0:=by omega
 obtain⟨l,el⟩:=qj x (i:=0) (by omega)
 exact KeyOrd.kle_trans (g.fst b l b3 el) (g.rx.at (Nat.zero_le m) el a3)
end
noncomputable def Hi7 (κ:KeyKind) (st₀:SortSt) (x y:Array Keyed) (b:Nat) (c:H7) (u:SortSt):Prop :=
 jm st₀ u/\match c.1 with
  | some r=>Rs κ x y r
  | none=>MH κ x y c.2.1 c.2.2.1 c.2.2.2.1/\1 <= c.2.1/\2 <= c.2.2.1/\c.2.1 <= x.size/\c.2.2.1 <= y.size/\c.2.1+c.2.2.1+b <= x.size+y.size
noncomputable def Th7 (κ:KeyKind) (st₀:SortSt) (x y:Array Keyed) (b:Nat) (r:ForInStep H7) (u:SortSt):Prop :=
 match r with
 | .done c=>Hi7 κ st₀ x y b c u
 | .yield c=>c.1=none/\Hi7 κ st₀ x y b c u
section
variable {st₀ st:SortSt}{x y out:Array Keyed}{i j mg ac bc b:Nat}
theorem zK3 (g:MG κ x y) (sg:jm st₀ st) (h:MH κ x y i j out) (hi:1 <= i) (hj:2 <= j) (hix:i <= x.size) (hjy:j <= y.size) (hb:i+j+b <= x.size+y.size) (c:∀ p,x[i - 1]? = some p->∀ m q,m < j->y[m]? = some q->kl κ q p) :
  wpS (model prog w) A E s (hiD x y out i j mg ac bc) (Th7 κ st₀ x y b) st:=by
 unfold hiD
 obtain⟨p,e⟩:=qj x (show i - 1 < x.size by omega)
 obtain⟨n,rfl⟩:∃ n,i=n+1:=⟨i - 1,by omega⟩
 rw[Nat.add_sub_cancel] at e c ⊢
 have h2:=h.a e (c p e)
 refine wpS_bind (qA e ?_)
 by_cases c1:n=0
 ·rw[if_pos (by simpa using c1)]
  exact wpS_pure ⟨sg,h2.dn (.inl c1)⟩
 rw[if_neg (by simpa using c1)]
 split
 ·exact wpS_pure ⟨sg,h2,by show 1 <= n;omega,hj,by show n <= _;omega,hjy,by show n+j+b <= _;omega⟩
 ·exact wpS_pure ⟨rfl,sg,h2,by show 1 <= n;omega,hj,by show n <= _;omega,hjy,by show n+j+b <= _;omega⟩
theorem zRD (hO:κ.OneLt) (kd:kindOf st=oneType') (g:MG κ x y) (sg:jm st₀ st) (h:MH κ x y i j out) (hi:1 <= i) (hj:2 <= j) (hix:i <= x.size) (hjy:j <= y.size) (hb:i+j+b <= x.size+y.size) :
  wpS (model prog w) A E s (hiC x y out i j mg ac bc) (Th7 κ st₀ x y b) st:=by
 unfold hiC
 obtain⟨p,e⟩:=qj x (show i - 1 < x.size by omega)
 refine wpS_bind (qA e (wpS_bind (JI hO kd g.ky (zAH g.kx e) (by omega) (g.ry.tail 0 _ (by omega)) (by omega) fun k ⟨k1,k2,k3⟩=>?_)))
 have f2:∀ m q,m < k->y[m]? = some q->kl κ q p:=fun m q a c=>by
  have:=k2 m a
  unfold By at this
  rw[if_pos rfl,Nat.zero_add,yC c] at this
  exact KeyOrd.kle_of_klt this
 have f3:∀ m q,k <= m->m < j->y[m]? = some q->∀ m' q',m' < i->x[m']? = some q'->kl κ q' q:=fun m q a b c m' q' a' c'=>by
  have:=k3 m a b
  unfold By at this
  rw[if_pos rfl,Nat.zero_add,yC c] at this
  exact KeyOrd.kle_trans (g.rx.at (show m' <= i - 1 by omega) c' e) this
 dsimp only
 by_cases c1:j - k > 0
 ·rw[if_pos c1]
  have h2:=h.bs k1 f3
  by_cases c2:k=1
  ·rw[if_pos (by simpa using c2)]
   exact wpS_pure ⟨sg,h2.fs g c2⟩
  rw[if_neg (by simpa using c2)]
  by_cases c3:k=0
  ·rw[if_pos (by simpa using c3)]
   exact wpS_pure ⟨sg,h2.dn (.inr c3)⟩
  rw[if_neg (by simpa using c3)]
  exact zK3 g sg h2 hi (by omega) hix (by omega) (by omega) fun p' e' m q a b=>by rw[e] at e';cases e';exact f2 m q a b
 ·rw[if_neg c1]
  obtain rfl:k=j:=by omega
  exact zK3 g sg h hi hj hix hjy hb fun p' e' m q a b=>by rw[e] at e';cases e';exact f2 m q a b
theorem zLp (hO:κ.OneLt) (kd:kindOf st=oneType') (g:MG κ x y) (sg:jm st₀ st) (h:MH κ x y i j out) (hi:1 <= i) (hj:2 <= j) (hix:i <= x.size) (hjy:j <= y.size) (hb:i+j+b <= x.size+y.size) (c:∀ p,y[j - 1]? = some p->∀ m q,m < i->x[m]? = some q->kl κ q p) :
  wpS (model prog w) A E s (hiB x y out i j mg ac bc) (Th7 κ st₀ x y b) st:=by
 unfold hiB
 obtain⟨p,e⟩:=qj y (show j - 1 < y.size by omega)
 obtain⟨n,rfl⟩:∃ n,j=n+1:=⟨j - 1,by omega⟩
 rw[Nat.add_sub_cancel] at e c ⊢
 have h2:=h.b e (c p e)
 refine wpS_bind (qA e ?_)
 by_cases c1:n=1
 ·rw[if_pos (by simpa using c1)]
  exact wpS_pure ⟨sg,h2.fs g c1⟩
 rw[if_neg (by simpa using c1)]
 exact zRD hO kd g sg h2 hi (by omega) hix (by omega) (by omega)
theorem zQa (hO:κ.OneLt) (kd:kindOf st₀=oneType') (g:MG κ x y) (sg:jm st₀ st) (h:MH κ x y i j out) (hi:1 <= i) (hj:2 <= j) (hix:i <= x.size) (hjy:j <= y.size) (hb:i+j+b <= x.size+y.size) :
  wpS (model prog w) A E s (hiA x y out i j mg ac bc) (Th7 κ st₀ x y b) st:=by
 unfold hiA
 obtain⟨p,e⟩:=qj y (show j - 1 < y.size by omega)
 refine wpS_bind (zDj sg fun u sg=>?_)
 have kd:kindOf u=oneType':=sg.kd.trans kd
 refine wpS_bind (qA e (wpS_bind (JI hO kd g.kx (zAH g.ky e) (by omega) (g.rx.tail 0 _ (by omega)) (by omega) fun k ⟨k1,k2,k3⟩=>?_)))
 have f2:∀ m q,m < k->x[m]? = some q->kl κ q p:=fun m q a c=>by
  have:=k2 m a
  unfold By at this
  rw[if_neg (by decide),Nat.zero_add,yC c,Bool.not_eq_true'] at this
  exact this
 have f3:∀ m q,k <= m->m < i->x[m]? = some q->∀ m' q',m' < j->y[m']? = some q'->kl κ q' q:=fun m q a b c m' q' a' c'=>by
  have:=k3 m a b
  unfold By at this
  rw[if_neg (by decide),Nat.zero_add,yC c,Bool.not_eq_false'] at this
  exact KeyOrd.kle_trans (g.ry.at (show m' <= j - 1 by omega) c' e) (KeyOrd.kle_of_klt this)
 dsimp only
 by_cases c1:i - k > 0
 ·rw[if_pos c1]
  have h2:=h.as k1 f3
  by_cases c3:k=0
  ·rw[if_pos (by simpa using c3)]
   exact wpS_pure ⟨sg,h2.dn (.inl c3)⟩
  rw[if_neg (by simpa using c3)]
  exact zLp hO kd g sg h2 (by omega) hj (by omega) hjy (by omega) fun p' e' m q a b=>by rw[e] at e';cases e';exact f2 m q a b
 ·rw[if_neg c1]
  obtain rfl:k=i:=by omega
  exact zLp hO kd g sg h hi hj hix hjy hb fun p' e' m q a b=>by rw[e] at e';cases e';exact f2 m q a b
noncomputable def Hi6 (κ:KeyKind) (st₀:SortSt) (x y:Array Keyed) (b:Nat) (c:H6) (u:SortSt):Prop :=
 jm st₀ u/\match c.1 with
  | some r=>Rs κ x y r
  | none=>MH κ x y c.2.1 c.2.2.1 c.2.2.2.1/\1 <= c.2.1/\2 <= c.2.2.1/\c.2.1 <= x.size/\c.2.2.1 <= y.size/\c.2.1+c.2.2.1+b <= x.size+y.size
noncomputable def Th6 (κ:KeyKind) (st₀:SortSt) (x y:Array Keyed) (b:Nat) (r:ForInStep H6) (u:SortSt):Prop :=
 match r with
 | .done c=>Hi6 κ st₀ x y b c u
 | .yield c=>c.1=none/\Hi6 κ st₀ x y b c u
theorem zRO {c:H6} (hO:κ.OneLt) (kd:kindOf st₀=oneType') (g:MG κ x y) (sg:jm st₀ st) (h:MH κ x y c.2.1 c.2.2.1 c.2.2.2.1) (hi:1 <= c.2.1) (hj:2 <= c.2.2.1) (hix:c.2.1 <= x.size) (hjy:c.2.2.1 <= y.size) (hb:c.2.1+c.2.2.1+b <= x.size+y.size+1) :
  wpS (model prog w) A E s (hi1 x y mg c) (Th6 κ st₀ x y b) st:=by
 unfold hi1
 obtain⟨c1,i,j,out,ac,bc⟩:=c
 dsimp only at *
 obtain⟨p,e⟩:=qj y (show j - 1 < y.size by omega)
 obtain⟨q,e'⟩:=qj x (show i - 1 < x.size by omega)
 have kd:kindOf st=oneType':=sg.kd.trans kd
 refine wpS_bind (qA e (wpS_bind (qA e' (wpS_bind (zGx hO kd (zAH g.ky e) (zAH g.kx e') ?_)))))
 cases hv:κ.blt (kyo κ p) (kyo κ q) with
 | true =>
  dsimp only
  rw[if_pos rfl]
  obtain⟨n,rfl⟩:∃ n,i=n+1:=⟨i - 1,by omega⟩
  rw[Nat.add_sub_cancel] at e' ⊢
  have h2:=h.a e' fun m z a b=>KeyOrd.kle_trans (g.ry.at (show m <= j - 1 by omega) b e) (KeyOrd.kle_of_klt hv)
  refine wpS_bind (qA e' ?_)
  by_cases c1:n=0
  ·rw[if_pos (by simpa using c1)]
   exact wpS_pure ⟨sg,h2.dn (.inl c1)⟩
  rw[if_neg (by simpa using c1)]
  split
  ·exact wpS_pure ⟨sg,h2,by show 1 <= n;omega,hj,by show n <= _;omega,hjy,by show n+j+b <= _;omega⟩
  ·exact wpS_pure ⟨rfl,sg,h2,by show 1 <= n;omega,hj,by show n <= _;omega,hjy,by show n+j+b <= _;omega⟩
 | false =>
  dsimp only
  rw[if_neg (by decide)]
  obtain⟨n,rfl⟩:∃ n,j=n+1:=⟨j - 1,by omega⟩
  rw[Nat.add_sub_cancel] at e ⊢
  have h2:=h.b e fun m z a b=>KeyOrd.kle_trans (g.rx.at (show m <= i - 1 by omega) b e') hv
  refine wpS_bind (qA e ?_)
  by_cases c1:n=1
  ·rw[if_pos (by simpa using c1)]
   exact wpS_pure ⟨sg,h2.fs g c1⟩
  rw[if_neg (by simpa using c1)]
  split
  ·exact wpS_pure ⟨sg,h2,hi,by show 2 <= n;omega,hix,by show n <= _;omega,by show i+n+b <= _;omega⟩
  ·exact wpS_pure ⟨rfl,sg,h2,hi,by show 2 <= n;omega,hix,by show n <= _;omega,by show i+n+b <= _;omega⟩
noncomputable def Hi5 (κ:KeyKind) (st₀:SortSt) (x y:Array Keyed) (b:Nat) (c:H5) (u:SortSt):Prop :=
 jm st₀ u/\match c.1 with
  | some r=>Rs κ x y r
  | none=>MH κ x y c.2.1 c.2.2.1 c.2.2.2.1/\1 <= c.2.1/\2 <= c.2.2.1/\c.2.1 <= x.size/\c.2.2.1 <= y.size/\c.2.1+c.2.2.1+b <= x.size+y.size
theorem zRB {c:H5}{R:ForInStep H5->SortSt->Prop} (hO:κ.OneLt) (kd:kindOf st₀=oneType') (g:MG κ x y) (hc:c.1=none) (hh:Hi5 κ st₀ x y b c st)
  (hd:∀ r d u,jm st₀ u->Rs κ x y r->R (.done (some r,d)) u) (hy:∀ d u,Hi5 κ st₀ x y (b+1) (none,d) u->R (.yield (none,d)) u) :
  wpS (model prog w) A E s (hiO x y c) R st:=by
 unfold hiO
 obtain⟨sg,h⟩:=hh
 rw[hc] at h
 refine wpS_bind (wpS_mono (wpS_forRange (I:=fun k d u=>d.1=none/\Hi6 κ st₀ x y (b+min k 1) d u) (Q:=Hi6 κ st₀ x y (b+1)) (fun k d u _ hk ⟨n,sg,d2⟩=>?step) (fun d u ⟨n,dd⟩=>?fin) ⟨rfl,sg,h⟩) fun d u dd=>?post)
 case step =>
  rw[n] at d2
  obtain⟨a1,a2,a3,a4,a5,a6⟩:=d2
  refine wpS_mono (zRO (b:=b+1) hO kd g sg a1 a2 a3 a4 a5 (by omega)) fun r u h=>?_
  rw[show min (k+1) 1=1 by omega]
  cases r<;>exact h
 case fin=>rwa [show min (max 0 (x.size+y.size)) 1=1 by have:=g.nx;omega] at dd
 case post =>
  obtain⟨d1,d⟩:=d
  cases d1 with
  | some r=>exact wpS_pure (hd r _ u dd.1 dd.2)
  | none =>
   refine wpS_bind (wpS_lift (wpAny_rule ⟨rfl,?_⟩))
   refine wpS_bind (wpS_mono (wpS_forRange (I:=fun k e u=>e.1=none/\Hi7 κ st₀ x y (b+1) e u) (Q:=Hi7 κ st₀ x y (b+1)) (fun k e u _ hk ⟨n,sg,e2⟩=>?step2) (fun e u ⟨n,ee⟩=>ee) ⟨rfl,dd⟩) fun e u ee=>?post2)
   case step2 =>
    rw[n] at e2
    obtain⟨a1,a2,a3,a4,a5,a6⟩:=e2
    split<;>exact wpS_mono (zQa hO kd g sg a1 a2 a3 a4 a5 a6) fun r u h=>by cases r<;>exact h
   case post2 =>
    obtain⟨e1,e⟩:=e
    cases e1 with
    | some r=>exact wpS_pure (hd r _ u ee.1 ee.2)
    | none=>exact wpS_bind (zDj ee.1 fun u sg=>wpS_pure (hy _ u ⟨sg,ee.2⟩))
theorem zJV {Q:Array Keyed->SortSt->Prop} (hO:κ.OneLt) (kd:kindOf st=oneType') (g:MG κ x y) (h:∀ r u,jm st u->Rs κ x y r->Q r u):wpS (model prog w) A E s (zEW x y) Q st:=by
 rw[zIY]
 refine wpS_bind (wpS_lift (wpAny_rule ⟨rfl,?_⟩))
 have g1:=g.nx
 have g2:=g.ny
 obtain⟨p,e⟩:=qj x (show x.size - 1 < x.size by omega)
 refine wpS_bind (qA e ?_)
 have h1:MH κ x y (x.size - 1) y.size #[p]:=by
  have h0:MH κ x y (x.size - 1+1) y.size #[]:=by
   unfold MH
   rw[Nat.sub_add_cancel g1,List.take_of_length_le (by simp),List.take_of_length_le (by simp)]
   exact⟨by simpa using (List.reverse_perm _).append (List.reverse_perm _),List.Pairwise.nil,fun _ h=>by simp at h,fun _ h=>by simp at h,List.pairwise_reverse.mpr g.rx.pair,List.pairwise_reverse.mpr g.ry.pair⟩
  obtain⟨q,e'⟩:=qj y (show y.size - 1 < y.size by omega)
  exact h0.a e fun m z a b=>KeyOrd.kle_trans (g.ry.at (show m <= y.size - 1 by omega) b e') (g.lst q p e' e)
 by_cases c1:x.size - 1=0
 ·rw[if_pos (by simpa using c1)]
  exact wpS_pure (h _ _ (jm.refl _) (h1.dn (.inl c1)))
 rw[if_neg (by simpa using c1)]
 by_cases c2:y.size=1
 ·rw[if_pos (by simpa using c2)]
  exact wpS_pure (h _ _ (jm.refl _) (h1.fs g c2))
 rw[if_neg (by simpa using c2)]
 refine wpS_bind (wpS_get ?_)
 refine wpS_bind (wpS_mono (wpS_forRange (I:=fun k c u=>c.1=none/\Hi5 κ st x y (k+1) c u) (Q:=fun c u=>∃ r d,c=(some r,d)/\jm st u/\Rs κ x y r) (fun k c u _ hk ⟨n,hh⟩=>?step) (fun c u ⟨n,sg,c2⟩=>?fin) ⟨rfl,jm.refl _,h1,by show 1 <= x.size - 1;omega,by show 2 <= y.size;omega,by show x.size - 1 <= _;omega,Nat.le_refl _,by show x.size - 1+y.size+(0+1) <= _;omega⟩) fun c u ⟨r,d,ec,sg,rs⟩=>?post)
 case step=>exact zRB (b:=k+1) hO kd g n hh (fun r d u sg rs=>⟨r,d,rfl,sg,rs⟩) fun d u l=>⟨rfl,l⟩
 case fin=>rw[n] at c2;have:=c2.2;omega
 case post=>subst ec;exact wpS_pure (h r u sg rs)
end
noncomputable def Z1 (a:Array Keyed) (o:Nat) (l:List (Keyed×Nat)):Array Keyed:=l.foldl (fun a (p,j)=>a.setIfInBounds (o+j) p) a
theorem zE5:∀ (l:List Keyed) (a:Array Keyed) (o n:Nat),o+n+l.length <= a.size->(Z1 a o (l.zipIdx n)).toList=a.toList.take (o+n)++l++a.toList.drop (o+n+l.length)
 | [],a,o,n,h=>by show a.toList=_;simp
 | p::l,a,o,n,h=>by
  rw[List.zipIdx_cons]
  show (Z1 (a.setIfInBounds (o+n) p) o (l.zipIdx (n+1))).toList=_
  rw[List.length_cons] at h ⊢
  rw[zE5 l _ o (n+1) (by rw[Array.size_setIfInBounds];omega),Array.toList_setIfInBounds,show o+(n+1)=(o+n)+1 by omega]
  have hl:o+n < a.toList.length:=by rw[Array.length_toList];omega
  rw[List.take_set,List.drop_set_of_lt (by omega),List.take_succ_eq_append_getElem hl,List.set_append_right _ _ (by rw[List.length_take];omega),List.length_take,show o+n - min (o+n) a.toList.length=0 by omega,show o+n+1+l.length=o+n+(l.length+1) by omega]
  simp
theorem zOz {M:Model}{σ:Type}{z:σ}{Q:PUnit->σ->Prop}{st:σ} (h:Q ⟨⟩ z):wpS M A E s (set z:StateT σ Sem PUnit) Q st:=by
 unfold wpS;rw[StateT.run_set];exact wpAny_pure ⟨rfl,h⟩
noncomputable def mgE (a:Array Keyed) (sa na sb nb:Nat):StateT SortSt Sem Bool :=
 if (nb == 0)=true then pure true else
 if na <= nb then do
  let r <- zEU (a.extract sa sb) (a.extract sb (sb+nb))
  modify fun z=>setArr z (Z1 (arrOf z) sa r.toList.zipIdx)
  let z <- get
  pure (failedOf z).isNone
 else do
  let r <- zEW (a.extract sa sb) (a.extract sb (sb+nb))
  modify fun z=>setArr z (Z1 (arrOf z) sa r.toList.zipIdx)
  let z <- get
  pure (failedOf z).isNone
noncomputable def mgB (a:Array Keyed) (sa na sb nb:Nat):StateT SortSt Sem Bool:=do
 let p <- elem' a sb
 match <- JL false p a sa na 0 with
 | some k =>
  if (na - k == 0)=true then pure true else do
   let q <- elem' a (sa+k+(na - k) - 1)
   match <- JL true q a sb nb (nb - 1) with
   | some nb=>mgE a (sa+k) (na - k) sb nb
   | _=>pure false
 | _=>pure false
theorem zJ2 {st:SortSt}{i sa na pw sb nb qw:Nat}{Q:Bool->SortSt->Prop} (h1:(pendingOf st)[i]? = some (sa,na,pw)) (h2:(pendingOf st)[i+1]? = some (sb,nb,qw))
  (h:wpS (model prog w) A E s (mgB (arrOf st) sa na sb nb) Q (setPending st (((pendingOf st).setIfInBounds i (sa,na+nb,pw)).eraseIdxIfInBounds (i+1)))):wpS (model prog w) A E s (mergeAt' i) Q st:=by
 show wpS (model prog w) A E s ((sortPriv% PySem.Builtin.mergeAt) i) Q st
 refine wpS_bind (wpS_get ?_)
 rw[h1,h2]
 exact wpS_bind (zOz h)
theorem Rs.mem {x y r:Array Keyed} (h:Rs κ x y r) {p:Keyed}{m:Nat} (e:r[m]? = some p):(∃ k:Nat,x[k]? = some p)\/∃ k:Nat,y[k]? = some p:=by
 obtain⟨hm,rfl⟩:=Array.getElem?_eq_some_iff.mp e
 have:=h.1.mem_iff.mp (show r[m]∈r.toList by simp)
 rcases List.mem_append.mp this with a | a
 ·obtain⟨k,hk,ek⟩:=List.mem_iff_getElem.mp a
  exact .inl ⟨k,by rw[<- ek];simpa using hk⟩
 ·obtain⟨k,hk,ek⟩:=List.mem_iff_getElem.mp a
  exact .inr ⟨k,by rw[<- ek];simpa using hk⟩
theorem Rs.le {x y r:Array Keyed} (h:Rs κ x y r) {i j:Nat}{p q:Keyed} (hij:i < j) (ei:r[i]? = some p) (ej:r[j]? = some q):kl κ p q:=by
 obtain⟨hi,rfl⟩:=Array.getElem?_eq_some_iff.mp ei
 obtain⟨hj,rfl⟩:=Array.getElem?_eq_some_iff.mp ej
 have:=List.pairwise_iff_getElem.mp h.2 i j (by rw[Array.length_toList];exact hi) (by rw[Array.length_toList];exact hj) hij
 simpa using this
theorem zB1 {a:Array Keyed}{lo hi k:Nat}{p:Keyed} (e:(a.extract lo hi)[k]? = some p):lo+k < hi/\a[lo+k]? = some p:=by
 obtain⟨hk,rfl⟩:=Array.getElem?_eq_some_iff.mp e
 have hk':=hk
 rw[Array.size_extract] at hk'
 exact⟨by omega,by rw[Array.getElem_extract,getElem?_pos a (lo+k) (by omega)]⟩
theorem Ri.ext {a:Array Keyed}{lo n:Nat} (hn:lo+n <= a.size) (r:Ri κ a lo n):Ri κ (a.extract lo (lo+n)) 0 (a.extract lo (lo+n)).size:=by
 intro i j hij hj
 have hs:(a.extract lo (lo+n)).size=n:=by rw[Array.size_extract];omega
 rw[hs] at hj
 have e:∀ k,k < n->KK κ (a.extract lo (lo+n)) (0+k)=KK κ a (lo+k):=fun k hk=>KK_congr (by rw[Nat.zero_add,Array.getElem?_extract,if_pos (by omega)])
 rw[e i (by omega),e j hj]
 exact r i j hij hj
theorem Ri.sub {a:Array Keyed}{lo n:Nat} (r:Ri κ a lo n) (k m:Nat) (h:k+m <= n):Ri κ a (lo+k) m:=fun i j p q=>by
 have:=r (k+i) (k+j) (by omega) (by omega)
 rwa [<- Nat.add_assoc,<- Nat.add_assoc] at this
noncomputable def Mrg (κ:KeyKind) (a₀:Array Keyed) (sa n:Nat) (st st':SortSt):Prop:=j8 a₀ sa (sa+n) st st'/\Ri κ (arrOf st') sa n
theorem zO6 {st st':SortSt}{sa k nb nb' na:Nat}{r:Array Keyed} (g:SG a₀ st) (sg:jm st st') (hn:sa+na+nb <= a₀.size) (hk:k <= na) (hb:nb' <= nb) (r1:Ri κ (arrOf st) sa na) (r2:Ri κ (arrOf st) (sa+na) nb)
  (f1:∀ i j,i < k->j < nb->κ.kle (KK κ (arrOf st) (sa+i)) (KK κ (arrOf st) (sa+na+j))) (f2:∀ i j,i < na->nb' <= j->j < nb->κ.kle (KK κ (arrOf st) (sa+i)) (KK κ (arrOf st) (sa+na+j)))
  (rs:Rs κ ((arrOf st).extract (sa+k) (sa+na)) ((arrOf st).extract (sa+na) (sa+na+nb')) r):Mrg κ a₀ sa (na+nb) st (setArr st' (Z1 (arrOf st') (sa+k) r.toList.zipIdx)):=by
 have hz:=g.sz
 have hl:r.size=na - k+nb':=by
  have:=rs.1.length_eq
  rw[List.length_append,Array.length_toList,Array.length_toList,Array.length_toList,Array.size_extract,Array.size_extract] at this
  omega
 have pl:=zE5 r.toList (arrOf st') (sa+k) 0 (by rw[Array.length_toList,sg.ar];omega)
 rw[sg.ar,Nat.add_zero,Array.length_toList,hl] at pl
 rw[sg.ar]
 have at_:∀ m:Nat,(Z1 (arrOf st) (sa+k) r.toList.zipIdx)[m]? = if sa+k <= m/\m < sa+na+nb' then r[m - (sa+k)]? else (arrOf st)[m]? := by
  intro m
  rw[<- Array.getElem?_toList,pl,List.append_assoc]
  by_cases c1:m < sa+k
  ·rw[List.getElem?_append_left (by rw[List.length_take,Array.length_toList];omega),List.getElem?_take_of_lt c1,if_neg (by omega),Array.getElem?_toList]
  rw[List.getElem?_append_right (by rw[List.length_take,Array.length_toList];omega),List.length_take,Array.length_toList,Nat.min_eq_left (by omega)]
  by_cases c2:m < sa+na+nb'
  ·rw[List.getElem?_append_left (by rw[Array.length_toList];omega),if_pos (by omega),Array.getElem?_toList]
  ·rw[List.getElem?_append_right (by rw[Array.length_toList];omega),if_neg (by omega),List.getElem?_drop,Array.length_toList,Array.getElem?_toList]
   congr 1;omega
 refine⟨⟨⟨?_,sg.kd.trans g.kd,sg.fl.trans g.fl⟩,fun m hm=>?_,sg.pd⟩,?_⟩
 ·refine Array.Perm.trans (Array.perm_iff_toList_perm.mpr ?_) g.pm
  show (Z1 (arrOf st) (sa+k) r.toList.zipIdx).toList.Perm _
  rw[pl]
  have e:(arrOf st).toList=(arrOf st).toList.take (sa+k)++(((arrOf st).extract (sa+k) (sa+na)).toList++((arrOf st).extract (sa+na) (sa+na+nb')).toList)++(arrOf st).toList.drop (sa+k+(na - k+nb')):=by
   have e1:=zCG (a:=arrOf st) (i:=sa+na) (k:=nb')
   have e2:=zCG (a:=arrOf st) (i:=sa+k) (k:=na - k)
   rw[show sa+k+(na - k)=sa+na by omega] at e2
   rw[show sa+k+(na - k+nb')=sa+na+nb' by omega,List.append_assoc,List.append_assoc,<- e1,<- e2,List.take_append_drop]
  conv=>rhs;rw[e]
  exact (rs.1.append_left _).append_right _
 ·show (Z1 (arrOf st) (sa+k) r.toList.zipIdx)[m]? = _
  rw[at_,if_neg (by omega)]
 ·show Ri κ (Z1 (arrOf st) (sa+k) r.toList.zipIdx) sa (na+nb)
  have low:∀ i,i < k->KK κ (Z1 (arrOf st) (sa+k) r.toList.zipIdx) (sa+i)=KK κ (arrOf st) (sa+i):=fun i hi=>KK_congr (by rw[at_,if_neg (by omega)])
  have hig:∀ i,na+nb' <= i->KK κ (Z1 (arrOf st) (sa+k) r.toList.zipIdx) (sa+i)=KK κ (arrOf st) (sa+i):=fun i hi=>KK_congr (by rw[at_,if_neg (by omega)])
  have mid:∀ i,k <= i->i < na+nb'->∃ p,r[i - k]? = some p/\KK κ (Z1 (arrOf st) (sa+k) r.toList.zipIdx) (sa+i)=kyo κ p/\∃ m,k <= m/\m < na+nb'/\kyo κ p=KK κ (arrOf st) (sa+m):=fun i hi hj=>by
   obtain⟨p,e⟩:=qj r (show i - k < r.size by omega)
   refine⟨p,e,yC (by rw[at_,if_pos (by omega),show sa+i - (sa+k)=i - k by omega];exact e),?_⟩
   rcases Rs.mem rs e with ⟨m,em⟩ | ⟨m,em⟩
   ·obtain⟨c1,c2⟩:=zB1 em
    exact⟨k+m,by omega,by omega,by rw[<- Nat.add_assoc];exact (yC c2).symm⟩
   ·obtain⟨c1,c2⟩:=zB1 em
    exact⟨na+m,by omega,by omega,by rw[<- Nat.add_assoc];exact (yC c2).symm⟩
  have f1':∀ i m,i < k->m < na+nb->i <= m->κ.kle (KK κ (arrOf st) (sa+i)) (KK κ (arrOf st) (sa+m)):=fun i m hi hm hj=>by
   by_cases c:m < na
   ·exact r1 i m hj c
   ·have:=f1 i (m - na) hi (by omega)
    rwa [show sa+na+(m - na)=sa+m by omega] at this
  have f2':∀ m j,na+nb' <= j->j < na+nb->m <= j->κ.kle (KK κ (arrOf st) (sa+m)) (KK κ (arrOf st) (sa+j)):=fun m j hi hm hj=>by
   by_cases c:m < na
   ·have:=f2 m (j - na) c (by omega) (by omega)
    rwa [show sa+na+(j - na)=sa+j by omega] at this
   ·have:=r2 (m - na) (j - na) (by omega) (by omega)
    rwa [show sa+na+(j - na)=sa+j by omega,show sa+na+(m - na)=sa+m by omega] at this
  intro i j hij hj
  by_cases c1:i < k
  ·rw[low i c1]
   by_cases d1:j < k
   ·rw[low j d1];exact f1' i j c1 hj hij
   by_cases d2:j < na+nb'
   ·obtain⟨p,_,e,m,m1,m2,em⟩:=mid j (by omega) d2
    rw[e,em];exact f1' i m c1 (by omega) (by omega)
   ·rw[hig j (by omega)];exact f1' i j c1 hj hij
  by_cases c2:i < na+nb'
  ·obtain⟨p,ep,e,m,m1,m2,em⟩:=mid i (by omega) c2
   by_cases d2:j < na+nb'
   ·obtain⟨q,eq,e',_⟩:=mid j (by omega) d2
    rw[e,e']
    by_cases c:i=j
    ·subst c;rw[ep] at eq;cases eq;exact KeyOrd.kle_refl _
    ·exact Rs.le rs (show i - k < j - k by omega) ep eq
   ·rw[e,em,hig j (by omega)];exact f2' m j (by omega) hj (by omega)
  ·rw[hig i (by omega),hig j (by omega)];exact f2' i j (by omega) hj hij
theorem SG.has {st:SortSt} (h:SG a₀ st) (h0:KeysOf κ a₀) {p:Keyed} (hp:p∈(arrOf st).toList):Zy κ p:=h0 p ((Array.perm_iff_toList_perm.mp h.pm).mem_iff.mp hp)
theorem zIs {a:Array Keyed}{i k:Nat}{y:Keyed} (h:y∈(a.extract i k).toList):y∈a.toList:=by
 obtain⟨j,_,_,hj,e⟩:=zDV h
 obtain⟨hj,rfl⟩:=Array.getElem?_eq_some_iff.mp e
 simp
theorem Ri.join {a:Array Keyed}{sa na nb:Nat} (r1:Ri κ a sa na) (r2:Ri κ a (sa+na) nb) (f:∀ i j,i < na->j < nb->κ.kle (KK κ a (sa+i)) (KK κ a (sa+na+j))):Ri κ a sa (na+nb):=fun i j hij hj=>by
 by_cases c:j < na
 ·exact r1 i j hij c
 by_cases d:i < na
 ·have:=f i (j - na) d (by omega)
  rwa [show sa+na+(j - na)=sa+j by omega] at this
 ·have:=r2 (i - na) (j - na) (by omega) (by omega)
  rwa [show sa+na+(j - na)=sa+j by omega,show sa+na+(i - na)=sa+i by omega] at this
theorem zQK {st:SortSt}{sa k na nb nb':Nat}{Q:Bool->SortSt->Prop} (hO:κ.OneLt) (h0:KeysOf κ a₀) (g:SG a₀ st) (hn:sa+na+nb <= a₀.size) (hk:k < na) (hb:nb' <= nb) (r1:Ri κ (arrOf st) sa na) (r2:Ri κ (arrOf st) (sa+na) nb)
  (f1:∀ i j,i < k->j < nb->κ.kle (KK κ (arrOf st) (sa+i)) (KK κ (arrOf st) (sa+na+j))) (f2:∀ i j,i < na->nb' <= j->j < nb->κ.kle (KK κ (arrOf st) (sa+i)) (KK κ (arrOf st) (sa+na+j)))
  (f3:nb'≠0->κ.kle (KK κ (arrOf st) (sa+na)) (KK κ (arrOf st) (sa+k))) (f4:nb'≠0->κ.kle (KK κ (arrOf st) (sa+na+(nb' - 1))) (KK κ (arrOf st) (sa+na - 1)))
  (h:∀ st',Mrg κ a₀ sa (na+nb) st st'->Q true st'):wpS (model prog w) A E s (mgE (arrOf st) (sa+k) (na - k) (sa+na) nb') Q st:=by
 unfold mgE
 by_cases c:nb'=0
 ·rw[if_pos (by simpa using c)]
  exact wpS_pure (h _ ⟨j8.refl g,r1.join r2 fun i j a b=>f2 i j a (by omega) b⟩)
 rw[if_neg (by simpa using c)]
 have hz:=g.sz
 have s1:((arrOf st).extract (sa+k) (sa+na)).size=na - k:=by rw[Array.size_extract];omega
 have s2:((arrOf st).extract (sa+na) (sa+na+nb')).size=nb':=by rw[Array.size_extract];omega
 have mg:MG κ ((arrOf st).extract (sa+k) (sa+na)) ((arrOf st).extract (sa+na) (sa+na+nb')):=by
  refine⟨fun p hp=>g.has h0 (zIs hp),fun p hp=>g.has h0 (zIs hp),?_,Ri.ext (by omega) (r2.sub 0 nb' (by omega)),by omega,by omega,fun p q e1 e2=>?_,fun p q e1 e2=>?_⟩
  ·have:=Ri.ext (lo:=sa+k) (n:=na - k) (by omega) (r1.sub k (na - k) (by omega))
   rwa [show sa+k+(na - k)=sa+na by omega] at this
  ·have a1:=(zB1 e1).2
   have a2:=(zB1 e2).2
   have:=f3 c
   rw[Nat.add_zero] at a1 a2
   rwa [yC a1,yC a2] at this
  ·rw[s2] at e1
   rw[s1] at e2
   have a1:=(zB1 e1).2
   have a2:=(zB1 e2).2
   rw[show sa+k+(na - k - 1)=sa+na - 1 by omega] at a2
   have:=f4 c
   rwa [yC a1,yC a2] at this
 have fin:∀ r u,jm st u->Rs κ ((arrOf st).extract (sa+k) (sa+na)) ((arrOf st).extract (sa+na) (sa+na+nb')) r->wpS (model prog w) A E s (do modify fun z=>setArr z (Z1 (arrOf z) (sa+k) r.toList.zipIdx);let z <- get;pure (failedOf z).isNone) Q u:=fun r u sg rs=>by
  refine wpS_bind (wpS_modify (wpS_bind (wpS_get (wpS_pure ?_))))
  have m:=zO6 g sg hn (by omega) hb r1 r2 f1 f2 rs
  have:=h _ m
  rw[show (failedOf (setArr u (Z1 (arrOf u) (sa+k) r.toList.zipIdx))).isNone=true by rw[m.1.ok.fl];rfl]
  exact this
 split
 ·exact wpS_bind (zJb hO g.kd mg fin)
 ·exact wpS_bind (zJV hO g.kd mg fin)
theorem zQn {st:SortSt}{sa na nb:Nat}{Q:Bool->SortSt->Prop} (hO:κ.OneLt) (h0:KeysOf κ a₀) (g:SG a₀ st) (hn:sa+na+nb <= a₀.size) (h1:1 <= na) (h2:1 <= nb) (r1:Ri κ (arrOf st) sa na) (r2:Ri κ (arrOf st) (sa+na) nb)
  (h:∀ st',Mrg κ a₀ sa (na+nb) st st'->Q true st'):wpS (model prog w) A E s (mgB (arrOf st) sa na (sa+na) nb) Q st:=by
 unfold mgB
 have hz:=g.sz
 obtain⟨p,e⟩:=qj (arrOf st) (show sa+na < (arrOf st).size by omega)
 refine wpS_bind (qA e (wpS_bind (JI hO g.kd (fun p hp=>g.has h0 hp) (zAH (fun p hp=>g.has h0 hp) e) (by omega) r1 (by omega) fun k ⟨k1,k2,k3⟩=>?_)))
 have f1:∀ i j,i < k->j < nb->κ.kle (KK κ (arrOf st) (sa+i)) (KK κ (arrOf st) (sa+na+j)):=fun i j hi hj=>by
  have:=k2 i hi
  unfold By at this
  rw[if_neg (by decide),Bool.not_eq_true'] at this
  have a:=r2 0 j (by omega) hj
  rw[Nat.add_zero,yC e] at a
  exact KeyOrd.kle_trans this a
 dsimp only
 by_cases c:na - k=0
 ·rw[if_pos (by simpa using c)]
  exact wpS_pure (h _ ⟨j8.refl g,r1.join r2 fun i j a b=>f1 i j (by omega) b⟩)
 rw[if_neg (by simpa using c),show sa+k+(na - k) - 1=sa+na - 1 by omega]
 obtain⟨q,e'⟩:=qj (arrOf st) (show sa+na - 1 < (arrOf st).size by omega)
 refine wpS_bind (qA e' (wpS_bind (JI hO g.kd (fun p hp=>g.has h0 hp) (zAH (fun p hp=>g.has h0 hp) e') (by omega) r2 (by omega) fun t ⟨t1,t2,t3⟩=>?_)))
 refine zQK hO h0 g hn (by omega) t1 r1 r2 f1 (fun i j a b d=>?_) (fun n=>?_) (fun n=>?_) h
 ·have:=t3 j b d
  unfold By at this
  rw[if_pos rfl] at this
  have a:=r1 i (na - 1) (by omega) (by omega)
  rw[show sa+(na - 1)=sa+na - 1 by omega,yC e'] at a
  exact KeyOrd.kle_trans a this
 ·have:=k3 k (Nat.le_refl _) (by omega)
  unfold By at this
  rw[if_neg (by decide),Bool.not_eq_false'] at this
  rw[yC e]
  exact KeyOrd.kle_of_klt this
 ·have:=t2 (t - 1) (by omega)
  unfold By at this
  rw[if_pos rfl] at this
  rw[yC e']
  exact KeyOrd.kle_of_klt this
noncomputable def zT (κ:KeyKind) (xs:Array Keyed):List (Nat×Nat×Nat)->Nat->Nat->Prop
 | [],lo,hi=>lo=hi
 | r::t,lo,hi=>r.1=lo/\1 <= r.2.1/\Ri κ xs lo r.2.1/\zT κ xs t (lo+r.2.1) hi
theorem zT.app {xs:Array Keyed}:∀ {a b:List (Nat×Nat×Nat)}{lo hi:Nat},zT κ xs (a++b) lo hi ↔ ∃ m,zT κ xs a lo m/\zT κ xs b m hi
 | [],b,lo,hi=>⟨fun h=>⟨lo,rfl,h⟩,fun ⟨m,e,h⟩=>by cases e;exact h⟩
 | r::a,b,lo,hi=>⟨fun ⟨h1,h2,h3,h4⟩=>by obtain⟨m,h5,h6⟩:=zT.app.mp h4;exact⟨m,⟨h1,h2,h3,h5⟩,h6⟩,fun ⟨m,⟨h1,h2,h3,h4⟩,h5⟩=>⟨h1,h2,h3,zT.app.mpr ⟨m,h4,h5⟩⟩⟩
theorem zT.len {xs:Array Keyed}:∀ {a:List (Nat×Nat×Nat)}{lo hi:Nat},zT κ xs a lo hi->lo+a.length <= hi
 | [],lo,hi,h=>by cases h;exact Nat.le_refl _
 | r::a,lo,hi,⟨h1,h2,h3,h4⟩=>by have:=h4.len;rw[List.length_cons];omega
theorem Ri.same {xs ys:Array Keyed}{lo n:Nat} (h:Ri κ xs lo n) (e:∀ k,lo <= k->k < lo+n->ys[k]? = xs[k]?):Ri κ ys lo n:=fun i j a b=>by
 rw[KK_congr (e (lo+i) (by omega) (by omega)),KK_congr (e (lo+j) (by omega) (by omega))];exact h i j a b
theorem zT.same {xs ys:Array Keyed}:∀ {a:List (Nat×Nat×Nat)}{lo hi:Nat},zT κ xs a lo hi->(∀ k,lo <= k->k < hi->ys[k]? = xs[k]?)->zT κ ys a lo hi
 | [],lo,hi,h,_=>h
 | r::a,lo,hi,⟨h1,h2,h3,h4⟩,e=>by
  have:=h4.len
  exact⟨h1,h2,h3.same fun k a b=>e k a (by omega),h4.same fun k a b=>e k (by omega) b⟩
theorem zT.mod {xs:Array Keyed}{pw:Nat}:∀ {a:List (Nat×Nat×Nat)}{lo hi:Nat} (k:Nat),zT κ xs a lo hi->zT κ xs (a.modify k fun r=>(r.1,r.2.1,pw)) lo hi
 | [],lo,hi,k,h=>by rw[List.modify_nil];exact h
 | r::a,lo,hi,0,h=>by rw[List.modify_zero_cons];exact h
 | r::a,lo,hi,k+1,⟨h1,h2,h3,h4⟩=>by rw[List.modify_succ_cons];exact⟨h1,h2,h3,h4.mod k⟩
structure PR (κ:KeyKind) (a₀:Array Keyed) (lo:Nat) (st:SortSt):Prop where
 ok:SG a₀ st
 rn:zT κ (arrOf st) (pendingOf st).toList 0 lo
theorem zCN {st:SortSt}{i lo:Nat}{Q:Bool->SortSt->Prop} (hO:κ.OneLt) (h0:KeysOf κ a₀) (pr:PR κ a₀ lo st) (hl:lo <= a₀.size) (hi:i+1 < (pendingOf st).size)
  (h:∀ st',PR κ a₀ lo st'->(pendingOf st').size+1=(pendingOf st).size->(∀ k,lo <= k->(arrOf st')[k]? = (arrOf st)[k]?)->Q true st'):wpS (model prog w) A E s (mergeAt' i) Q st:=by
 obtain⟨g,rn⟩:=pr
 obtain⟨⟨sa,na,pw⟩,e1⟩:∃ r,(pendingOf st)[i]? = some r:=⟨_,getElem?_pos (pendingOf st) i (by omega)⟩
 obtain⟨⟨sb,nb,qw⟩,e2⟩:∃ r,(pendingOf st)[i+1]? = some r:=⟨_,getElem?_pos (pendingOf st) (i+1) hi⟩
 have spl:(pendingOf st).toList=(pendingOf st).toList.take i++(sa,na,pw)::(sb,nb,qw)::(pendingOf st).toList.drop (i+2):=by
  obtain⟨b1,c1⟩:=Array.getElem?_eq_some_iff.mp e1
  obtain⟨b2,c2⟩:=Array.getElem?_eq_some_iff.mp e2
  have d1:=List.drop_eq_getElem_cons (l:=(pendingOf st).toList) (i:=i) (by rw[Array.length_toList];exact b1)
  have d2:=List.drop_eq_getElem_cons (l:=(pendingOf st).toList) (i:=i+1) (by rw[Array.length_toList];exact b2)
  rw[Array.getElem_toList,c1] at d1
  rw[Array.getElem_toList,c2] at d2
  rw[<- d2,<- d1,List.take_append_drop]
 generalize hL:(pendingOf st).toList.take i=L at spl
 generalize hR:(pendingOf st).toList.drop (i+2)=R at spl
 have hLl:L.length=i:=by rw[<- hL,List.length_take,Array.length_toList];omega
 rw[spl] at rn
 obtain⟨m,rl,hs1,n1,ra,hs2,n2,rb,rr⟩:=zT.app.mp rn
 dsimp only at hs1 n1 ra hs2 n2 rb rr
 subst hs1 hs2
 have len:=rr.len
 refine zJ2 e1 e2 (zQn (st:=setPending st (((pendingOf st).setIfInBounds i (sa,na+nb,pw)).eraseIdxIfInBounds (i+1))) hO h0 ⟨g.pm,g.kd,g.fl⟩ (by omega) n1 n2 ra rb fun st' ⟨kp,ri⟩=>?_)
 have pl:(pendingOf st').toList=L++(sa,na+nb,pw)::R:=by
  rw[kp.pd]
  show (((pendingOf st).setIfInBounds i (sa,na+nb,pw)).eraseIdxIfInBounds (i+1)).toList=_
  rw[Array.toList_eraseIdxIfInBounds,Array.toList_setIfInBounds,spl]
  subst hLl
  rw[List.set_append_right _ _ (Nat.le_refl _),List.eraseIdx_append_of_length_le (by omega),Nat.sub_self,Nat.add_sub_cancel_left]
  rfl
 have ll:=rl.len
 refine h st' ⟨kp.ok,?_⟩ ?_ fun k hk=>kp.out k (.inr (by omega))
 ·rw[pl]
  exact zT.app.mpr ⟨sa,rl.same fun k _ b=>kp.out k (.inl b),rfl,by show 1 <= na+nb;omega,ri,by rw[<- Nat.add_assoc];exact rr.same fun k a _=>kp.out k (.inr (by omega))⟩
 ·rw[<- Array.length_toList,<- Array.length_toList,pl,spl]
  simp;omega
theorem PR.push {lo n:Nat}{st:SortSt} (h:PR κ a₀ lo st) (h1:1 <= n) (r:Ri κ (arrOf st) lo n):PR κ a₀ (lo+n) (setPending st ((pendingOf st).push (lo,n,0))) :=
 ⟨⟨h.ok.pm,h.ok.kd,h.ok.fl⟩,by
  show zT κ (arrOf st) ((pendingOf st).push (lo,n,0)).toList 0 (lo+n)
  rw[Array.toList_push]
  exact zT.app.mpr ⟨lo,h.rn,rfl,h1,r,rfl⟩⟩
theorem PR.modi {lo k pw:Nat}{st:SortSt} (h:PR κ a₀ lo st):PR κ a₀ lo (setPending st ((pendingOf st).modify k fun (a,b,_)=>(a,b,pw))) :=
 ⟨⟨h.ok.pm,h.ok.kd,h.ok.fl⟩,by
  show zT κ (arrOf st) ((pendingOf st).modify k fun (a,b,_)=>(a,b,pw)).toList 0 lo
  rw[Array.toList_modify]
  exact h.rn.mod k⟩
theorem zNC {st:SortSt}{Q:Unit->SortSt->Prop} (hO:κ.OneLt) (h0:KeysOf κ a₀) (hB:SBase a₀ st) (h2:2 <= a₀.size)
  (h:∀ st',(arrOf st').Perm a₀->failedOf st'=none->SortedToK κ (arrOf st') a₀.size->Q () st'):wpS (model prog w) A E s sortRuns' Q st:=by
 rw[sortRuns'_eq]
 refine wpS_bind (wpS_get ?_)
 dsimp only
 simp only[hB.size]
 refine wpS_bind (wpS_mono (wpS_forRange (I:=fun x c u=>∃ lo,c=(none,lo)/\x <= lo/\lo <= a₀.size/\PR κ a₀ lo u) (Q:=fun c u=>c=(none,a₀.size)/\PR κ a₀ a₀.size u)
  (fun x c u _ hx ⟨lo,ec,h1,h2,pr⟩=>?step) (fun c u ⟨lo,ec,h1,h2,pr⟩=>?fin) ⟨0,rfl,Nat.le_refl _,Nat.zero_le _,⟨hB.perm,hB.kind,hB.failed⟩,by rw[hB.pend];rfl⟩) fun c u ⟨ec,pr⟩=>?post)
 case fin =>
  obtain rfl:lo=a₀.size:=by omega
  exact⟨ec,pr⟩
 case step =>
  subst ec
  dsimp only
  by_cases c:lo ≥ a₀.size
  ·rw[if_pos c]
   obtain rfl:lo=a₀.size:=by omega
   exact wpS_pure ⟨rfl,pr⟩
  rw[if_neg c]
  refine wpS_bind (zQp hO h0 (by omega) (by omega) pr.ok fun m z kp m1 m2 ri=>?_)
  have pr2:PR κ a₀ lo z:=⟨kp.ok,by rw[kp.pd];exact pr.rn.same fun k _ b=>kp.out k (.inl b)⟩
  dsimp only
  by_cases d:m < minRun' a₀.size a₀.size 0
  ·rw[if_pos d]
   refine wpS_bind (wpS_lift (wpAny_rule ⟨rfl,?_⟩))
   refine wpS_bind (zKt hO h0 (by omega) (by omega) kp.ok ri fun z kp2 ri2=>?_)
   simp only[Bool.not_true,Bool.false_eq_true,if_false]
   have pr2:PR κ a₀ lo z:=⟨kp2.ok,by rw[kp2.pd];exact pr2.rn.same fun k _ b=>kp2.out k (.inl b)⟩
   have hn1:1 <= min (a₀.size - lo) (minRun' a₀.size a₀.size 0):=by omega
   have hn2:lo+min (a₀.size - lo) (minRun' a₀.size a₀.size 0) <= a₀.size:=by omega
   generalize min (a₀.size - lo) (minRun' a₀.size a₀.size 0)=n at *
   have ri:=ri2
   refine wpS_bind (wpS_get ?_)
   rcases hb:(pendingOf z).back? with _ | ⟨s1,n1,q1⟩
   ·dsimp only
    exact wpS_bind (wpS_modify (wpS_pure ⟨_,rfl,by omega,hn2,pr2.push hn1 ri⟩))
   ·dsimp only
    refine wpS_bind (wpS_mono (wpS_forRange (I:=fun _ c u=>c=(none,())/\PR κ a₀ lo u/\Ri κ (arrOf u) lo n) (Q:=fun c u=>c=(none,())/\PR κ a₀ lo u/\Ri κ (arrOf u) lo n)
     (fun y c u _ hy ⟨ec,pr3,ri3⟩=>?st2) (fun c u hh=>hh) ⟨rfl,pr2,ri⟩) fun c u ⟨ec,pr3,ri3⟩=>?po2)
    case st2 =>
     subst ec
     refine wpS_bind (wpS_get ?_)
     by_cases c1:(pendingOf u).size > 1
     ·rw[if_pos c1]
      rcases hq:(pendingOf u)[(pendingOf u).size - 2]? with _ | ⟨s2,n2,q2⟩
      ·exact wpS_pure ⟨rfl,pr3,ri3⟩
      ·dsimp only
       split
       ·exact wpS_pure ⟨rfl,pr3,ri3⟩
       ·refine wpS_bind (zCN hO h0 pr3 (by omega) (by omega) fun z pr4 _ o4=>?_)
        simp only[Bool.not_true,Bool.false_eq_true,if_false]
        exact wpS_pure ⟨rfl,pr4,ri3.same fun k a _=>o4 k a⟩
     ·rw[if_neg c1]
      exact wpS_pure ⟨rfl,pr3,ri3⟩
    case po2 =>
     subst ec
     exact wpS_bind (wpS_modify (wpS_bind (wpS_modify (wpS_pure ⟨_,rfl,by omega,hn2,pr3.modi.push hn1 ri3⟩))))
  ·rw[if_neg d]
   have hn2:lo+m <= a₀.size:=by omega
   have hn1:=m1
   generalize m=n at *
   refine wpS_bind (wpS_get ?_)
   rcases hb:(pendingOf z).back? with _ | ⟨s1,n1,q1⟩
   ·dsimp only
    exact wpS_bind (wpS_modify (wpS_pure ⟨_,rfl,by omega,hn2,pr2.push hn1 ri⟩))
   ·dsimp only
    refine wpS_bind (wpS_mono (wpS_forRange (I:=fun _ c u=>c=(none,())/\PR κ a₀ lo u/\Ri κ (arrOf u) lo n) (Q:=fun c u=>c=(none,())/\PR κ a₀ lo u/\Ri κ (arrOf u) lo n)
     (fun y c u _ hy ⟨ec,pr3,ri3⟩=>?st2) (fun c u hh=>hh) ⟨rfl,pr2,ri⟩) fun c u ⟨ec,pr3,ri3⟩=>?po2)
    case st2 =>
     subst ec
     refine wpS_bind (wpS_get ?_)
     by_cases c1:(pendingOf u).size > 1
     ·rw[if_pos c1]
      rcases hq:(pendingOf u)[(pendingOf u).size - 2]? with _ | ⟨s2,n2,q2⟩
      ·exact wpS_pure ⟨rfl,pr3,ri3⟩
      ·dsimp only
       split
       ·exact wpS_pure ⟨rfl,pr3,ri3⟩
       ·refine wpS_bind (zCN hO h0 pr3 (by omega) (by omega) fun z pr4 _ o4=>?_)
        simp only[Bool.not_true,Bool.false_eq_true,if_false]
        exact wpS_pure ⟨rfl,pr4,ri3.same fun k a _=>o4 k a⟩
     ·rw[if_neg c1]
      exact wpS_pure ⟨rfl,pr3,ri3⟩
    case po2 =>
     subst ec
     exact wpS_bind (wpS_modify (wpS_bind (wpS_modify (wpS_pure ⟨_,rfl,by omega,hn2,pr3.modi.push hn1 ri3⟩))))
 case post =>
  subst ec
  dsimp only
  have pl:=pr.rn.len
  rw[Nat.zero_add,Array.length_toList] at pl
  refine wpS_bind (wpS_mono (wpS_forRange (I:=fun k c u=>c=(none,())/\PR κ a₀ a₀.size u/\(pendingOf u).size <= max 1 (a₀.size - k)) (Q:=fun c u=>c=(none,())/\PR κ a₀ a₀.size u/\(pendingOf u).size <= 1)
   (fun k c u _ hk ⟨ec,pr,hs⟩=>?st3) (fun c u ⟨ec,pr,hs⟩=>⟨ec,pr,by omega⟩) ⟨rfl,pr,by omega⟩) fun c u ⟨ec,pr,hs⟩=>?po3)
  case st3 =>
   subst ec
   refine wpS_bind (wpS_get ?_)
   by_cases c1:(pendingOf u).size <= 1
   ·rw[if_pos c1]
    exact wpS_pure ⟨rfl,pr,c1⟩
   rw[if_neg c1]
   split
   all_goals
    refine wpS_bind (zCN hO h0 pr (Nat.le_refl _) (by split<;>omega) fun z pr4 e4 _=>?_)
    simp only[Bool.not_true,Bool.false_eq_true,if_false]
    exact wpS_pure ⟨rfl,pr4,by omega⟩
  case po3 =>
   subst ec
   refine wpS_pure (h u pr.ok.pm pr.ok.fl ?_)
   have rn:=pr.rn
   match hp:(pendingOf u).toList,rn with
   | [],rn=>have:0=a₀.size:=rn;omega
   | [r],⟨r1,r2,r3,r4⟩ =>
    have:0+r.2.1=a₀.size:=r4
    intro i j hij hj
    have:=r3 i j hij (by omega)
    rwa [Nat.zero_add,Nat.zero_add] at this
   | _::_::_,_=>rw[<- Array.length_toList,hp] at hs;simp at hs
theorem zNH {a:Addr}{vs:List Value}{n:Nat}{P:Fin->Shared->Prop} (hO:κ.OneLt) (ho:s.heap.get? a=some (seqObj "list" vs.toArray n)) (h0:KeysOf κ (pairsOf vs))
  (hkk:∀ x y r,vs=x::y::r->keyKind' (x::y::r).toArray=pure oneType') (hl:vs.length <= 16777216)
  (h:∀ u:SortSt,(arrOf u).Perm (pairsOf vs)->SortedToK κ (arrOf u) (pairsOf vs).size->P (.done (.ret .none)) { s with heap:=sortedHeap s.heap a vs ((arrOf u).map (·.2)) }) :
  wpAny (model prog w) A (Builtin.«list.sort» ⟨[.ref a],[]⟩) P E s:=by
 rw[list_sort_plain]
 have la:a < s.heap.objs.size:=Heap.lt_size ho
 refine wpAny_bind (listItems_at ho rfl (wpAny_bind (listUpdate_at ho rfl ?_)))
 obtain⟨e1,o1⟩:∃ e1,(s.heap.update a (Obj.mapSeq fun _=>#[])).get? a=some (seqObj "list" #[] e1):=⟨_,get?_update_seq ho (fun _=>#[])⟩
 refine wpAny_bind (seqEpoch_at o1 rfl (wpAny_bind (wpAny_newTuple (wpAny_bind (wpAny_newList (wpAny_holding ?_))))))
 have o6:(((s.heap.update a (Obj.mapSeq fun _=>#[])).push (seqObj "tuple" vs.toArray 0)).push (seqObj "list" #[] 0)).get? a=some (seqObj "list" #[] e1):=by
  rw[Heap.get?_push_ne _ _ _ (by rw[size_push',Heap.size_update];exact Nat.ne_of_lt (Nat.lt_succ_of_lt la)),Heap.get?_push_ne _ _ _ (by rw[Heap.size_update];exact Nat.ne_of_lt la)];exact o1
 show wpAny (model prog w) A _ P E { s with heap:=((s.heap.update a (Obj.mapSeq fun _=>#[])).push (seqObj "tuple" vs.toArray 0)).push (seqObj "list" #[] 0) }
 dsimp only
 have hz:vs.toArray.size=vs.length:=by simp
 by_cases h2:vs.toArray.size < 2
 ·rw[if_pos h2,if_pos h2]
  refine wpAny_bind (wpAny_pure ?_)
  rw[StateT.run_pure]
  refine wpAny_bind (wpAny_pure ?_)
  dsimp only
  refine wpAny_bind (seqEpoch_at o6 rfl (wpAny_bind (listUpdate_at o6 rfl ?_ (hsz2:=by rw[Array.size_map];show (pairsOf vs).size <= _;rw[pairsOf_size,sizeLine_eq];omega))))
  simp only[bne_self_eq_false,Bool.false_eq_true,if_false]
  refine wpAny_pure (h (SortSt.mk' general' (vs.toArray.zip vs.toArray) #[] 7 none) (Array.Perm.refl _) fun i j hij hj=>?_)
  rw[pairsOf_size] at hj
  obtain rfl:i=j:=by omega
  exact KeyOrd.kle_refl _
 ·rw[if_neg h2,if_neg h2]
  match vs,hz,h2 with
  | [],_,h2=>simp at h2
  | [_],_,h2=>simp at h2
  | x::y::r,_,_ =>
  rw[hkk _ _ _ rfl]
  refine wpAny_bind (wpAny_pure (wpAny_bind (wpAny_mono (zNC hO (a₀:=pairsOf (x::y::r)) (st:=SortSt.mk' oneType' ((x::y::r).toArray.zip (x::y::r).toArray) #[] 7 none)
   (Q:=fun _ u=>(arrOf u).Perm (pairsOf (x::y::r))/\failedOf u=none/\SortedToK κ (arrOf u) (pairsOf (x::y::r)).size) h0 ⟨Array.Perm.refl _,rfl,rfl,rfl⟩ (by rw[pairsOf_size];simp) fun u a1 a2 a3=>⟨a1,a2,a3⟩) ?_ fun _ _ e=>e)))
  rintro ⟨⟨⟩,u⟩ _ ⟨rfl,hp,hf,hs⟩
  dsimp only
  refine wpAny_bind (seqEpoch_at o6 rfl (wpAny_bind (listUpdate_at o6 rfl ?_ (hsz2:=Nat.le_trans (Nat.le_of_eq ((Array.size_map ..).trans (hp.size_eq.trans (pairsOf_size _)))) (by rw[sizeLine_eq];omega)))))
  rw[hf]
  simp only[bne_self_eq_false,Bool.false_eq_true,if_false]
  exact wpAny_pure (h u hp hs)
theorem sorted_any {l:Addr}{vs:List Value}{ss:List Str}{Q:Value->Shared->Prop} (hl:s.heap.IsList l vs.toArray) (hS:StrsAre vs ss) (hn:vs.length <= 16777216)
  (h:∀ (out:Array Value) (ss':List Str),StrsAre out.toList ss'->ss'.Perm ss->sortedS ss'=true->Q (.ref (s.heap.objs.size+1)) { s with heap:=sortedAll s.heap vs out }) :
  wpAny (model prog w) A (call (.builtin "sorted") [.ref l]) Q E s:=by
 refine Calls.call_function_entry kind_sorted plain_sorted entry_sorted (args_sorted1 _) ?_
 unfold Builtin.«sorted»
 refine wpAny_bind (m:=checkCount "sorted" 1 1 _) (wpAny_pure (wpAny_bind (collect_list hl (wpAny_bind (wpAny_newList ?_)))))
 have hz:((s.heap.push (seqObj "list" #[] 0)).update s.heap.objs.size (Obj.mapSeq (· ++ vs.toArray))).objs.size=s.heap.objs.size+1:=(Heap.size_update ..).trans (size_push' ..)
 have oL:(((s.heap.push (seqObj "list" #[] 0)).update s.heap.objs.size (Obj.mapSeq (· ++ vs.toArray))).push (seqObj "list" vs.toArray 0)).get? (s.heap.objs.size+1)=some (seqObj "list" vs.toArray 0):=by rw[<- hz];exact Heap.get?_push_size _ rfl
 show wpAny _ _ _ _ _ { s with heap:=((s.heap.push (seqObj "list" #[] 0)).update s.heap.objs.size (Obj.mapSeq (· ++ vs.toArray))).push (seqObj "list" vs.toArray 0) }
 rw[hz]
 refine wpAny_bind (wpAny_holding (wpAny_call_entry slot_list_sort ⟨_,oL,rfl⟩ entry_list_sort (zNH strKind_oneLt oL hS.keysOf (fun x y r e=>keyKind_strs (by rw[<- e];exact hS)) hn fun u a1 a2=>⟨_,rfl,?_⟩) (args_list_sort _)))
 obtain⟨ss',h1,h2,h3⟩:=sorted_out_str hS a1 a2
 exact wpAny_pure ⟨_,rfl,h _ ss' h1 h2 h3⟩
end TS
namespace M
noncomputable abbrev T:=List Nat
inductive Kd where
 | str | int | bool | list | tuple | dict
 deriving DecidableEq
inductive D where
 | non | bl (b:Bool) | int (i:Int) | str (x:T) | tup (ds:List D) | ro (ds:List D) | ref (i:Nat) | ty (n:Kd)
mutual
noncomputable def D.decEq:(a b:D)->Decidable (a=b)
 | .non,.non=>isTrue rfl
 | .bl a,.bl b=>if h:a=b then isTrue (by rw[h]) else isFalse (fun e=>h (D.bl.inj e))
 | .int a,.int b=>if h:a=b then isTrue (by rw[h]) else isFalse (fun e=>h (D.int.inj e))
 | .str a,.str b=>if h:a=b then isTrue (by rw[h]) else isFalse (fun e=>h (D.str.inj e))
 | .ref a,.ref b=>if h:a=b then isTrue (by rw[h]) else isFalse (fun e=>h (D.ref.inj e))
 | .ty a,.ty b=>if h:a=b then isTrue (by rw[h]) else isFalse (fun e=>h (D.ty.inj e))
 | .tup a,.tup b=>match D.decEqs a b with
  | isTrue h=>isTrue (by rw[h])
  | isFalse h=>isFalse (fun e=>h (D.tup.inj e))
 | .ro a,.ro b=>match D.decEqs a b with
  | isTrue h=>isTrue (by rw[h])
  | isFalse h=>isFalse (fun e=>h (D.ro.inj e))
 | .non,.bl _ | .non,.int _ | .non,.str _ | .non,.tup _ | .non,.ro _ | .non,.ref _ | .non,.ty _=>isFalse (fun e=>nomatch e)
 | .bl _,.non | .bl _,.int _ | .bl _,.str _ | .bl _,.tup _ | .bl _,.ro _ | .bl _,.ref _ | .bl _,.ty _=>isFalse (fun e=>nomatch e)
 | .int _,.non | .int _,.bl _ | .int _,.str _ | .int _,.tup _ | .int _,.ro _ | .int _,.ref _ | .int _,.ty _=>isFalse (fun e=>nomatch e)
 | .str _,.non | .str _,.bl _ | .str _,.int _ | .str _,.tup _ | .str _,.ro _ | .str _,.ref _ | .str _,.ty _=>isFalse (fun e=>nomatch e)
 | .tup _,.non | .tup _,.bl _ | .tup _,.int _ | .tup _,.str _ | .tup _,.ro _ | .tup _,.ref _ | .tup _,.ty _=>isFalse (fun e=>nomatch e)
 | .ro _,.non | .ro _,.bl _ | .ro _,.int _ | .ro _,.str _ | .ro _,.tup _ | .ro _,.ref _ | .ro _,.ty _=>isFalse (fun e=>nomatch e)
 | .ref _,.non | .ref _,.bl _ | .ref _,.int _ | .ref _,.str _ | .ref _,.tup _ | .ref _,.ro _ | .ref _,.ty _=>isFalse (fun e=>nomatch e)
 | .ty _,.non | .ty _,.bl _ | .ty _,.int _ | .ty _,.str _ | .ty _,.tup _ | .ty _,.ro _ | .ty _,.ref _=>isFalse (fun e=>nomatch e)
noncomputable def D.decEqs:(a b:List D)->Decidable (a=b)
 | [],[]=>isTrue rfl
 | [],_::_=>isFalse (fun e=>nomatch e)
 | _::_,[]=>isFalse (fun e=>nomatch e)
 | a::r,b::t=>match D.decEq a b,D.decEqs r t with
  | isTrue h,isTrue k=>isTrue (by rw[h,k])
  | isFalse h,_=>isFalse (fun e=>h (List.cons.inj e).1)
  | _,isFalse k=>isFalse (fun e=>k (List.cons.inj e).2)
end
instance:DecidableEq D:=D.decEq
inductive O where
 | lst (xs:List D) | dct (kvs:List (D×D)) | fdc (kvs:List (D×D)) | ins (c:Nat) (fs:List (Option D))
 deriving DecidableEq
noncomputable abbrev S:=List O
noncomputable abbrev St:=List (Option D)
inductive R (α:Type) where
 | ok (a:α) (s:S) | exc (e:D) (s:S) | no
noncomputable def R.bind {α β:Type}:R α->(α->S->R β)->R β
 | .ok a s,f=>f a s
 | .exc e s,_=>.exc e s
 | .no,_=>.no
@[simp] theorem R.bind_ok {α β:Type} (a:α) (s:S) (f:α->S->R β):(R.ok a s).bind f=f a s:=rfl
@[simp] theorem R.bind_no {α β:Type} (f:α->S->R β):(R.no:R α).bind f=.no:=rfl
@[simp] theorem R.bind_exc {α β:Type} (e:D) (s:S) (f:α->S->R β):(R.exc e s:R α).bind f=.exc e s:=rfl
section
variable {α β:Type}{c:Prop} [Decidable c]
@[simp] theorem R.bind_ite (a b:R α) (f:α->S->R β):(if c then a else b).bind f=if c then a.bind f else b.bind f:=by split<;>rfl
@[simp] theorem R.ite_ok (a b:α) (s:S):(if c then R.ok a s else R.ok b s)=R.ok (if c then a else b) s:=by split<;>rfl
@[simp] theorem D.ite_bl (a b:Bool):(if c then D.bl a else D.bl b)=D.bl (if c then a else b):=by split<;>rfl
@[simp] theorem D.ite_int (a b:Int):(if c then D.int a else D.int b)=D.int (if c then a else b):=by split<;>rfl
@[simp] theorem D.ite_str (a b:T):(if c then D.str a else D.str b)=D.str (if c then a else b):=by split<;>rfl
@[simp] theorem D.ite_tup (a b:List D):(if c then D.tup a else D.tup b)=D.tup (if c then a else b):=by split<;>rfl
@[simp] theorem St.ite_some (a b:D):(if c then some a else some b)=some (if c then a else b):=by split<;>rfl
@[simp] theorem St.ite_cons (a b:Option D) (r t:St):(if c then a::r else b::t)=(if c then a else b)::(if c then r else t):=by split<;>rfl
end
noncomputable abbrev EM:=St->S->R D
noncomputable abbrev TM:=St->S->R Bool
noncomputable abbrev AM:=St->S->R (List D)
noncomputable def SZ:Nat:=16777216
@[simp] noncomputable def zC (i:Nat):EM:=fun σ s=>match σ[i]? with
 | some (some d)=>.ok d s
 | _=>.no
@[simp] noncomputable def eC (d:D):EM:=fun _ s=>.ok d s
@[simp] noncomputable def eOp (f:D->D->S->R D) (a b:EM):EM:=fun σ s=>(a σ s).bind fun x s=>(b σ s).bind fun y s=>f x y s
@[simp] noncomputable def eUn (f:D->S->R D) (a:EM):EM:=fun σ s=>(a σ s).bind fun x s=>f x s
@[simp] noncomputable def zH:AM:=fun _ s=>.ok [] s
@[simp] noncomputable def zD (a:EM) (r:AM):AM:=fun σ s=>(a σ s).bind fun x s=>(r σ s).bind fun xs s=>.ok (x::xs) s
@[simp] noncomputable def jS (a:AM):EM:=fun σ s=>(a σ s).bind fun xs s=>if xs.length <= SZ then .ok (.tup xs) s else .no
@[simp] noncomputable def alloc (o:O) (s:S):R D:=.ok (.ref s.length) (s++[o])
@[simp] noncomputable def Zi (a:AM):EM:=fun σ s=>(a σ s).bind fun xs s=>if xs.length <= SZ then alloc (.lst xs) s else .no
@[simp] noncomputable def jB (s:S) (i:Nat):Option (List D):=match s[i]? with
 | some (.lst xs)=>some xs
 | _=>none
@[simp] noncomputable def jO:D->D->S->R D
 | .int i,.int j,s=>.ok (.int (i+j)) s
 | .str a,.str b,s=>if a.length+b.length <= SZ then .ok (.str (a++b)) s else .no
 | .tup a,.tup b,s=>if a≠[]/\a.length+b.length <= SZ then .ok (.tup (a++b)) s else .no
 | .ref i,.ref j,s=>match s[i]?,s[j]? with
  | some (.lst xs),some (.lst ys)=>if xs.length+ys.length <= SZ then alloc (.lst (xs++ys)) s else .no
  | _,_=>.no
 | _,_,_=>.no
@[simp] noncomputable def zAo:D->D->S->R D
 | .int i,.int j,s=>.ok (.int (i - j)) s
 | _,_,_=>.no
noncomputable def ZK (i:Int):Bool:=decide (i.natAbs < 18446744073709551616)
@[simp] noncomputable def ZA:D->D->S->R D
 | .int i,.int j,s=>if ZK i || ZK j then .ok (.int (i * j)) s else .no
 | .str a,.int n,s=>if 0 <= n/\n.natAbs <= 1000000/\a.length * n.natAbs <= 1000000 then .ok (.str (List.replicate n.toNat a).flatten) s else .no
 | .ref p,.int n,s=>match jB s p with
  | some xs=>if n.natAbs <= 1000/\xs.length * n.natAbs <= 1000000 then alloc (.lst (List.replicate n.toNat xs).flatten) s else .no
  | none=>.no
 | _,_,_=>.no
@[simp] noncomputable def Qa:D->D->S->R D
 | .int i,.int j,s=>if 0 < j/\j.natAbs < 1073741824 then .ok (.int (i / j)) s else .no
 | _,_,_=>.no
@[simp] noncomputable def ZB:D->D->S->R D
 | .int i,.int j,s=>if 0 < j then .ok (.int (i % j)) s else .no
 | _,_,_=>.no
@[simp] noncomputable def zGz:D->S->R D
 | .int i,s=>.ok (.int (-i)) s
 | _,_=>.no
noncomputable abbrev CM:=D->D->S->R Bool
@[simp] noncomputable def cLt:CM
 | .int i,.int j,s=>.ok (decide (i < j)) s
 | .str a,.str b,s=>.ok (decide (a < b)) s
 | _,_,_=>.no
@[simp] noncomputable def cLe:CM
 | .int i,.int j,s=>.ok (decide (i <= j)) s
 | .str a,.str b,s=>.ok (!decide (b < a)) s
 | _,_,_=>.no
@[simp] noncomputable def cGt:CM
 | .int i,.int j,s=>.ok (decide (j < i)) s
 | _,_,_=>.no
inductive P where
 | non | bl (b:Bool) | int (i:Int) | str (x:T) | tup (ps:List P) | lst (ps:List P)
mutual
noncomputable def P.eqv:P->P->Bool
 | .non,.non=>true
 | .bl a,.bl b=>a == b
 | .int a,.int b=>a == b
 | .bl a,.int b=>(if a then 1 else 0) == b
 | .int a,.bl b=>a == (if b then 1 else 0)
 | .str a,.str b=>a == b
 | .tup a,.tup b=>P.eqvs a b
 | .lst a,.lst b=>P.eqvs a b
 | _,_=>false
noncomputable def P.eqvs:List P->List P->Bool
 | [],[]=>true
 | a::r,b::t=>P.eqv a b && P.eqvs r t
 | _,_=>false
end
mutual
noncomputable def P.dep:P->Nat
 | .tup ps=>P.deps ps+1
 | .lst ps=>P.deps ps+1
 | _=>0
noncomputable def P.deps:List P->Nat
 | []=>0
 | p::ps=>max (P.dep p) (P.deps ps)
end
noncomputable def Zz (g:Nat->Option P):D->Option P
 | .non=>some .non
 | .bl b=>some (.bl b)
 | .int i=>some (.int i)
 | .str x=>some (.str x)
 | .tup ds=>(all ds).map .tup
 | .ro ds=>(all ds).map .lst
 | .ref i=>g i
 | .ty _=>none
where all:List D->Option (List P)
 | []=>some []
 | d::ds=>match Zz g d,all ds with
  | some p,some ps=>some (p::ps)
  | _,_=>none
noncomputable def toP:Nat->S->D->Option P
 | 0,_=>Zz fun _=>none
 | n+1,s=>Zz fun i=>match jB s i with
  | some xs=>(Zz.all (fun j=>toP n s (.ref j)) xs).map .lst
  | none=>none
noncomputable def Q1:Nat:=9
noncomputable def ZM (k:D) (kvs:List (D×D)):Option D:=kvs.lookup k
noncomputable def dEq (s:S) (ws:List (D×D)):List (D×D)->Option Bool
 | []=>some true
 | (k,v)::r=>match ZM k ws with
  | none=>some false
  | some w=>match toP 8 s v,toP 8 s w,dEq s ws r with
   | some p,some q,some b=>if P.dep p <= 64/\P.dep q <= 64 then some (P.eqv p q && b) else none
   | _,_,_=>none
noncomputable def zE0 (x y:D) (s:S):R Bool:=match x,y with
 | .ref i,.ref j=>match s[i]?,s[j]? with
  | some (.dct ks),some (.dct ws)=>if ks.length=ws.length then (match dEq s ws ks with | some b=>.ok b s | none=>.no) else .ok false s
  | _,_=>.no
 | _,_=>.no
@[simp] noncomputable def eqD (x y:D) (s:S):R Bool:=match x,y with
 | .str a,.str b=>.ok (decide (a=b)) s
 | .int a,.int b=>.ok (decide (a=b)) s
 | .bl a,.bl b=>.ok (decide (a=b)) s
 | .non,.non=>.ok true s
 | x,y=>match toP Q1 s x,toP Q1 s y with
  | some p,some q=>if P.dep p <= 64/\P.dep q <= 64 then .ok (P.eqv p q) s else .no
  | _,_=>zE0 x y s
@[simp] noncomputable def cEq:CM:=fun x y s=>eqD x y s
@[simp] noncomputable def cNe:CM:=fun x y s=>(eqD x y s).bind fun b s=>.ok (!b) s
noncomputable def zC7 (a:T):T->Bool
 | []=>a.isEmpty
 | c::r=>a.isPrefixOf (c::r) || zC7 a r
noncomputable def flat:D->Bool
 | .non=>true
 | .bl _=>true
 | .int _=>true
 | .str _=>true
 | _=>false
noncomputable def eqF:D->D->Bool
 | .non,.non=>true
 | .bl a,.bl b=>a == b
 | .int a,.int b=>a == b
 | .bl a,.int b=>(if a then 1 else 0) == b
 | .int a,.bl b=>a == (if b then 1 else 0)
 | .str a,.str b=>a == b
 | _,_=>false
noncomputable def Jd (x:D) (xs:List D):Bool:=xs.any fun y=>eqF y x
noncomputable def Z4:D->Bool
 | .int _=>true
 | .str _=>true
 | _=>false
@[simp] noncomputable def inD (x y:D) (s:S):R Bool:=match y with
 | .str b=>match x with
  | .str a=>.ok (zC7 a b) s
  | _=>.no
 | .tup ys=>if flat x && ys.all flat then .ok (Jd x ys) s else .no
 | .ro ys=>if flat x && ys.all flat then .ok (Jd x ys) s else .no
 | .ref i=>match s[i]? with
  | some (.lst ys)=>if flat x && ys.all flat then .ok (Jd x ys) s else .no
  | some (.dct kvs)=>if Z4 x then .ok (ZM x kvs).isSome s else .no
  | some (.fdc kvs)=>if Z4 x then .ok (ZM x kvs).isSome s else .no
  | _=>.no
 | _=>.no
@[simp] noncomputable def cIn:CM:=fun x y s=>inD x y s
@[simp] noncomputable def zK5:CM:=fun x y s=>(inD x y s).bind fun b s=>.ok (!b) s
@[simp] noncomputable def Zv (c:CM) (a b:EM):EM:=fun σ s=>(a σ s).bind fun x s=>(b σ s).bind fun y s=>(c x y s).bind fun k s=>.ok (.bl k) s
@[simp] noncomputable def jM (c:CM) (a b:EM):TM:=fun σ s=>(a σ s).bind fun x s=>(b σ s).bind fun y s=>c x y s
@[simp] noncomputable def zHk (c d:CM) (a b e:EM):EM:=fun σ s=>(a σ s).bind fun x s=>(b σ s).bind fun y s=>(c x y s).bind fun k s =>
 if k then (e σ s).bind fun z s=>(d y z s).bind fun k s=>.ok (.bl k) s else .ok (.bl false) s
@[simp] noncomputable def zB5 (c d:CM) (a b e:EM):TM:=fun σ s=>(a σ s).bind fun x s=>(b σ s).bind fun y s=>(c x y s).bind fun k s =>
 if k then (e σ s).bind fun z s=>d y z s else .ok false s
@[simp] noncomputable def zN2:D->Bool
 | .non=>true
 | _=>false
@[simp] noncomputable def zDW (a:EM):TM:=fun σ s=>(a σ s).bind fun x s=>.ok (zN2 x) s
@[simp] noncomputable def zBU:D->S->R Bool
 | .non,s=>.ok false s
 | .bl b,s=>.ok b s
 | .int i,s=>.ok (decide (i≠0)) s
 | .str x,s=>if x.length <= SZ then .ok (!x.isEmpty) s else .no
 | .tup ds,s=>.ok (!ds.isEmpty) s
 | .ro ds,s=>.ok (!ds.isEmpty) s
 | .ref i,s=>match s[i]? with
  | some (.lst xs)=>.ok (!xs.isEmpty) s
  | some (.dct kvs)=>.ok (!kvs.isEmpty) s
  | _=>.no
 | .ty _,_=>.no
@[simp] noncomputable def zHp (a:EM):TM:=fun σ s=>(a σ s).bind zBU
@[simp] noncomputable def zEA (a:TM):TM:=fun σ s=>(a σ s).bind fun b s=>.ok (!b) s
@[simp] noncomputable def zFg (a b:TM):TM:=fun σ s=>(a σ s).bind fun k s=>if k then b σ s else .ok false s
@[simp] noncomputable def tOr (a b:TM):TM:=fun σ s=>(a σ s).bind fun k s=>if k then .ok true s else b σ s
@[simp] noncomputable def asB:D->S->R Bool
 | .bl b,s=>.ok b s
 | _,_=>.no
@[simp] noncomputable def zDF (a b:EM):EM:=fun σ s=>(a σ s).bind fun x s=>(asB x s).bind fun k s=>if k then b σ s else .ok (.bl false) s
@[simp] noncomputable def eIf (c:TM) (a b:EM):EM:=fun σ s=>(c σ s).bind fun k s=>if k then a σ s else b σ s
noncomputable def ixN (n:Nat) (i:Int):Option Nat:=if 0 <= i then (if i < n then some i.toNat else none) else if -(n:Int) <= i then some (i+n).toNat else none
noncomputable def atI {α:Type} (xs:List α) (i:Int):Option α:=(ixN xs.length i).bind fun j=>xs[j]?
@[simp] noncomputable def zY:D->D->S->R D
 | .str x,.int i,s=>if x.length <= SZ then (match atI x i with | some c=>.ok (.str [c]) s | none=>.no) else .no
 | .tup xs,.int i,s=>match atI xs i with | some d=>.ok d s | none=>.no
 | .ro xs,.int i,s=>match atI xs i with | some d=>.ok d s | none=>.no
 | .ref p,k,s=>match s[p]? with
  | some (.lst xs)=>(match k with | .int i=>(match atI xs i with | some d=>.ok d s | none=>.no) | _=>.no)
  | some (.dct kvs)=>if Z4 k then (match ZM k kvs with | some d=>.ok d s | none=>.no) else .no
  | some (.fdc kvs)=>if Z4 k then (match ZM k kvs with | some d=>.ok d s | none=>.no) else .no
  | _=>.no
 | _,_,_=>.no
noncomputable def sIx (n d:Nat):Option Int->Nat
 | none=>d
 | some v=>(if v < 0 then max (v+(n:Int)) 0 else min v (n:Int)).toNat
noncomputable def cut {α:Type} (xs:List α) (lo hi:Option Int):List α:=(xs.drop (sIx xs.length 0 lo)).take (sIx xs.length xs.length hi - sIx xs.length 0 lo)
noncomputable abbrev OM:=St->S->R (Option Int)
@[simp] noncomputable def zCJ:OM:=fun _ s=>.ok none s
@[simp] noncomputable def JP (a:EM):OM:=fun σ s=>(a σ s).bind fun x s=>match x with | .int i=>.ok (some i) s | _=>.no
@[simp] noncomputable def slD (x:D) (lo hi:Option Int) (s:S):R D:=match x with
 | .str z=>if z.length <= SZ then .ok (.str (cut z lo hi)) s else .no
 | .tup xs=>if sIx xs.length 0 lo=0/\sIx xs.length xs.length hi=xs.length then .no else .ok (.tup (cut xs lo hi)) s
 | .ro xs=>alloc (.lst (cut xs lo hi)) s
 | .ref p=>match jB s p with
  | some xs=>alloc (.lst (cut xs lo hi)) s
  | none=>.no
 | _=>.no
@[simp] noncomputable def eSl (a:EM) (lo hi:OM):EM:=fun σ s=>(a σ s).bind fun x s=>(lo σ s).bind fun l s=>(hi σ s).bind fun h s=>slD x l h s
@[simp] noncomputable def zEQ (x:D) (s:S):R D:=match x with
 | .str z=>if z.length <= SZ then .ok (.str z.reverse) s else .no
 | .ref p=>match jB s p with
  | some xs=>alloc (.lst xs.reverse) s
  | none=>.no
 | _=>.no
noncomputable abbrev F:=List D->S->R D
@[simp] noncomputable def zS (f:F) (a:AM):EM:=fun σ s=>(a σ s).bind fun xs s=>f xs s
@[simp] noncomputable def Jv (k:Kd) (x:D) (s:S):Bool:=match x with
 | .str _=>(match k with | .str=>true | _=>false)
 | .ro _=>(match k with | .list=>true | _=>false)
 | .ref p=>match s[p]? with
  | some (.lst _)=>(match k with | .list=>true | _=>false)
  | some (.dct _)=>(match k with | .dict=>true | _=>false)
  | _=>false
 | _=>false
@[simp] noncomputable def eM (k:Kd) (f:D->F) (o:EM) (a:AM):EM:=fun σ s=>(o σ s).bind fun x s=>if Jv k x s then (a σ s).bind fun xs s=>f x xs s else .no
@[simp] noncomputable def jR (c:Nat) (f:F) (o:EM) (a:AM):EM:=fun σ s=>(o σ s).bind fun x s=>match x with
 | .ref p=>(match s[p]? with
  | some (.ins c' _)=>if c'=c then (a σ s).bind fun xs s=>f (x::xs) s else .no
  | _=>.no)
 | _=>.no
@[simp] noncomputable def zE2 (c:Nat) (n:Nat) (f:F) (a:AM):EM:=fun σ s=>(a σ s).bind fun xs s=>(f (.ref s.length::xs) (s++[.ins c (List.replicate n none)])).bind fun d s'=>if d=.non then .ok (.ref s.length) s' else .no
@[simp] noncomputable def jT (c:Nat) (i:Nat) (o:EM):EM:=fun σ s=>(o σ s).bind fun x s=>match x with
 | .ref p=>(match s[p]? with
  | some (.ins c' fs)=>if c'=c then (match fs[i]? with | some (some d)=>.ok d s | _=>.no) else .no
  | _=>.no)
 | _=>.no
@[simp] noncomputable def ZC:F
 | [.str x],s=>if x.length <= SZ then .ok (.int x.length) s else .no
 | [.tup xs],s=>.ok (.int xs.length) s
 | [.ro xs],s=>.ok (.int xs.length) s
 | [.ref p],s=>match s[p]? with
  | some (.lst xs)=>.ok (.int xs.length) s
  | some (.dct kvs)=>.ok (.int kvs.length) s
  | _=>.no
 | _,_=>.no
@[simp] noncomputable def JX (n:Kd) (x:D) (s:S):R Bool:=match x with
 | .non=>.ok false s
 | .bl _=>.ok (match n with | .bool=>true | .int=>true | _=>false) s
 | .int _=>.ok (match n with | .int=>true | _=>false) s
 | .str _=>.ok (match n with | .str=>true | _=>false) s
 | .tup _=>.ok (match n with | .tuple=>true | _=>false) s
 | .ro _=>.ok (match n with | .list=>true | _=>false) s
 | .ty _=>.no
 | .ref p=>match s[p]? with
  | some (.lst _)=>.ok (match n with | .list=>true | _=>false) s
  | some (.dct _)=>.ok (match n with | .dict=>true | _=>false) s
  | _=>.no
@[simp] noncomputable def zDP:F
 | [x,.ty n],s=>(JX n x s).bind fun b s=>.ok (.bl b) s
 | _,_=>.no
noncomputable def zBX:List D->Option (List Bool)
 | []=>some []
 | .bl b::r=>(zBX r).map (b :: ·)
 | _::_=>none
noncomputable def QS:List D->Option (List T)
 | []=>some []
 | .str x::r=>(QS r).map (x :: ·)
 | _::_=>none
noncomputable def zEG (xs:List D) (s:S):R D:=match zBX xs with
 | some bs=>.ok (.bl (bs.all id)) s
 | none=>.no
@[simp] noncomputable def zEd (k:List D->S->R D):F
 | [.tup xs],s=>k xs s
 | [.ro xs],s=>k xs s
 | [.ref p],s=>match jB s p with
  | some xs=>k xs s
  | none=>.no
 | _,_=>.no
noncomputable def z7 (x:T):List T->T
 | []=>[]
 | [y]=>y
 | y::r=>y++x++z7 x r
noncomputable def Zd (x:T) (xs:List D) (s:S):R D:=match QS xs with
 | some ys=>if (ys.map List.length).sum+ys.length * x.length <= SZ then .ok (.str (z7 x ys)) s else .no
 | none=>.no
@[simp] noncomputable def Jf:D->F
 | .str x,xs,s=>zEd (Zd x) xs s
 | _,_,_=>.no
noncomputable def zf (c:Nat):T->List T
 | []=>[[]]
 | d::r=>if d=c then []::zf c r else match zf c r with
  | []=>[[d]]
  | p::ps=>(d::p)::ps
@[simp] noncomputable def zDc:D->F
 | .str x,[.str [c]],s=>if x.length+2 <= SZ then alloc (.lst ((zf c x).map .str)) s else .no
 | _,_,_=>.no
@[simp] noncomputable def zCE:D->F
 | .str x,[.str [a],.str [b]],s=>if 2 * x.length+1 <= SZ then .ok (.str (x.map fun c=>if c=a then b else c)) s else .no
 | _,_,_=>.no
noncomputable def zCC (i:Int):T:=(toString i).toList.map Char.toNat
@[simp] noncomputable def zM1:F
 | [.int i],s=>if ZK i then .ok (.str (zCC i)) s else .no
 | _,_=>.no
@[simp] noncomputable def zAd:F
 | [.int i],s=>.ok (.int i) s
 | [.bl b],s=>.ok (.int (if b then 1 else 0)) s
 | _,_=>.no
@[simp] noncomputable def zJq:F
 | [.tup xs],s=>alloc (.lst xs) s
 | [.ro xs],s=>alloc (.lst xs) s
 | [.ref p],s=>match s[p]? with
  | some (.lst xs)=>alloc (.lst xs) s
  | some (.dct kvs)=>alloc (.lst (kvs.map (·.1))) s
  | _=>.no
 | _,_=>.no
@[simp] noncomputable def zSo:F
 | [.ref p],s=>match s[p]? with
  | some (.dct kvs)=>alloc (.dct kvs) s
  | _=>.no
 | _,_=>.no
@[simp] noncomputable def zFK:F
 | [.tup xs],s=>.ok (.tup xs) s
 | [.ref p],s=>match jB s p with
  | some xs=>.ok (.tup xs) s
  | none=>.no
 | _,_=>.no
@[simp] noncomputable def yL:D->F
 | .ref p,[y],s=>match s[p]? with
  | some (.lst xs)=>if xs.length < SZ then .ok .non (s.set p (.lst (xs++[y]))) else .no
  | _=>.no
 | _,_,_=>.no
@[simp] noncomputable def y4:D->F
 | .ref p,[],s=>match s[p]? with
  | some (.lst xs)=>(match xs.getLast? with | some y=>.ok y (s.set p (.lst xs.dropLast)) | none=>.no)
  | _=>.no
 | _,_,_=>.no
noncomputable def zCM (k v:D) (kvs:List (D×D)):List (D×D):=if (kvs.any fun p=>decide (p.1=k))=true then kvs.map fun p=>if p.1=k then (p.1,v) else p else kvs++[(k,v)]
@[simp] noncomputable def zA5:EM:=fun _ s=>alloc (.dct []) s
@[simp] noncomputable def zG0:F
 | [.int i,.int j],s=>.ok (.int (if j < i then j else i)) s
 | _,_=>.no
@[simp] noncomputable def zJr:F
 | [.int i,.int j],s=>.ok (.int (if j > i then j else i)) s
 | _,_=>.no
noncomputable def qu:List T->List T
 | []=>[]
 | x::r=>insT' x (qu r)
where insT' (x:T):List T->List T
 | []=>[x]
 | y::r=>if y < x then y::insT' x r else x::y::r
noncomputable def zFv (xs:List D) (s:S):R D:=match QS xs with
 | some ys=>if ys.length <= 16777216 then alloc (.lst ((qu ys).map .str)) s else .no
 | none=>.no
@[simp] noncomputable def zFx:F
 | [.ref p],s=>match jB s p with
  | some xs=>zFv xs s
  | none=>.no
 | _,_=>.no
noncomputable abbrev Gd:=List (Nat×O)
noncomputable def zl (g:Gd) (s:S):Bool:=g.all fun p=>decide (s[p.1]? = some p.2)
noncomputable abbrev IM:=St->S->R (List D×Gd)
@[simp] noncomputable def itD:D->S->R (List D×Gd)
 | .str x,s=>if x.length <= SZ then .ok (x.map fun c=>.str [c],[]) s else .no
 | .tup ds,s=>.ok (ds,[]) s
 | .ro ds,s=>.ok (ds,[]) s
 | .ref i,s=>match s[i]? with
  | some (.lst xs)=>.ok (xs,[(i,.lst xs)]) s
  | _=>.no
 | _,_=>.no
@[simp] noncomputable def iE (a:EM):IM:=fun σ s=>(a σ s).bind itD
noncomputable def qH (lo hi:Int):List D:=(List.range (hi - lo).toNat).map fun (k:Nat)=>.int (lo+k)
@[simp] noncomputable def yG (a:EM):IM:=fun σ s=>(a σ s).bind fun x s=>match x with
 | .int j=>if j.natAbs < 4611686018427387904 then .ok (qH 0 j,[]) s else .no
 | _=>.no
@[simp] noncomputable def zG5 (a:EM):IM:=fun σ s=>(a σ s).bind fun x s=>match x with
 | .tup ds=>.ok (ds.reverse,[]) s
 | _=>.no
@[simp] noncomputable def zB8 (x:T):D->S->R D
 | .ref p,s=>(match jB s p with | some xs=>Zd x xs.reverse s | none=>.no)
 | _,_=>.no
noncomputable abbrev GM:=D->St->Option St
@[simp] noncomputable def jW (i:Nat):GM:=fun d σ=>some (σ.set i (some d))
noncomputable abbrev GMs:=List D->St->Option St
@[simp] noncomputable def zSp (g:GM) (r:GMs):GMs:=fun ds σ=>match ds with
 | []=>none
 | d::ds=>match g d σ with
  | some σ'=>r ds σ'
  | none=>none
noncomputable def yh (g:Gd) (f:D->S->R (Option D)):List D->S->R (List D)
 | [],s=>.ok [] s
 | x::xs,s=>(f x s).bind fun o s=>if zl g s then (yh g f xs s).bind fun ys s=>.ok (match o with | some y=>y::ys | none=>ys) s else .no
@[simp] noncomputable def Qy:TM:=fun _ s=>.ok true s
@[simp] noncomputable def yd (n:Nat) (tg:GM) (c:TM) (e:EM) (σ:St):D->S->R (Option D):=fun x s=>match tg x (σ++List.replicate n none) with
 | none=>.no
 | some σ'=>(c σ' s).bind fun b s=>if b then (e σ' s).bind fun d s=>.ok (some d) s else .ok none s
noncomputable def ZG (n:Nat) (it:IM) (tg:GM) (c:TM) (e:EM):AM:=fun σ s=>(it σ s).bind fun p s=>if p.1.length <= SZ/\zl p.2 s=true then yh p.2 (yd n tg c e σ) p.1 s else .no
@[simp] noncomputable def zCK (n:Nat) (it:IM) (tg:GM) (c:TM) (e:EM):EM:=fun σ s=>(ZG n it tg c e σ s).bind fun ys s=>alloc (.lst ys) s
@[simp] noncomputable def zEh (k:List D->S->R D) (n:Nat) (it:IM) (tg:GM) (c:TM) (e:EM):EM:=fun σ s=>(ZG n it tg c e σ s).bind k
inductive RS where
 | nx (σ:St) (s:S) | rt (d:D) (s:S) | bk (σ:St) (s:S) | ct (σ:St) (s:S) | exc (e:D) (σ:St) (s:S) | no
noncomputable abbrev SM:=St->S->RS
noncomputable def R.stm {α:Type} (r:R α) (σ:St) (f:α->S->RS):RS:=match r with
 | .ok a s=>f a s
 | .exc e s=>.exc e σ s
 | .no=>.no
@[simp] theorem R.stm_ok {α:Type} (a:α) (s:S) (σ:St) (f:α->S->RS):(R.ok a s).stm σ f=f a s:=rfl
@[simp] theorem R.stm_no {α:Type} (σ:St) (f:α->S->RS):(R.no:R α).stm σ f=.no:=rfl
noncomputable def RS.then (r:RS) (f:SM):RS:=match r with
 | .nx σ s=>f σ s
 | r=>r
@[simp] theorem RS.then_nx (σ:St) (s:S) (f:SM):(RS.nx σ s).then f=f σ s:=rfl
@[simp] theorem RS.then_rt (d:D) (s:S) (f:SM):(RS.rt d s).then f=.rt d s:=rfl
@[simp] theorem RS.then_no (f:SM):RS.no.then f=.no:=rfl
@[simp] theorem RS.then_bk (σ:St) (s:S) (f:SM):(RS.bk σ s).then f=.bk σ s:=rfl
section
variable {α:Type}{c:Prop} [Decidable c]
@[simp] theorem R.stm_ite (a b:R α) (σ:St) (f:α->S->RS):(if c then a else b).stm σ f=if c then a.stm σ f else b.stm σ f:=by split<;>rfl
@[simp] theorem RS.ite_nx (a b:St) (s:S):(if c then RS.nx a s else RS.nx b s)=RS.nx (if c then a else b) s:=by split<;>rfl
@[simp] theorem RS.ite_rt (a b:D) (s:S):(if c then RS.rt a s else RS.rt b s)=RS.rt (if c then a else b) s:=by split<;>rfl
@[simp] theorem RS.then_ite (a b:RS) (f:SM):(if c then a else b).then f=if c then a.then f else b.then f:=by split<;>rfl
end
@[simp] theorem RS.then_exc (e:D) (σ:St) (s:S) (f:SM):(RS.exc e σ s).then f=.exc e σ s:=rfl
@[simp] theorem R.stm_exc {α:Type} (e:D) (s:S) (σ:St) (f:α->S->RS):(R.exc e s:R α).stm σ f=.exc e σ s:=rfl
@[simp] theorem RS.then_ct (σ:St) (s:S) (f:SM):(RS.ct σ s).then f=.ct σ s:=rfl
@[simp] noncomputable def ql:SM:=fun σ s=>.nx σ s
@[simp] noncomputable def zO (a b:SM):SM:=fun σ s=>(a σ s).then b
@[simp] noncomputable def z9 (e:EM):SM:=fun σ s=>(e σ s).stm σ fun _ s=>.nx σ s
@[simp] noncomputable def jn (e:EM):SM:=fun σ s=>(e σ s).stm σ fun d s=>.rt d s
@[simp] noncomputable def zh (i:Nat) (e:EM):SM:=fun σ s=>(e σ s).stm σ fun d s=>.nx (σ.set i (some d)) s
@[simp] noncomputable def zBS:D->D->S->R D
 | .int i,.int j,s=>.ok (.int (i+j)) s
 | .str a,.str b,s=>if a.length+b.length <= SZ then .ok (.str (a++b)) s else .no
 | _,_,_=>.no
@[simp] noncomputable def zAv (c:Nat) (i:Nat) (x y:D) (s:S):R Unit:=match x with
 | .ref p=>(match s[p]? with
  | some (.ins c' fs)=>if c'=c then .ok () (s.set p (.ins c (fs.set i (some y)))) else .no
  | _=>.no)
 | _=>.no
@[simp] noncomputable def J9 (c:Nat) (i:Nat) (o e:EM):SM:=fun σ s=>(e σ s).stm σ fun y s=>(o σ s).stm σ fun x s=>(zAv c i x y s).stm σ fun _ s=>.nx σ s
@[simp] noncomputable def zDT (c:Nat) (i:Nat) (x:D) (s:S):R D:=match x with
 | .ref p=>(match s[p]? with
  | some (.ins c' fs)=>if c'=c then (match fs[i]? with | some (some d)=>.ok d s | _=>.no) else .no
  | _=>.no)
 | _=>.no
@[simp] noncomputable def ZL (f:D->D->S->R D) (c:Nat) (i:Nat) (o e:EM):SM:=fun σ s=>(o σ s).stm σ fun x s=>(zDT c i x s).stm σ fun v s=>(e σ s).stm σ fun y s=>(f v y s).stm σ fun z s=>(zAv c i x z s).stm σ fun _ s=>.nx σ s
@[simp] noncomputable def zAL (x k y:D) (s:S):R Unit:=match x with
 | .ref p=>(match s[p]? with
  | some (.lst xs)=>(match k with
   | .int i=>(match ixN xs.length i with | some j=>.ok () (s.set p (.lst (xs.set j y))) | none=>.no)
   | _=>.no)
  | some (.dct kvs)=>if Z4 k && decide (kvs.length < SZ) then .ok () (s.set p (.dct (zCM k y kvs))) else .no
  | _=>.no)
 | _=>.no
@[simp] noncomputable def zDM (o k e:EM):SM:=fun σ s=>(e σ s).stm σ fun y s=>(o σ s).stm σ fun x s=>(k σ s).stm σ fun k s=>(zAL x k y s).stm σ fun _ s=>.nx σ s
@[simp] noncomputable def sIf (c:TM) (a b:SM):SM:=fun σ s=>(c σ s).stm σ fun k s=>if k then a σ s else b σ s
noncomputable def yQ (g:Gd) (f:D->SM):List D->SM
 | [],σ,s=>.nx σ s
 | x::xs,σ,s=>match f x σ s with
  | .nx σ s=>if zl g s then yQ g f xs σ s else .no
  | .ct σ s=>if zl g s then yQ g f xs σ s else .no
  | .bk σ s=>.nx σ s
  | r=>r
@[simp] noncomputable def yy (tg:GM) (b:SM):D->SM:=fun x σ s=>match tg x σ with
 | some σ'=>b σ' s
 | none=>.no
@[simp] noncomputable def ZJ (it:IM) (tg:GM) (b:SM):SM:=fun σ s=>(it σ s).stm σ fun p s=>if zl p.2 s=true then yQ p.2 (yy tg b) p.1 σ s else .no
noncomputable def qc:Nat->TM->SM->SM
 | 0,_,_,_,_=>.no
 | n+1,c,b,σ,s=>(c σ s).stm σ fun k s=>if k then (match b σ s with
  | .nx σ s=>qc n c b σ s
  | .ct σ s=>qc n c b σ s
  | .bk σ s=>.nx σ s
  | r=>r) else .nx σ s
noncomputable def zID:Nat:=1000000000000
@[simp] noncomputable def zFJ (c:TM) (b:SM):SM:=fun σ s=>qc zID c b σ s
noncomputable def RS.out (r:RS):R D:=match r with
 | .rt d s=>.ok d s
 | .nx _ s=>.ok .non s
 | .exc e _ s=>.exc e s
 | _=>.no
@[simp] theorem RS.out_rt (d:D) (s:S):(RS.rt d s).out=.ok d s:=rfl
@[simp] theorem RS.out_nx (σ:St) (s:S):(RS.nx σ s).out=.ok .non s:=rfl
@[simp] theorem RS.out_no:RS.no.out=.no:=rfl
@[simp] theorem RS.out_exc (e:D) (σ:St) (s:S):(RS.exc e σ s).out=.exc e s:=rfl
@[simp] theorem RS.out_ite {c:Prop} [Decidable c] (a b:RS):(if c then a else b).out=if c then a.out else b.out:=by split<;>rfl
@[simp] noncomputable def fn (n:Nat) (b:SM):F:=fun xs s=>(b (xs.map some++List.replicate (n - xs.length) none) s).out
noncomputable def D.cl (n:Nat):D->Bool
 | .ref i=>decide (i < n)
 | .tup ds=>all ds
 | .ro ds=>all ds
 | _=>true
where all:List D->Bool
 | []=>true
 | d::ds=>D.cl n d && all ds
noncomputable def O.cl (n:Nat):O->Bool
 | .lst xs=>D.cl.all n xs
 | .dct kvs=>kvs.all fun p=>D.cl n p.1 && D.cl n p.2
 | .fdc kvs=>kvs.all fun p=>D.cl n p.1 && D.cl n p.2
 | .ins _ fs=>fs.all fun o=>match o with | some d=>D.cl n d | none=>true
noncomputable def clS (n:Nat) (s:S):Bool:=s.all (O.cl n)
noncomputable def D.ren (e:List Nat):D->D
 | .ref i=>.ref (e.getD i i)
 | .tup ds=>.tup (all ds)
 | .ro ds=>.ro (all ds)
 | d=>d
where all:List D->List D
 | []=>[]
 | d::ds=>D.ren e d::all ds
noncomputable def O.ren (e:List Nat):O->O
 | .lst xs=>.lst (D.ren.all e xs)
 | .dct kvs=>.dct (kvs.map fun p=>(D.ren e p.1,D.ren e p.2))
 | .fdc kvs=>.fdc (kvs.map fun p=>(D.ren e p.1,D.ren e p.2))
 | .ins c fs=>.ins c (fs.map (Option.map (D.ren e)))
end M
namespace M
structure Emb (n:Nat) (e:List Nat) (S' S1:S):Prop where
 len:e.length=S'.length
 nd:e.Nodup
 le:n <= S'.length
 old:∀ i,i < n->e[i]? = some i
 obj:∀ (i:Nat) o,S'[i]? = some o->∃ j,e[i]? = some j/\S1[j]? = some (O.ren e o)/\O.cl S'.length o=true
noncomputable def jc (n:Nat) (f q:F):Prop:=∀ ds S,ds.length=n->clS S.length S=true->D.cl.all S.length ds=true ->
 q ds S=.no\/∃ d S' S1 e,q ds S=.ok d S'/\f ds S=.ok (D.ren e d) S1/\Emb S.length e S' S1/\D.cl S'.length d=true
section
variable {e:List Nat}
mutual
theorem D.ren_id (h:∀ i,e.getD i i=i):∀ d:D,D.ren e d=d
 | .non=>rfl
 | .bl _=>rfl
 | .int _=>rfl
 | .str _=>rfl
 | .ty _=>rfl
 | .ref i=>by show D.ref (e.getD i i)=_;rw[h]
 | .tup ds=>by show D.tup (D.ren.all e ds)=_;rw[D.rens_id h]
 | .ro ds=>by show D.ro (D.ren.all e ds)=_;rw[D.rens_id h]
theorem D.rens_id (h:∀ i,e.getD i i=i):∀ ds:List D,D.ren.all e ds=ds
 | []=>rfl
 | d::ds=>by show D.ren e d::D.ren.all e ds=_;rw[D.ren_id h,D.rens_id h]
end
theorem O.ren_id (h:∀ i,e.getD i i=i) (o:O):O.ren e o=o:=by
 cases o with
 | lst xs=>show O.lst _=_;rw[D.rens_id h]
 | dct kvs =>
  show O.dct (kvs.map fun p=>(D.ren e p.1,D.ren e p.2))=_
  have:(fun p:D×D=>(D.ren e p.1,D.ren e p.2))=id:=by funext p;rw[D.ren_id h,D.ren_id h];rfl
  rw[this,List.map_id]
 | fdc kvs =>
  show O.fdc (kvs.map fun p=>(D.ren e p.1,D.ren e p.2))=_
  have:(fun p:D×D=>(D.ren e p.1,D.ren e p.2))=id:=by funext p;rw[D.ren_id h,D.ren_id h];rfl
  rw[this,List.map_id]
 | ins c fs =>
  show O.ins c (fs.map (Option.map (D.ren e)))=_
  have:Option.map (D.ren e)=id:=by funext o;cases o with | none=>rfl | some d=>show some _=_;rw[D.ren_id h];rfl
  rw[this,List.map_id]
theorem zFQ (n i:Nat):(List.range n).getD i i=i:=by
 rw[List.getD_eq_getElem?_getD]
 by_cases h:i < n
 ·rw[List.getElem?_range h];rfl
 ·rw[List.getElem?_eq_none (by simp;omega)];rfl
end
section
variable {e:List Nat}{n:Nat}
mutual
theorem D.ren_old (h:∀ i,i < n->e[i]? = some i):∀ d:D,D.cl n d=true->D.ren e d=d
 | .non,_=>rfl
 | .bl _,_=>rfl
 | .int _,_=>rfl
 | .str _,_=>rfl
 | .ty _,_=>rfl
 | .ref i,c=>by
  have hi:i < n:=of_decide_eq_true c
  show D.ref (e.getD i i)=_
  rw[List.getD_eq_getElem?_getD,h i hi];rfl
 | .tup ds,c=>by show D.tup (D.ren.all e ds)=_;rw[D.rens_old h ds c]
 | .ro ds,c=>by show D.ro (D.ren.all e ds)=_;rw[D.rens_old h ds c]
theorem D.rens_old (h:∀ i,i < n->e[i]? = some i):∀ ds:List D,D.cl.all n ds=true->D.ren.all e ds=ds
 | [],_=>rfl
 | d::ds,c=>by
  have c':(D.cl n d && D.cl.all n ds)=true:=c
  rw[Bool.and_eq_true] at c'
  show D.ren e d::D.ren.all e ds=_
  rw[D.ren_old h d c'.1,D.rens_old h ds c'.2]
end
theorem O.ren_old (h:∀ i,i < n->e[i]? = some i) (o:O) (c:O.cl n o=true):O.ren e o=o:=by
 cases o with
 | lst xs=>show O.lst _=_;rw[D.rens_old h xs c]
 | dct kvs =>
  show O.dct (kvs.map fun p=>(D.ren e p.1,D.ren e p.2))=_
  congr 1
  conv=>rhs;rw[<- List.map_id kvs]
  refine List.map_congr_left fun p hp=>?_
  have c1:=List.all_eq_true.mp c p hp
  rw[Bool.and_eq_true] at c1
  rw[D.ren_old h _ c1.1,D.ren_old h _ c1.2];rfl
 | fdc kvs =>
  show O.fdc (kvs.map fun p=>(D.ren e p.1,D.ren e p.2))=_
  congr 1
  conv=>rhs;rw[<- List.map_id kvs]
  refine List.map_congr_left fun p hp=>?_
  have c1:=List.all_eq_true.mp c p hp
  rw[Bool.and_eq_true] at c1
  rw[D.ren_old h _ c1.1,D.ren_old h _ c1.2];rfl
 | ins cc fs =>
  show O.ins cc (fs.map (Option.map (D.ren e)))=_
  congr 1
  conv=>rhs;rw[<- List.map_id fs]
  refine List.map_congr_left fun p hp=>?_
  cases p with
  | none=>rfl
  | some d =>
   have c1:=List.all_eq_true.mp c (some d) hp
   show some _=some _
   rw[D.ren_old h d c1]
mutual
theorem D.cl_mono {m:Nat} (h:n <= m):∀ d:D,D.cl n d=true->D.cl m d=true
 | .non,_=>rfl
 | .bl _,_=>rfl
 | .int _,_=>rfl
 | .str _,_=>rfl
 | .ty _,_=>rfl
 | .ref i,c=>decide_eq_true (Nat.lt_of_lt_of_le (of_decide_eq_true c) h)
 | .tup ds,c=>D.cls_mono h ds c
 | .ro ds,c=>D.cls_mono h ds c
theorem D.cls_mono {m:Nat} (h:n <= m):∀ ds:List D,D.cl.all n ds=true->D.cl.all m ds=true
 | [],_=>rfl
 | d::ds,c=>by
  have c':(D.cl n d && D.cl.all n ds)=true:=c
  rw[Bool.and_eq_true] at c'
  show (D.cl m d && D.cl.all m ds)=true
  rw[D.cl_mono h d c'.1,D.cls_mono h ds c'.2];rfl
end
theorem O.cl_mono {m:Nat} (h:n <= m) (o:O) (c:O.cl n o=true):O.cl m o=true:=by
 cases o with
 | lst xs=>exact D.cls_mono h xs c
 | dct kvs =>
  refine List.all_eq_true.mpr fun p hp=>?_
  have c1:=List.all_eq_true.mp c p hp
  rw[Bool.and_eq_true] at c1 ⊢
  exact⟨D.cl_mono h _ c1.1,D.cl_mono h _ c1.2⟩
 | fdc kvs =>
  refine List.all_eq_true.mpr fun p hp=>?_
  have c1:=List.all_eq_true.mp c p hp
  rw[Bool.and_eq_true] at c1 ⊢
  exact⟨D.cl_mono h _ c1.1,D.cl_mono h _ c1.2⟩
 | ins cc fs =>
  refine List.all_eq_true.mpr fun p hp=>?_
  have c1:=List.all_eq_true.mp c p hp
  cases p with
  | none=>rfl
  | some d=>exact D.cl_mono h d c1
theorem zIu {S:M.S} (h:clS n S=true) {i:Nat}{o:O} (e:S[i]? = some o):O.cl n o=true:=List.all_eq_true.mp h o (List.mem_of_getElem? e)
end
theorem zMu {S S' g:M.S} (hn:S.length <= S'.length) (c:clS S'.length S'=true):Emb S.length (List.range S'.length) S' (S'++g) :=
 ⟨by simp,List.nodup_range,hn,fun i hi=>by rw[List.getElem?_range (by omega)],fun i o q=>by
  have hi:i < S'.length:=(List.getElem?_eq_some_iff.mp q).1
  exact⟨i,by rw[List.getElem?_range hi],by rw[List.getElem?_append_left hi,O.ren_id (zFQ _),q],zIu c q⟩⟩
theorem zOB {S g:M.S}{o:O}{j:Nat} (c:clS S.length S=true) (co:O.cl S.length o=true) (hj:(S++g)[j]? = some o) (hle:S.length <= j):Emb S.length (List.range S.length++[j]) (S++[o]) (S++g):=by
 have old:∀ i,i < S.length->(List.range S.length++[j])[i]? = some i:=fun i hi=>by
  rw[List.getElem?_append_left (by simpa using hi),List.getElem?_range hi]
 refine⟨by simp,?_,by simp,old,fun i ob q=>?_⟩
 ·rw[List.nodup_append]
  refine⟨List.nodup_range,by simp,fun a ha b hb=>?_⟩
  have h1:=List.mem_range.mp ha
  have h2:b=j:=by simpa using hb
  omega
 ·by_cases hi:i < S.length
  ·rw[List.getElem?_append_left hi] at q
   have cq:=zIu c q
   exact⟨i,old i hi,by rw[List.getElem?_append_left hi,O.ren_old old ob cq,q],O.cl_mono (by simp) ob cq⟩
  ·rw[List.getElem?_append_right (by omega)] at q
   have hz:i - S.length=0:=by
    cases hz:i - S.length with
    | zero=>rfl
    | succ k=>rw[hz] at q;simp at q
   rw[hz] at q
   simp at q
   subst q
   refine⟨j,?_,by rw[O.ren_old old o co,hj],O.cl_mono (by simp) o co⟩
   rw[List.getElem?_append_right (by simp;omega)]
   simp[hz]
theorem jc.pure {n:Nat}{f q:F} (h:∀ ds S,ds.length=n->clS S.length S=true->D.cl.all S.length ds=true->q ds S=.no\/∃ d g,q ds S=.ok d S/\f ds S=.ok d (S++g)/\D.cl S.length d=true):jc n f q:=fun ds S hl c ca=>by
 rcases h ds S hl c ca with e | ⟨d,g,e1,e2,e3⟩
 ·exact .inl e
 ·exact .inr ⟨d,S,S++g,List.range S.length,e1,by rw[D.ren_id (zFQ _)];exact e2,zMu (Nat.le_refl _) c,e3⟩
theorem jc.new {n:Nat}{f q:F} (h:∀ ds S,ds.length=n->clS S.length S=true->D.cl.all S.length ds=true->q ds S=.no\/∃ o j g,q ds S=alloc o S/\f ds S=.ok (.ref j) (S++g)/\(S++g)[j]? = some o/\S.length <= j/\O.cl S.length o=true):jc n f q:=fun ds S hl c ca=>by
 rcases h ds S hl c ca with e | ⟨o,j,g,e1,e2,e3,e4,e5⟩
 ·exact .inl e
 ·refine .inr ⟨.ref S.length,S++[o],S++g,List.range S.length++[j],e1,?_,zOB c e5 e3 e4,?_⟩
  ·rw[e2]
   show R.ok (D.ref j) _=R.ok (D.ref ((List.range S.length++[j]).getD S.length S.length)) _
   rw[List.getD_eq_getElem?_getD,List.getElem?_append_right (by simp)]
   simp
  ·show decide (S.length < (S++[o]).length)=true
   simp
noncomputable def chS (m:F):F:=fun ds s=>@dite (R D) (∃ d g,m ds s=.ok d (s++g)/\D.cl s.length d=true) (Classical.propDecidable _) (fun h=>.ok h.choose s) (fun _=>.no)
theorem zAy {n:Nat} (m:F):jc n m (chS m):=jc.pure fun ds S hl c ca=>by
 unfold chS
 by_cases h:∃ d g,m ds S=.ok d (S++g)/\D.cl S.length d=true
 ·obtain⟨g,e,k⟩:=h.choose_spec
  exact .inr ⟨h.choose,g,by rw[dif_pos h],e,k⟩
 ·exact .inl (by rw[dif_neg h])
theorem zA1 {m:F}{ds:List D}{s g:S}{d:D} (e:m ds s=.ok d (s++g)) (k:D.cl s.length d=true):chS m ds s=.ok d s:=by
 have h:∃ d g,m ds s=.ok d (s++g)/\D.cl s.length d=true:=⟨d,g,e,k⟩
 obtain⟨g',e',_⟩:=h.choose_spec
 have e2:d=h.choose:=by
  have e3:=e.symm.trans e'
  injection e3
 unfold chS
 rw[dif_pos h,<- e2]
end M
namespace M
theorem zGH {g:Gd}{f:D->S->R (Option D)}{s:S}{h:D->D} (hg:zl g s=true):∀ {xs:List D},(∀ x∈xs,f x s=.ok (some (h x)) s)->yh g f xs s=.ok (xs.map h) s
 | [],_=>rfl
 | x::xs,e=>by
  show (f x s).bind _=_
  rw[e x List.mem_cons_self,R.bind_ok,if_pos hg,zGH hg fun y hy=>e y (List.mem_cons_of_mem _ hy)]
  rfl
theorem zDb {g:Gd}{f:D->S->R (Option D)}{s:S}{p:D->Bool}{h:D->D} (hg:zl g s=true):∀ {xs:List D},(∀ x∈xs,f x s=.ok (if p x then some (h x) else none) s)->yh g f xs s=.ok ((xs.filter p).map h) s
 | [],_=>rfl
 | x::xs,e=>by
  show (f x s).bind _=_
  rw[e x List.mem_cons_self,R.bind_ok,if_pos hg,zDb hg fun y hy=>e y (List.mem_cons_of_mem _ hy),R.bind_ok]
  cases hp:p x<;>simp[hp]
theorem zH4 {n:Nat}{it:IM}{tg:GM}{e:EM}{σ:St}{s:S}{xs:List D}{g:Gd} (h:D->D) (hi:it σ s=.ok (xs,g) s) (hl:xs.length <= SZ) (hg:zl g s=true) (he:∀ x∈xs,yd n tg Qy e σ x s=.ok (some (h x)) s):ZG n it tg Qy e σ s=.ok (xs.map h) s:=by
 unfold ZG
 rw[hi,R.bind_ok,if_pos ⟨hl,hg⟩]
 exact zGH hg he
theorem zJu {n:Nat}{it:IM}{tg:GM}{e:EM}{σ:St}{s:S}{x:T} (h:Nat->D) (hit:it σ s=.ok (x.map fun c=>.str [c],[]) s) (hl:x.length <= SZ) (he:∀ c∈x,yd n tg Qy e σ (.str [c]) s=.ok (some (h c)) s) :
  ZG n it tg Qy e σ s=.ok (x.map h) s:=by
 have:=zH4 (n:=n) (tg:=tg) (e:=e) (fun d=>match d with | .str [c]=>h c | d=>d) hit (by simpa using hl) rfl fun y hy=>by
  obtain⟨c,hc,rfl⟩:=List.mem_map.mp hy
  exact he c hc
 rw[this,List.map_map]
 rfl
theorem zLQ {α:Type} (f:α->Bool) (xs:List α):zBX (xs.map fun x=>.bl (f x))=some (xs.map f):=by
 induction xs with
 | nil=>rfl
 | cons x xs ih=>show (zBX (xs.map fun x=>D.bl (f x))).map _=_;rw[ih];rfl
theorem all_map {α:Type} (f:α->Bool) (xs:List α) (s:S):zEG (xs.map fun x=>.bl (f x)) s=.ok (.bl (xs.all f)) s:=by
 unfold zEG
 rw[zLQ]
 simp[List.all_map]
theorem zLN {α:Type} (xs:List α) {k:Int} (h:0 <= k):cut xs none (some k)=xs.take k.toNat:=by
 unfold cut sIx
 have:¬ k < 0:=by omega
 simp only[List.drop_zero,if_neg this,Nat.sub_zero]
 by_cases hk:k <= xs.length
 ·rw[show (min k (xs.length:Int)).toNat=k.toNat by omega]
 ·rw[List.take_of_length_le (by omega),List.take_of_length_le (by omega)]
theorem zKy {α:Type} (xs:List α) {k:Int} (h:0 <= k):cut xs (some k) none=xs.drop k.toNat:=by
 unfold cut sIx
 have:¬ k < 0:=by omega
 simp only[if_neg this]
 by_cases hk:k <= xs.length
 ·rw[show (min k (xs.length:Int)).toNat=k.toNat by omega,List.take_of_length_le (by rw[List.length_drop];omega)]
 ·rw[List.drop_of_length_le (by omega),List.drop_of_length_le (by omega)];simp
theorem zL0 {α:Type} (f:α->T) (xs:List α):QS (xs.map fun x=>.str (f x))=some (xs.map f):=by
 induction xs with
 | nil=>rfl
 | cons x xs ih=>show (QS (xs.map fun x=>D.str (f x))).map _=_;rw[ih];rfl
theorem zDE (xs:List T):QS (xs.map .str)=some xs:=by
 have:=zL0 (fun x:T=>x) xs
 rwa [List.map_id'] at this
theorem zGl (xs:List T):z7 [] xs=xs.flatten:=by
 induction xs with
 | nil=>rfl
 | cons x xs ih =>
  cases xs with
  | nil=>simp[z7]
  | cons y ys=>show x++[]++z7 [] (y::ys)=_;rw[ih];simp
noncomputable def Qs (s:S):D->Bool
 | .str _=>false
 | .ty _=>false
 | .ref p=>(match s[p]? with | some (.lst _)=>true | some (.dct _)=>true | _=>false)
 | _=>true
theorem zIy (n:Nat):∀ ts:List T,D.cl.all n (ts.map .str)=true
 | []=>rfl
 | _::ts=>by
  show (D.cl n (.str _) && D.cl.all n (ts.map .str))=true
  rw[zIy n ts];rfl
theorem zIC (x:T):∀ ts:List T,Jd (.str x) (ts.map .str)=ts.contains x
 | []=>rfl
 | t::ts=>by
  have:=zIC x ts
  unfold Jd at this ⊢
  rw[List.map_cons,List.any_cons,this,List.contains_cons]
  simp[eqF,BEq.comm (a:=t)]
theorem zJE {α:Type}{xs:List α}{k:Int} (h0:0 <= k) (h:k < xs.length) (d:α):atI xs k=some (xs.getD k.toNat d):=by
 unfold atI ixN
 rw[if_pos h0,if_pos h]
 have hk:k.toNat < xs.length:=by omega
 simp[List.getD_eq_getElem?_getD,hk]
theorem zBr {S:M.S}{p:Nat}{o:O} (e:S[p]? = some o) (g:M.S):(S++g)[p]? = some o:=by
 rw[List.getElem?_append_left (List.getElem?_eq_some_iff.mp e).1]
 exact e
noncomputable def zJU:List T:=[[111,102],[105,102],[105,115],[116,104,101,110],[101,108,115,101],[101,97,99,104],[100,111],[105,116],[98,97,99,107],[102,105,114,115,116],[114,101,115,116],[99,111,117,110,116],[115,111,114,116,101,100],[102,97,105,108],[108,105,110,101],[109,111,114,101]]
noncomputable def zBv (x:T):Bool:=!decide (x < [97]) && !decide ([122] < x)
noncomputable def zAZ (x:T):Bool:=decide (1 <= x.length) && decide (x.length <= 8) && !(zJU.contains x) && x.all fun c=>zBv [c]
theorem zR1:([(.str [111,102]),(.str [105,102]),(.str [105,115]),(.str [116,104,101,110]),(.str [101,108,115,101]),(.str [101,97,99,104]),(.str [100,111]),(.str [105,116]),(.str [98,97,99,107]),(.str [102,105,114,115,116]),(.str [114,101,115,116]),(.str [99,111,117,110,116]),(.str [115,111,114,116,101,100]),(.str [102,97,105,108]),(.str [108,105,110,101]),(.str [109,111,114,101])]:List D)=zJU.map .str:=rfl
theorem zHo {n:Nat}{it:IM}{tg:GM}{c:TM}{e:EM}{σ:St}{s s1:S}{xs:List D}{g:Gd} (p:D->Bool) (h:D->D) (hi:it σ s=.ok (xs,g) s1) (hl:xs.length <= SZ) (hg:zl g s1=true) (he:∀ x∈xs,yd n tg c e σ x s1=.ok (if p x then some (h x) else none) s1):ZG n it tg c e σ s=.ok ((xs.filter p).map h) s1:=by
 unfold ZG
 rw[hi,R.bind_ok,if_pos ⟨hl,hg⟩]
 exact zDb hg he
theorem zJ5 {n:Nat}{it:IM}{tg:GM}{c:TM}{e:EM}{σ:St}{s s1:S}{ts:List T}{g:Gd} (p:T->Bool) (hi:it σ s=.ok (ts.map .str,g) s1) (hl:ts.length <= SZ) (hg:zl g s1=true) (he:∀ x∈ts,yd n tg c e σ (.str x) s1=.ok (if p x then some (.str x) else none) s1):ZG n it tg c e σ s=.ok ((ts.filter p).map .str) s1:=by
 rw[zHo (fun d=>match d with | .str y=>p y | _=>false) id hi (by simpa using hl) hg fun d hd=>by
  obtain⟨y,hy,rfl⟩:=List.mem_map.mp hd
  exact he y hy]
 rw[List.map_id,List.filter_map]
 rfl
theorem zBh (c:Nat):∀ x:T,(zf c x).length <= x.length+1
 | []=>by simp[zf]
 | d::r=>by
  have ih:=zBh c r
  unfold zf
  split
  ·simp;omega
  ·split<;>simp_all<;>omega
theorem zC9 {g:Gd}{f:D->SM} (I:Nat->St->S->Prop):∀ (xs:List D) (i:Nat) (σ:St) (s:S),I i σ s->(∀ (j:Nat) x,xs[j]? = some x->∀ σ s,I (i+j) σ s->∃ σ' s',f x σ s=.nx σ' s'/\zl g s'=true/\I (i+j+1) σ' s')->∃ σ' s',yQ g f xs σ s=.nx σ' s'/\I (i+xs.length) σ' s'
 | [],i,σ,s,h,_=>⟨σ,s,rfl,h⟩
 | x::xs,i,σ,s,h,e=>by
  obtain⟨σ1,s1,e1,hg,h1⟩:=e 0 x rfl σ s h
  obtain⟨σ2,s2,e2,h2⟩:=zC9 I xs (i+1) σ1 s1 h1 fun j y hy σ s hI=>by
   have:=e (j+1) y (by simpa using hy) σ s (by rw[show i+(j+1)=i+1+j by omega];exact hI)
   rwa [show i+(j+1)+1=i+1+j+1 by omega] at this
  refine⟨σ2,s2,?_,by rw[List.length_cons,show i+(xs.length+1)=i+1+xs.length by omega];exact h2⟩
  show (match f x σ s with | .nx σ s=>if zl g s then yQ g f xs σ s else .no | .ct σ s=>if zl g s then yQ g f xs σ s else .no | .bk σ s=>.nx σ s | r=>r)=_
  rw[e1]
  dsimp only
  rw[if_pos hg,e2]
noncomputable def yN (x:T):T:=x.map fun c=>if c=10 then 32 else c
noncomputable def zW (x:T):List T:=(zf 32 (yN x)).filter fun w=>decide (w≠[])
end M
namespace L2
open PySem PySem.Spec PyProof.Rows
noncomputable def ofT (x:M.T):Str:=⟨x.toArray⟩
theorem ji (x:M.T):(ofT x).length=x.length:=by simp[ofT,Str.length]
theorem y6 (x:M.T):(ofT x).cps.toList=x:=by simp[ofT]
theorem zDh {x y:M.T} (h:ofT x=ofT y):x=y:=by rw[<- y6 x,h,y6]
theorem zIt (x y:M.T):ofT x++ofT y=ofT (x++y):=by
 show (⟨x.toArray++y.toArray⟩:Str)=_
 simp[ofT]
noncomputable abbrev okT (x:M.T):Prop:=x.all (fun c=>decide (c < 1114112))=true
theorem zDq {x y:M.T} (h:okT x) (k:okT y):okT (x++y):=by show (x++y).all _=true;rw[List.all_append,h,k];rfl
theorem zAu {x y:M.T} (h:okT x) (k:∀ c∈y,c∈x):okT y:=List.all_eq_true.mpr fun c hc=>List.all_eq_true.mp h c (k c hc)
theorem Za:M.SZ=sizeLine:=by rw[sizeLine_eq];rfl
noncomputable def zFe (K:PySem.W.Frag) (H:Hp) (a:Addr) (xs:List V):Prop :=
 (∃ o,H a=some (.frz o (.lst xs))) \/
  ∃ (o:Obj) (its:Array Value) (n:Nat),K.lookup a=some o/\o.cls=.type "list" /\ o.dict=none/\o.data=.seq its n/\its.size <= sizeLine/\zU xs its.toList
theorem zFe.sq {K:PySem.W.Frag}{H:Hp}{a:Addr}{xs:List V} (h:zFe K H a xs):SqL K H a xs:=by
 rcases h with ⟨o,h⟩ | h
 ·exact .inl (.inr ⟨o,h⟩)
 ·exact .inr h
structure Le (H H':Hp):Prop where
 tups:∀ b xs,H b=some (.tup xs)->H' b=some (.tup xs)
 frzs:∀ b o u,H b=some (.frz o u)->H' b=some (.frz o u)
theorem Le.refl (H:Hp):Le H H:=⟨fun _ _ h=>h,fun _ _ _ h=>h⟩
theorem Le.trans {H H1 H2:Hp} (a:Le H H1) (b:Le H1 H2):Le H H2:=⟨fun c xs h=>b.tups c xs (a.tups c xs h),fun c o u h=>b.frzs c o u (a.frzs c o u h)⟩
theorem Le.new {H:Hp}{p:Addr} (h:H p=none) (o:HO):Le H (upd H p o) :=
 ⟨fun b xs q=>by rw[jP (Zg q h)];exact q,fun b o u q=>by rw[jP (Zg q h)];exact q⟩
theorem Le.put {H:Hp}{p:Addr} (h:Mut (H p)) (o:HO):Le H (upd H p o) :=
 ⟨fun b xs q=>by rw[jP (fun z=>by subst z;rw[q] at h;exact h)];exact q,fun b o u q=>by rw[jP (fun z=>by subst z;rw[q] at h;exact h)];exact q⟩
theorem Le.rol {K:PySem.W.Frag}{H H':Hp}{a:Addr}{xs:List V} (e:Le H H') (h:zFe K H a xs):zFe K H' a xs:=by
 rcases h with ⟨o,h⟩ | h
 ·exact .inl ⟨o,e.frzs _ _ _ h⟩
 ·exact .inr h
theorem Le.sqT {K:PySem.W.Frag}{H H':Hp}{a:Addr}{xs:List V} (e:Le H H') (h:SqT K H a xs):SqT K H' a xs:=by
 rcases h with (h | ⟨o,h⟩) | h
 ·exact .inl (.inl (e.tups _ _ h))
 ·exact .inl (.inr ⟨o,e.frzs _ _ _ h⟩)
 ·exact .inr h
noncomputable def qz:M.Kd->String
 | .str => "str" | .int => "int" | .bool => "bool" | .list => "list" | .tuple => "tuple" | .dict => "dict"
noncomputable def zN (K:PySem.W.Frag) (ρ:List Addr) (H:Hp):M.D->V->Prop
 | .non,v=>v=.non
 | .bl b,v=>v=.bl b
 | .int i,v=>v=.int i
 | .str x,v=>v=.str (ofT x)/\okT x
 | .ty n,v=>v=.ty (qz n)
 | .ref i,v=>∃ a,v=.ref a/\ρ[i]? = some a
 | .tup ds,v=>∃ a xs,v=.ref a/\SqT K H a xs/\all ds xs
 | .ro ds,v=>∃ a xs,v=.ref a/\zFe K H a xs/\all ds xs
where all:List M.D->List V->Prop
 | [],xs=>xs=[]
 | d::ds,xs=>∃ y ys,xs=y::ys/\zN K ρ H d y/\all ds ys
noncomputable abbrev zP (K:PySem.W.Frag) (ρ:List Addr) (H:Hp):List M.D->List V->Prop:=zN.all K ρ H
theorem zBp {ρ ρ':List Addr} (h:ρ <+: ρ') {i:Nat}{a:Addr} (e:ρ[i]? = some a):ρ'[i]? = some a:=by
 obtain⟨t,rfl⟩:=h
 rw[List.getElem?_append_left (List.getElem?_eq_some_iff.mp e).1]
 exact e
section
variable {K:PySem.W.Frag}{ρ ρ':List Addr}{H H':Hp}
mutual
theorem zN.mono (hρ:ρ <+: ρ') (le:Le H H'):∀ {d:M.D}{v:V},zN K ρ H d v->zN K ρ' H' d v
 | .non,_,h=>h
 | .bl _,_,h=>h
 | .int _,_,h=>h
 | .str _,_,h=>h
 | .ty _,_,h=>h
 | .ref _,_,⟨a,e,h⟩=>⟨a,e,zBp hρ h⟩
 | .tup _,_,⟨a,xs,e,h,r⟩=>⟨a,xs,e,le.sqT h,zP.mono hρ le r⟩
 | .ro _,_,⟨a,xs,e,h,r⟩=>⟨a,xs,e,le.rol h,zP.mono hρ le r⟩
theorem zP.mono (hρ:ρ <+: ρ') (le:Le H H'):∀ {ds:List M.D}{xs:List V},zP K ρ H ds xs->zP K ρ' H' ds xs
 | [],_,h=>h
 | _::_,_,⟨y,ys,e,h,r⟩=>⟨y,ys,e,zN.mono hρ le h,zP.mono hρ le r⟩
end
theorem zP.length:∀ {ds:List M.D}{xs:List V},zP K ρ H ds xs->ds.length=xs.length
 | [],_,h=>by cases h;rfl
 | _::_,_,⟨_,_,e,_,r⟩=>by subst e;rw[List.length_cons,List.length_cons,zP.length r]
theorem zP.get:∀ {ds:List M.D}{xs:List V}{i:Nat}{d:M.D},zP K ρ H ds xs->ds[i]? = some d->∃ v,xs[i]? = some v/\zN K ρ H d v
 | [],_,_,_,_,e=>by simp at e
 | _::_,_,0,_,⟨y,_,e1,h,_⟩,e=>by subst e1;simp at e;subst e;exact⟨y,rfl,h⟩
 | _::_,_,i+1,d,⟨_,ys,e1,_,r⟩,e=>by
  subst e1
  obtain⟨v,h1,h2⟩:=zP.get (i:=i) (d:=d) r (by simpa using e)
  exact⟨v,by simpa using h1,h2⟩
theorem zP.app:∀ {ds es:List M.D}{xs ys:List V},zP K ρ H ds xs->zP K ρ H es ys->zP K ρ H (ds++es) (xs++ys)
 | [],_,_,_,h,k=>by cases h;exact k
 | _::_,_,_,_,⟨y,ys,e,h,r⟩,k=>by subst e;exact⟨y,_,rfl,h,zP.app r k⟩
theorem zP.take:∀ {ds:List M.D}{xs:List V} (n:Nat),zP K ρ H ds xs->zP K ρ H (ds.take n) (xs.take n)
 | _,_,0,_=>rfl
 | [],_,_+1,h=>by cases h;rfl
 | _::_,_,n+1,⟨y,ys,e,h,r⟩=>by subst e;exact⟨y,_,rfl,h,zP.take n r⟩
theorem zP.drop:∀ {ds:List M.D}{xs:List V} (n:Nat),zP K ρ H ds xs->zP K ρ H (ds.drop n) (xs.drop n)
 | _,_,0,h=>h
 | [],_,_+1,h=>by cases h;rfl
 | _::_,_,n+1,⟨y,ys,e,h,r⟩=>by subst e;exact zP.drop n r
theorem zP.set {d:M.D}{v:V} (hd:zN K ρ H d v):∀ {ds:List M.D}{xs:List V} (n:Nat),zP K ρ H ds xs->zP K ρ H (ds.set n d) (xs.set n v)
 | [],_,_,h=>by cases h;rfl
 | _::_,_,0,⟨y,ys,e,h,r⟩=>by subst e;exact⟨v,ys,rfl,hd,r⟩
 | _::_,_,n+1,⟨y,ys,e,h,r⟩=>by subst e;exact⟨y,_,rfl,h,zP.set hd n r⟩
theorem zP.rev {ds:List M.D}{xs:List V} (h:zP K ρ H ds xs):zP K ρ H ds.reverse xs.reverse:=by
 induction ds generalizing xs with
 | nil=>cases h;rfl
 | cons d ds ih =>
  obtain⟨y,ys,e,h1,r⟩:=h
  subst e
  rw[List.reverse_cons,List.reverse_cons]
  exact (ih r).app ⟨y,[],rfl,h1,rfl⟩
theorem zP.dropLast {ds:List M.D}{xs:List V} (h:zP K ρ H ds xs):zP K ρ H ds.dropLast xs.dropLast:=by
 rw[List.dropLast_eq_take,List.dropLast_eq_take,h.length]
 exact h.take _
end
section
variable {K:PySem.W.Frag}{ρ ρ':List Addr}{H H':Hp}{ds es:List M.D}{xs ys:List V}
theorem zN.all.mono (h:zN.all K ρ H ds xs) (hρ:ρ <+: ρ') (le:Le H H'):zN.all K ρ' H' ds xs:=zP.mono hρ le h
theorem zN.all.length (h:zN.all K ρ H ds xs):ds.length=xs.length:=zP.length h
theorem zN.all.app (h:zN.all K ρ H ds xs) (k:zN.all K ρ H es ys):zN.all K ρ H (ds++es) (xs++ys):=zP.app h k
end
noncomputable def zAc:M.D->Key->Prop
 | .int i,k=>k=.inl i
 | .str x,k=>k=.inr (ofT x)/\okT x
 | _,_=>False
noncomputable abbrev Tab:=Nat->Option (Addr×List Str)
structure zDA (K:PySem.W.Frag) (ρ:List Addr) (H:Hp) (N:List Str) (fs:List (Option M.D)) (gs:List (Str×V)):Prop where
 len:fs.length=N.length
 nd:(gs.map (·.1)).Nodup
 within:∀ f∈gs.map (·.1),f∈N
 get:∀ (i:Nat) (f:Str) (d:M.D),N[i]? = some f->fs[i]? = some (some d)->∃ v,gs.lookup f=some v/\zN K ρ H d v
noncomputable def ObR (K:PySem.W.Frag) (Θ:Tab) (ρ:List Addr) (H:Hp) (a:Addr):M.O->Prop
 | .lst ds=>∃ xs,H a=some (.lst xs)/\zP K ρ H ds xs
 | .dct kvs=>∃ ks,H a=some (.dK ks)/\Paired (fun (p:M.D×M.D) (q:Key×V)=>zAc p.1 q.1/\zN K ρ H p.2 q.2) kvs ks
 | .fdc kvs=>∃ o ks,H a=some (.frz o (.dK ks))/\Paired (fun (p:M.D×M.D) (q:Key×V)=>zAc p.1 q.1/\zN K ρ H p.2 q.2) kvs ks
 | .ins c fs=>∃ C dx gs N,H a=some (.ins C dx gs)/\Θ c=some (C,N)/\zDA K ρ H N fs gs
structure zX (K:PySem.W.Frag) (Θ:Tab) (ρ:List Addr) (S:M.S) (H:Hp):Prop where
 len:ρ.length=S.length
 nd:ρ.Nodup
 obj:∀ (i:Nat) (o:M.O),S[i]? = some o->∃ a,ρ[i]? = some a/\ObR K Θ ρ H a o
structure jo (K:PySem.W.Frag) (ρ:List Addr) (H:Hp) (σ':M.St) (σ:St):Prop where
 len:σ'.length=σ.length
 get:∀ (i:Nat) (d:M.D),σ'[i]? = some (some d)->∃ v,σ[i]? = some (some v)/\zN K ρ H d v
section
variable {K:PySem.W.Frag}{Θ:Tab}{ρ ρ':List Addr}{H H':Hp}{S:M.S}
theorem jo.mono {σ':M.St}{σ:St} (h:jo K ρ H σ' σ) (hρ:ρ <+: ρ') (le:Le H H'):jo K ρ' H' σ' σ :=
 ⟨h.len,fun i d e=>let ⟨v,h1,h2⟩:=h.get i d e;⟨v,h1,h2.mono hρ le⟩⟩
theorem jo.set {σ':M.St}{σ:St}{d:M.D}{v:V} (h:jo K ρ H σ' σ) (hd:zN K ρ H d v) (i:Nat):jo K ρ H (σ'.set i (some d)) (σ.set i (some v)):=by
 refine⟨by rw[List.length_set,List.length_set,h.len],fun j e q=>?_⟩
 by_cases hj:i=j
 ·subst hj
  by_cases hl:i < σ'.length
  ·rw[List.getElem?_set_self hl] at q
   cases q
   exact⟨v,by rw[List.getElem?_set_self (h.len ▸ hl)],hd⟩
  ·rw[List.getElem?_eq_none (by rw[List.length_set];omega)] at q
   cases q
 ·rw[List.getElem?_set_ne hj] at q
  rw[List.getElem?_set_ne hj]
  exact h.get j e q
theorem jo.more {σ':M.St}{σ:St} (h:jo K ρ H σ' σ) (n:Nat):jo K ρ H (σ'++List.replicate n none) (σ++List.replicate n none):=by
 refine⟨by simp[h.len],fun i d q=>?_⟩
 by_cases hl:i < σ'.length
 ·rw[List.getElem?_append_left hl] at q
  rw[List.getElem?_append_left (h.len ▸ hl)]
  exact h.get i d q
 ·rw[List.getElem?_append_right (by omega),List.getElem?_replicate] at q
  split at q<;>cases q
theorem zX.tracked (h:zX K Θ ρ S H) {a:Addr} (m:a∈ρ):∃ o,H a=some o:=by
 obtain⟨i,hi,e⟩:=List.mem_iff_getElem.mp m
 have hl:i < S.length:=h.len ▸ hi
 obtain⟨a',e1,r⟩:=h.obj i S[i] (by simp[hl])
 rw[List.getElem?_eq_getElem hi,e] at e1
 cases e1
 cases q:S[i] with
 | lst ds=>rw[q] at r;obtain⟨xs,e2,_⟩:=r;exact⟨_,e2⟩
 | dct kvs=>rw[q] at r;obtain⟨xs,e2,_⟩:=r;exact⟨_,e2⟩
 | fdc kvs=>rw[q] at r;obtain⟨o,xs,e2,_⟩:=r;exact⟨_,e2⟩
 | ins c fs=>rw[q] at r;obtain⟨_,_,_,_,e2,_⟩:=r;exact⟨_,e2⟩
theorem zX.fresh (h:zX K Θ ρ S H) {p:Addr} (hp:H p=none):p∉ρ:=fun m=>by
 obtain⟨o,e⟩:=h.tracked m
 rw[hp] at e;cases e
theorem ObR.stay {a:Addr}{o:M.O} (h:ObR K Θ ρ H a o) (hρ:ρ <+: ρ') (le:Le H H') (e:H' a=H a):ObR K Θ ρ' H' a o:=by
 cases o with
 | lst ds=>obtain⟨xs,e1,r⟩:=h;exact⟨xs,e.trans e1,r.mono hρ le⟩
 | dct kvs=>obtain⟨ks,e1,r⟩:=h;exact⟨ks,e.trans e1,Paired.mapP r fun p q z=>⟨z.1,z.2.mono hρ le⟩⟩
 | fdc kvs=>obtain⟨o,ks,e1,r⟩:=h;exact⟨o,ks,e.trans e1,Paired.mapP r fun p q z=>⟨z.1,z.2.mono hρ le⟩⟩
 | ins c fs =>
  obtain⟨C,dx,gs,N,e1,e2,r⟩:=h
  exact⟨C,dx,gs,N,e.trans e1,e2,r.len,r.nd,r.within,fun i f d h1 h2=>let ⟨v,k1,k2⟩:=r.get i f d h1 h2;⟨v,k1,k2.mono hρ le⟩⟩
theorem zX.stay (h:zX K Θ ρ S H) (le:Le H H') (e:∀ a∈ρ,H' a=H a):zX K Θ ρ S H' :=
 ⟨h.len,h.nd,fun i o q=>let ⟨a,h1,h2⟩:=h.obj i o q;⟨a,h1,h2.stay (List.prefix_refl _) le (e a (List.mem_of_getElem? h1))⟩⟩
theorem zX.aside (h:zX K Θ ρ S H) {p:Addr} (hp:H p=none) (o:HO):zX K Θ ρ S (upd H p o) :=
 h.stay (Le.new hp o) fun a m=>jP (fun z=>h.fresh hp (z ▸ m))
theorem zX.alloc (h:zX K Θ ρ S H) {p:Addr} (hp:H p=none) {o:M.O}{u:HO} (r:ObR K Θ (ρ++[p]) (upd H p u) p o):zX K Θ (ρ++[p]) (S++[o]) (upd H p u):=by
 refine⟨by simp[h.len],?_,fun i ob q=>?_⟩
 ·rw[List.nodup_append]
  refine⟨h.nd,by simp,fun a ha b hb=>?_⟩
  have hb':b=p:=by simpa using hb
  rw[hb']
  exact fun z=>h.fresh hp (z ▸ ha)
 ·by_cases hl:i < S.length
  ·rw[List.getElem?_append_left hl] at q
   obtain⟨a,h1,h2⟩:=h.obj i ob q
   refine⟨a,zBp (List.prefix_append _ _) h1,h2.stay (List.prefix_append _ _) (Le.new hp u) (jP fun z=>h.fresh hp (z ▸ List.mem_of_getElem? h1))⟩
  ·rw[List.getElem?_append_right (by omega)] at q
   have hi:i - S.length=0:=by
    cases hz:i - S.length with
    | zero=>rfl
    | succ k=>rw[hz] at q;simp at q
   rw[hi] at q
   simp at q
   subst q
   refine⟨p,?_,r⟩
   rw[List.getElem?_append_right (by rw[h.len];omega),h.len,hi]
   rfl
theorem zCO {α:Type}{ρ:List α} (hN:ρ.Nodup) {i j:Nat}{x:α} (a:ρ[i]? = some x) (b:ρ[j]? = some x):i=j:=by
 induction ρ generalizing i j with
 | nil=>simp at a
 | cons y r ih =>
  rw[List.nodup_cons] at hN
  cases i with
  | zero =>
   cases j with
   | zero=>rfl
   | succ j =>
    simp at a b
    subst a
    exact absurd (List.mem_of_getElem? b) hN.1
  | succ i =>
   cases j with
   | zero =>
    simp at a b
    subst b
    exact absurd (List.mem_of_getElem? a) hN.1
   | succ j =>
    simp at a b
    rw[ih hN.2 a b]
theorem zNq {α:Type}{l:List α} (h:∀ (i j:Nat) x,l[i]? = some x->l[j]? = some x->i=j):l.Nodup:=by
 induction l with
 | nil=>exact List.nodup_nil
 | cons y r ih =>
  refine List.nodup_cons.mpr ⟨fun m=>?_,ih fun i j x a b=>?_⟩
  ·obtain⟨j,hj,e⟩:=List.mem_iff_getElem.mp m
   have:=h 0 (j+1) y (by simp) (by simp[e,hj])
   omega
  ·have:=h (i+1) (j+1) x (by simpa using a) (by simpa using b)
   omega
theorem zL9 {α:Type}{l:List α} (hN:l.Nodup) {i j:Nat} (hi:i < l.length) (hj:j < l.length) (e:l[i]=l[j]):i=j :=
 zCO hN (x:=l[i]) (by simp[hi]) (by rw[e];simp[hj])
theorem zX.put (h:zX K Θ ρ S H) {i:Nat}{a:Addr} (ha:ρ[i]? = some a) {o:M.O}{u:HO} (mu:Mut (H a)) (r:ObR K Θ ρ (upd H a u) a o):zX K Θ ρ (S.set i o) (upd H a u):=by
 refine⟨by simp[h.len],h.nd,fun j ob q=>?_⟩
 by_cases hj:i=j
 ·subst hj
  by_cases hl:i < S.length
  ·rw[List.getElem?_set_self hl] at q
   cases q
   exact⟨a,ha,r⟩
  ·rw[List.getElem?_eq_none (by rw[List.length_set];omega)] at q
   cases q
 ·rw[List.getElem?_set_ne hj] at q
  obtain⟨b,h1,h2⟩:=h.obj j ob q
  refine⟨b,h1,h2.stay (List.prefix_refl _) (Le.put mu u) (jP fun z=>?_)⟩
  subst z
  exact hj (zCO h.nd ha h1)
end
noncomputable def zG {α β:Type} (K:PySem.W.Frag) (Θ:Tab) (Rl:List Addr->Hp->α->β->Prop) (ρ:List Addr) (H:Hp):M.R α->(β->Hp->Prop)->Prop
 | .ok a S',Q=>∀ ρ' H' b,ρ <+: ρ'->Le H H'->zX K Θ ρ' S' H'->Rl ρ' H' a b->Q b H'
 | .exc _ _,_=>False
 | .no,_=>False
noncomputable abbrev rB:List Addr->Hp->Bool->Bool->Prop:=fun _ _ a b=>a=b
noncomputable abbrev rO:List Addr->Hp->Option Int->Option Int->Prop:=fun _ _ a b=>a=b
section
variable {K:PySem.W.Frag}{Θ:Tab}{ρ ρ':List Addr}{H H':Hp}{S:M.S}{α β γ δ:Type}{Rl:List Addr->Hp->α->β->Prop}{Rk:List Addr->Hp->γ->δ->Prop}{Q:β->Hp->Prop}{Q':δ->Hp->Prop}
theorem zG.weak {r:M.R α} (h:zG K Θ Rl ρ H r Q) (hρ:ρ <+: ρ') (le:Le H H'):zG K Θ Rl ρ' H' r Q:=by
 cases r with
 | ok a s=>exact fun ρ2 H2 b p l=>h ρ2 H2 b (hρ.trans p) (le.trans l)
 | exc e s=>exact h
 | no=>exact h
theorem zG.bind {r:M.R α}{f:α->M.S->M.R γ} (h:zG K Θ Rk ρ H (r.bind f) Q')
  (k:∀ ρ' H' a b S',ρ <+: ρ'->Le H H'->zX K Θ ρ' S' H'->Rl ρ' H' a b->zG K Θ Rk ρ' H' (f a S') Q'->Q b H'):zG K Θ Rl ρ H r Q:=by
 cases r with
 | ok a s=>exact fun ρ2 H2 b p l rp rl=>k ρ2 H2 a b s p l rp rl (zG.weak h p l)
 | exc e s=>exact h
 | no=>exact h
theorem zG.here {a:α}{b:β} (h:zG K Θ Rl ρ H (.ok a S) Q) (rp:zX K Θ ρ S H) (rl:Rl ρ H a b):Q b H:=h ρ H b (List.prefix_refl _) (Le.refl _) rp rl
end
noncomputable def RdE (K:PySem.W.Frag) (Θ:Tab) (m:M.EM):TE:=fun σ H Q=>∃ ρ σ' S,jo K ρ H σ' σ/\zX K Θ ρ S H/\zG K Θ (zN K) ρ H (m σ' S) Q
noncomputable def RdT (K:PySem.W.Frag) (Θ:Tab) (m:M.TM):TT:=fun σ H Q=>∃ ρ σ' S,jo K ρ H σ' σ/\zX K Θ ρ S H/\zG K Θ rB ρ H (m σ' S) Q
noncomputable def RdA (K:PySem.W.Frag) (Θ:Tab) (m:M.AM):TA:=fun σ H Q=>∃ ρ σ' S,jo K ρ H σ' σ/\zX K Θ ρ S H/\zG K Θ (zP K) ρ H (m σ' S) Q
noncomputable def RdO (K:PySem.W.Frag) (Θ:Tab) (m:M.OM):TO:=fun σ H Q=>∃ ρ σ' S,jo K ρ H σ' σ/\zX K Θ ρ S H/\zG K Θ rO ρ H (m σ' S) Q
noncomputable abbrev ME (X:Cx) (Θ:Tab) (e:Expr) (m:M.EM):Prop:=PE X e (RdE X.K Θ m)
@[irreducible] noncomputable def WE (X:Cx) (Θ:Tab) (e:Expr) (m:M.EM):Prop:=ME X Θ e m
noncomputable abbrev MT (X:Cx) (Θ:Tab) (e:Expr) (m:M.TM):Prop:=PT X e (RdT X.K Θ m)
@[irreducible] noncomputable def WT (X:Cx) (Θ:Tab) (e:Expr) (m:M.TM):Prop:=MT X Θ e m
noncomputable abbrev MW (X:Cx) (Θ:Tab) (e:Expr) (m:M.TM):Prop:=PW X e (RdT X.K Θ m)
@[irreducible] noncomputable def WW (X:Cx) (Θ:Tab) (e:Expr) (m:M.TM):Prop:=MW X Θ e m
noncomputable abbrev MA (X:Cx) (Θ:Tab) (es:List Expr) (m:M.AM):Prop:=PA X es (RdA X.K Θ m)
@[irreducible] noncomputable def WA (X:Cx) (Θ:Tab) (es:List Expr) (m:M.AM):Prop:=MA X Θ es m
noncomputable abbrev MO (X:Cx) (Θ:Tab) (e:Option Expr) (m:M.OM):Prop:=PO X e (RdO X.K Θ m)
@[irreducible] noncomputable def WO (X:Cx) (Θ:Tab) (e:Option Expr) (m:M.OM):Prop:=MO X Θ e m
theorem PE.imp {X:Cx}{e:Expr}{t t':TE} (h:PE X e t) (i:∀ σ H Q,t' σ H Q->t σ H Q):PE X e t':=fun pins s σ H Q I q=>h pins s σ H Q I (i σ H Q q)
theorem PT.imp {X:Cx}{e:Expr}{t t':TT} (h:PT X e t) (i:∀ σ H Q,t' σ H Q->t σ H Q):PT X e t':=fun pins s σ H Q I q=>h pins s σ H Q I (i σ H Q q)
theorem PW.imp {X:Cx}{e:Expr}{t t':TT} (h:PW X e t) (i:∀ σ H Q,t' σ H Q->t σ H Q):PW X e t':=fun wh pins s σ H Q I q=>h wh pins s σ H Q I (i σ H Q q)
theorem PA.imp {X:Cx}{es:List Expr}{t t':TA} (h:PA X es t) (i:∀ σ H Q,t' σ H Q->t σ H Q):PA X es t':=fun pos pins s σ H Q I q=>h pos pins s σ H Q I (i σ H Q q)
theorem PO.imp {X:Cx}{e:Option Expr}{t t':TO} (h:PO X e t) (i:∀ σ H Q,t' σ H Q->t σ H Q):PO X e t':=fun pins s σ H Q I q=>h pins s σ H Q I (i σ H Q q)
noncomputable def zo:Expr->Bool
 | .Starred _ _=>false
 | _=>true
theorem qP {e:Expr}{es:List Expr}{env:Env} (h:zo e=true):starEach (e::es) env=(false,eval e env)::starEach es env:=by
 cases e<;>first | rfl | cases h
theorem Ze {env:Env}{pos:Pos}:∀ {es:List Expr},es.all zo=true->(backTo pos (starEach es env)).any (·.1)=false
 | [],_=>rfl
 | e::es,h=>by
  rw[List.all_cons,Bool.and_eq_true] at h
  rw[qP h.1]
  show (false || (backTo pos (starEach es env)).any (·.1))=false
  rw[Ze h.2];rfl
theorem zIL {env:Env}{pos:Pos}:∀ {es:List Expr},es.all zo=true->(backTo pos (starEach es env)).all (fun x=>!x.1)=true
 | [],_=>rfl
 | e::es,h=>by
  rw[List.all_cons,Bool.and_eq_true] at h
  rw[qP h.1]
  show (true && (backTo pos (starEach es env)).all (fun x=>!x.1))=true
  rw[zIL h.2];rfl
theorem zNM {env:Env}{pos:Pos}{es:List Expr} (h:es.all zo=true) (hl:es.length < 30):((backTo pos (starEach es env)).all (fun x=>!x.1) && (backToKw pos (keywordEach [] env)).all (fun x=>x.1.isSome)
  && decide (es.length+([]:List Keyword).length+(if ([]:List Keyword).isEmpty then 0 else 1) < 30))=true:=by
 rw[zIL h,Bool.true_and,Bool.and_eq_true]
 exact⟨rfl,decide_eq_true (by simpa using hl)⟩
section
variable {X:Cx}{Θ:Tab}{a b c:Expr}{pos:Pos}{ma mb mc:M.EM}{ta tb:M.TM}{qU:List Expr}
theorem zP4 (i:Nat) {x:Str} (hN:X.N[i]? = some x:=by rfl) (hv:Vis X.env.scope x:=by first | exact Or.inl rfl | exact Or.inr (Or.inl rfl) | exact Or.inr (Or.inr rfl)) (hd:(x == ("__debug__" : Str))=false:=by decide)
  (hcd:(x == ("__classdict__" : Str))=false:=by decide):ME X Θ (.Name x pos) (M.zC i):=(zPn hN hv hd hcd).imp fun σ H Q ⟨ρ,σ',S,st,rp,h⟩=>by
 unfold M.zC at h
 split at h
 ·rename_i d e
  obtain⟨v,e1,r⟩:=st.get i d e
  exact⟨v,e1,h.here rp r⟩
 ·exact h.elim
theorem zHv (i:Nat) {x:Str} (hN:X.N[i]? = some x:=by rfl) (hv:Vis X.env.scope x:=by first | exact Or.inl rfl | exact Or.inr (Or.inl rfl) | exact Or.inr (Or.inr rfl)) (hd:(x == ("__debug__" : Str))=false:=by decide)
  (hcd:(x == ("__classdict__" : Str))=false:=by decide):WE X Θ (.Name x pos) (M.zC i):=by with_unfolding_all exact zP4 i (x:=x) hN hv hd hcd
theorem zCi {e:Expr}{v:V}{d:M.D} (h:PE X e (tC v)) (r:∀ ρ H,zN X.K ρ H d v):ME X Θ e (M.eC d):=h.imp fun σ H Q ⟨ρ,σ',S,st,rp,h⟩=>h.here rp (r ρ H)
theorem zQG {i:Int}{j:Nat}:ME X Θ (.Constant (.int i) j pos) (M.eC (.int i)):=zCi zHi fun _ _=>rfl
theorem zJ {i:Int}{j:Nat}:WE X Θ (.Constant (.int i) j pos) (M.eC (.int i)):=by with_unfolding_all exact zQG (i:=i) (j:=j)
theorem zRt {k:Bool}{j:Nat}:ME X Θ (.Constant (.bool k) j pos) (M.eC (.bl k)):=zCi zRa fun _ _=>rfl
theorem zDl {k:Bool}{j:Nat}:WE X Θ (.Constant (.bool k) j pos) (M.eC (.bl k)):=by with_unfolding_all exact zRt (k:=k) (j:=j)
theorem zQ6 {j:Nat}:ME X Θ (.Constant .none j pos) (M.eC .non):=zCi zP0 fun _ _=>rfl
theorem zCF {j:Nat}:WE X Θ (.Constant .none j pos) (M.eC .non):=by with_unfolding_all exact zQ6 (j:=j)
theorem zPT {y:M.T}{x:Str}{j:Nat} (h:x=ofT y) (ok:okT y):ME X Θ (.Constant (.str x) j pos) (M.eC (.str y)):=zCi zRI fun _ _=>by rw[h];exact⟨rfl,ok⟩
theorem zMD {y:M.T}{x:Str}{j:Nat} (h:x=ofT y) (ok:okT y):WE X Θ (.Constant (.str x) j pos) (M.eC (.str y)):=by with_unfolding_all exact zPT (y:=y) (x:=x) (j:=j) h ok
theorem zM2 {x:Str}{v:V}{d:M.D} (h:Jy X.mg x v) (hg:Gl X x) (r:∀ ρ H,zN X.K ρ H d v) (hd:(x == ("__debug__" : Str))=false:=by decide):ME X Θ (.Name x pos) (M.eC d):=zCi (zH6 h hg hd) r
theorem zCW {x:Str}{v:V}{d:M.D} (h:Jy X.mg x v) (hg:Gl X x) (r:∀ ρ H,zN X.K ρ H d v) (hd:(x == ("__debug__" : Str))=false:=by decide):WE X Θ (.Name x pos) (M.eC d):=by with_unfolding_all exact zM2 (x:=x) (v:=v) (d:=d) h hg r hd
theorem zRn (n:M.Kd) {x:Str} (hg:Gl X x) (hm:X.mg x=none) (hv:bootBuiltins x=some (.type (qz n))) (hn:x ≠ "__name__" := by decide) (hd:(x == ("__debug__" : Str))=false:=by decide):ME X Θ (.Name x pos) (M.eC (.ty n)) :=
 zCi (zOH (v:=.ty (qz n)) hg hm hv rfl hn hd) fun _ _=>rfl
theorem zFm (n:M.Kd) {x:Str} (hg:Gl X x) (hm:X.mg x=none) (hv:bootBuiltins x=some (.type (qz n))) (hn:x ≠ "__name__" := by decide) (hd:(x == ("__debug__" : Str))=false:=by decide):WE X Θ (.Name x pos) (M.eC (.ty n)):=by with_unfolding_all exact zRn n (x:=x) hg hm hv hn hd
noncomputable def Ad2 (K:PySem.W.Frag) (Θ:Tab) (f:M.D->M.D->M.S->M.R M.D) (r:R2):Prop:=∀ ρ H S x y X Y Q,zX K Θ ρ S H->zN K ρ H x X->zN K ρ H y Y->zG K Θ (zN K) ρ H (f x y S) Q->r X Y H Q
noncomputable def AdC (K:PySem.W.Frag) (Θ:Tab) (f:M.CM) (r:R2):Prop:=∀ ρ H S x y X Y (Q:VK),zX K Θ ρ S H->zN K ρ H x X->zN K ρ H y Y->zG K Θ rB ρ H (f x y S) (fun b H'=>Q (.bl b) H')->r X Y H Q
noncomputable def Ad1 (K:PySem.W.Frag) (Θ:Tab) (f:M.D->M.S->M.R M.D) (r:V->Hp->VK->Prop):Prop:=∀ ρ H S x X Q,zX K Θ ρ S H->zN K ρ H x X->zG K Θ (zN K) ρ H (f x S) Q->r X H Q
noncomputable def AdN (K:PySem.W.Frag) (Θ:Tab) (f:M.F) (r:List V->Hp->VK->Prop):Prop:=∀ ρ H S xs Xs Q,zX K Θ ρ S H->zP K ρ H xs Xs->zG K Θ (zN K) ρ H (f xs S) Q->r Xs H Q
noncomputable def AdM (K:PySem.W.Frag) (Θ:Tab) (f:M.D->M.F) (r:V->List V->Hp->VK->Prop):Prop :=
 ∀ ρ H S x xs X Xs Q,zX K Θ ρ S H->zN K ρ H x X->zP K ρ H xs Xs->zG K Θ (zN K) ρ H (f x xs S) Q->r X Xs H Q
theorem zSF {op:Operator}{f:M.D->M.D->M.S->M.R M.D}{r:R2} (ho:OpR X (binaryOp op) r) (ad:Ad2 X.K Θ f r) (ha:ME X Θ a ma) (hb:ME X Θ b mb):ME X Θ (.BinOp a op b pos) (M.eOp f ma mb) :=
 (zRr ho ha hb).imp fun σ H Q ⟨ρ,σ',S,st,rp,h⟩=>⟨ρ,σ',S,st,rp,zG.bind h fun ρ1 H1 x X1 S1 p1 l1 rp1 rx h1=>⟨ρ1,σ',S1,st.mono p1 l1,rp1,
  zG.bind h1 fun ρ2 H2 y Y S2 p2 l2 rp2 ry h2=>ad ρ2 H2 S2 x y X1 Y Q rp2 (rx.mono p2 l2) ry h2⟩⟩
theorem zR {op:Operator}{f:M.D->M.D->M.S->M.R M.D}{r:R2} (ho:OpR X (binaryOp op) r) (ad:Ad2 X.K Θ f r) (ha:WE X Θ a ma) (hb:WE X Θ b mb):WE X Θ (.BinOp a op b pos) (M.eOp f ma mb):=by with_unfolding_all exact zSF (op:=op) (f:=f) (r:=r) ho ad ha hb
noncomputable def zH1:Expr->Bool
 | .Slice _ _ _ _=>false
 | .Tuple _ _ _=>false
 | _=>true
theorem zMi {b:Expr} (h:zH1 b=true):zI8 b:=fun o i=>by
 cases b<;>first | rfl | cases h
theorem zR9 {f:M.D->M.D->M.S->M.R M.D}{r:R2} (ho:IxR X r) (ad:Ad2 X.K Θ f r) (ha:ME X Θ a ma) (hb:ME X Θ b mb) (hs:zH1 b=true:=by rfl):ME X Θ (.Subscript a b pos) (M.eOp f ma mb) :=
 (zRx ho ha hb (zMi hs)).imp fun σ H Q ⟨ρ,σ',S,st,rp,h⟩=>⟨ρ,σ',S,st,rp,zG.bind h fun ρ1 H1 x X1 S1 p1 l1 rp1 rx h1=>⟨ρ1,σ',S1,st.mono p1 l1,rp1,
  zG.bind h1 fun ρ2 H2 y Y S2 p2 l2 rp2 ry h2=>ad ρ2 H2 S2 x y X1 Y Q rp2 (rx.mono p2 l2) ry h2⟩⟩
theorem zm {f:M.D->M.D->M.S->M.R M.D}{r:R2} (ho:IxR X r) (ad:Ad2 X.K Θ f r) (ha:WE X Θ a ma) (hb:WE X Θ b mb) (hs:zH1 b=true:=by rfl):WE X Θ (.Subscript a b pos) (M.eOp f ma mb):=by with_unfolding_all exact zR9 (f:=f) (r:=r) ho ad ha hb hs
theorem zR6 {op:UnaryOp}{f:M.D->M.S->M.R M.D}{r:V->Hp->VK->Prop} (ho:UnR X (unaryOp op) r) (ad:Ad1 X.K Θ f r) (ha:ME X Θ a ma):ME X Θ (.UnaryOp op a pos) (M.eUn f ma) :=
 (zKD ho ha).imp fun σ H Q ⟨ρ,σ',S,st,rp,h⟩=>⟨ρ,σ',S,st,rp,zG.bind h fun ρ1 H1 x X1 S1 p1 l1 rp1 rx h1=>ad ρ1 H1 S1 x X1 Q rp1 rx h1⟩
theorem zPC {op:UnaryOp}{f:M.D->M.S->M.R M.D}{r:V->Hp->VK->Prop} (ho:UnR X (unaryOp op) r) (ad:Ad1 X.K Θ f r) (ha:WE X Θ a ma):WE X Θ (.UnaryOp op a pos) (M.eUn f ma):=by with_unfolding_all exact zR6 (op:=op) (f:=f) (r:=r) ho ad ha
theorem zRE {op:CmpOp}{f:M.CM}{r:R2} (ho:OpR X (compareOp op) r) (ad:AdC X.K Θ f r) (ha:ME X Θ a ma) (hb:ME X Θ b mb) (hm:behindInMarks op b=false):ME X Θ (.Compare a [op] [b] pos) (M.Zv f ma mb) :=
 (zOw ho ha hb hm).imp fun σ H Q ⟨ρ,σ',S,st,rp,h⟩=>⟨ρ,σ',S,st,rp,zG.bind h fun ρ1 H1 x X1 S1 p1 l1 rp1 rx h1=>⟨ρ1,σ',S1,st.mono p1 l1,rp1,
  zG.bind h1 fun ρ2 H2 y Y S2 p2 l2 rp2 ry h2=>ad ρ2 H2 S2 x y X1 Y Q rp2 (rx.mono p2 l2) ry (zG.bind h2 fun ρ3 H3 k k' S3 p3 l3 rp3 e h3=>by cases e;exact h3.here rp3 rfl)⟩⟩
theorem Z9 {op:CmpOp}{f:M.CM}{r:R2} (ho:OpR X (compareOp op) r) (ad:AdC X.K Θ f r) (ha:WE X Θ a ma) (hb:WE X Θ b mb) (hm:behindInMarks op b=false):WE X Θ (.Compare a [op] [b] pos) (M.Zv f ma mb):=by with_unfolding_all exact zRE (op:=op) (f:=f) (r:=r) ho ad ha hb hm
theorem zRS {op:CmpOp}{f:M.CM}{r:R2} (ho:OpR X (compareOp op) r) (ad:AdC X.K Θ f r) (ha:ME X Θ a ma) (hb:ME X Θ b mb) (hm:behindInMarks op b=false):MT X Θ (.Compare a [op] [b] pos) (M.jM f ma mb) :=
 (zOD ho ha hb hm).imp fun σ H Q ⟨ρ,σ',S,st,rp,h⟩=>⟨ρ,σ',S,st,rp,zG.bind h fun ρ1 H1 x X1 S1 p1 l1 rp1 rx h1=>⟨ρ1,σ',S1,st.mono p1 l1,rp1,
  zG.bind h1 fun ρ2 H2 y Y S2 p2 l2 rp2 ry h2=>ad ρ2 H2 S2 x y X1 Y _ rp2 (rx.mono p2 l2) ry (by
   revert h2
   cases f x y S2 with
   | ok k s=>exact fun h2 ρ3 H3 k' p3 l3 rp3 e=>⟨k',rfl,h2 ρ3 H3 k' p3 l3 rp3 e⟩
   | exc e s=>exact fun h2=>h2
   | no=>exact fun h2=>h2)⟩⟩
theorem zj {op:CmpOp}{f:M.CM}{r:R2} (ho:OpR X (compareOp op) r) (ad:AdC X.K Θ f r) (ha:WE X Θ a ma) (hb:WE X Θ b mb) (hm:behindInMarks op b=false):WT X Θ (.Compare a [op] [b] pos) (M.jM f ma mb):=by with_unfolding_all exact zRS (op:=op) (f:=f) (r:=r) ho ad ha hb hm
theorem zPa {K:PySem.W.Frag}{ρ:List Addr}{H:Hp}{x:M.D}{v:V} (r:zN K ρ H x v):decide (v=.non)=M.zN2 x:=by
 cases x with
 | non=>cases r;rfl
 | bl b=>cases r;rfl
 | int b=>cases r;rfl
 | str b=>obtain⟨rfl,_⟩:=r;rfl
 | ty b=>cases r;rfl
 | ref i=>obtain⟨_,rfl,_⟩:=r;rfl
 | tup i=>obtain⟨_,_,rfl,_⟩:=r;rfl
 | ro i=>obtain⟨_,_,rfl,_⟩:=r;rfl
theorem zRR {j pos'} (ha:ME X Θ a ma):MT X Θ (.Compare a [.Is] [.Constant .none j pos'] pos) (M.zDW ma):=(zQZ (zQP ha)).imp fun σ H Q ⟨ρ,σ',S,st,rp,h⟩=>⟨ρ,σ',S,st,rp,zG.bind h fun ρ1 H1 x X1 S1 p1 l1 rp1 rx h1=>⟨_,rfl,by
 rw[zPa rx];exact h1.here rp1 rfl⟩⟩
theorem zHX {j pos'} (ha:WE X Θ a ma):WT X Θ (.Compare a [.Is] [.Constant .none j pos'] pos) (M.zDW ma):=by with_unfolding_all exact zRR (j:=j) (pos':=pos') ha
theorem AdC.to {K:PySem.W.Frag}{f:M.CM}{r:R2} (ad:AdC K Θ f r) {ρ:List Addr}{H:Hp}{S:M.S}{x y:M.D}{X1 Y:V}{Q:VK}{Q':Bool->Hp->Prop} (rp:zX K Θ ρ S H) (rx:zN K ρ H x X1) (ry:zN K ρ H y Y) (h:zG K Θ rB ρ H (f x y S) Q') (e:∀ k H',Q' k H'->Q (.bl k) H'):r X1 Y H Q :=
 ad ρ H S x y X1 Y Q rp rx ry (by
  revert h
  cases f x y S with
  | ok k s=>exact fun h2 ρ3 H3 k' p3 l3 rp3 q=>e _ _ (h2 ρ3 H3 k' p3 l3 rp3 q)
  | exc e s=>exact fun h2=>h2
  | no=>exact fun h2=>h2)
theorem zM6 {op op':CmpOp}{f g:M.CM}{r r':R2} (ho:OpR X (compareOp op) r) (ho':OpR X (compareOp op') r') (ad:AdC X.K Θ f r) (ad':AdC X.K Θ g r') (ha:ME X Θ a ma) (hb:ME X Θ b mb) (hc:ME X Θ c mc)
  (hm:lastMarks [op,op'] [b,c]=false:=by with_unfolding_all rfl):ME X Θ (.Compare a [op,op'] [b,c] pos) (M.zHk f g ma mb mc) :=
 (zMk ho ho' ha hb hc hm).imp fun σ H Q ⟨ρ,σ',S,st,rp,h⟩=>⟨ρ,σ',S,st,rp,zG.bind h fun ρ1 H1 x X1 S1 p1 l1 rp1 rx h1=>⟨ρ1,σ',S1,st.mono p1 l1,rp1,
  zG.bind h1 fun ρ2 H2 y Y S2 p2 l2 rp2 ry h2=>ad.to rp2 (rx.mono p2 l2) ry (zG.bind (Rl:=rB) (Q:=fun k H'=>∃ ρ3 S3,ρ2 <+: ρ3/\Le H2 H'/\zX X.K Θ ρ3 S3 H'/\zG X.K Θ (zN X.K) ρ3 H' (if k=true then (mc σ' S3).bind fun z s=>(g y z s).bind fun k s=>.ok (.bl k) s else .ok (.bl false) S3) Q) h2
   fun ρ3 H3 k k' S3 p3 l3 rp3 e h3=>by cases e;exact⟨ρ3,S3,p3,l3,rp3,h3⟩) fun k H3 ⟨ρ3,S3,p3,l3,rp3,h3⟩=>⟨k,rfl,by
    cases k with
    | false=>exact zCV (zG.here (b:=V.bl false) h3 rp3 rfl)
    | true =>
     refine zCU ⟨ρ3,σ',S3,st.mono (p1.trans (p2.trans p3)) (l1.trans (l2.trans l3)),rp3,zG.bind h3 fun ρ4 H4 z Z S4 p4 l4 rp4 rz h4=>ad'.to rp4 (ry.mono (p3.trans p4) (l3.trans l4)) rz (zG.bind (Rl:=rB) (Q:=fun k H'=>Q (.bl k) H') h4 fun ρ5 H5 k k' S5 p5 l5 rp5 e h5=>by cases e;exact h5.here rp5 rfl) fun _ _ q=>q⟩⟩⟩⟩
theorem zKL {op op':CmpOp}{f g:M.CM}{r r':R2} (ho:OpR X (compareOp op) r) (ho':OpR X (compareOp op') r') (ad:AdC X.K Θ f r) (ad':AdC X.K Θ g r') (ha:WE X Θ a ma) (hb:WE X Θ b mb) (hc:WE X Θ c mc)
  (hm:lastMarks [op,op'] [b,c]=false:=by with_unfolding_all rfl):WE X Θ (.Compare a [op,op'] [b,c] pos) (M.zHk f g ma mb mc):=by with_unfolding_all exact zM6 (op:=op) (op':=op') (f:=f) (g:=g) (r:=r) (r':=r') ho ho' ad ad' ha hb hc hm
theorem zM5 {op op':CmpOp}{f g:M.CM}{r r':R2} (ho:OpR X (compareOp op) r) (ho':OpR X (compareOp op') r') (ad:AdC X.K Θ f r) (ad':AdC X.K Θ g r') (ha:ME X Θ a ma) (hb:ME X Θ b mb) (hc:ME X Θ c mc)
  (hm:lastMarks [op,op'] [b,c]=false:=by with_unfolding_all rfl):MT X Θ (.Compare a [op,op'] [b,c] pos) (M.zB5 f g ma mb mc) :=
 (zMH ho ho' ha hb hc hm).imp fun σ H Q ⟨ρ,σ',S,st,rp,h⟩=>⟨ρ,σ',S,st,rp,zG.bind h fun ρ1 H1 x X1 S1 p1 l1 rp1 rx h1=>⟨ρ1,σ',S1,st.mono p1 l1,rp1,
  zG.bind h1 fun ρ2 H2 y Y S2 p2 l2 rp2 ry h2=>ad.to rp2 (rx.mono p2 l2) ry (zG.bind (Rl:=rB) (Q:=fun k H'=>∃ ρ3 S3,ρ2 <+: ρ3/\Le H2 H'/\zX X.K Θ ρ3 S3 H'/\zG X.K Θ rB ρ3 H' (if k=true then (mc σ' S3).bind fun z s=>g y z s else .ok false S3) Q) h2
   fun ρ3 H3 k k' S3 p3 l3 rp3 e h3=>by cases e;exact⟨ρ3,S3,p3,l3,rp3,h3⟩) fun k H3 ⟨ρ3,S3,p3,l3,rp3,h3⟩=>⟨k,rfl,by
    cases k with
    | false=>exact zCV ⟨false,rfl,zG.here (b:=false) h3 rp3 rfl⟩
    | true =>
     refine zCU ⟨ρ3,σ',S3,st.mono (p1.trans (p2.trans p3)) (l1.trans (l2.trans l3)),rp3,zG.bind h3 fun ρ4 H4 z Z S4 p4 l4 rp4 rz h4=>ad'.to rp4 (ry.mono (p3.trans p4) (l3.trans l4)) rz h4 fun k H' q=>⟨k,rfl,q⟩⟩⟩⟩⟩
theorem zJf {op op':CmpOp}{f g:M.CM}{r r':R2} (ho:OpR X (compareOp op) r) (ho':OpR X (compareOp op') r') (ad:AdC X.K Θ f r) (ad':AdC X.K Θ g r') (ha:WE X Θ a ma) (hb:WE X Θ b mb) (hc:WE X Θ c mc)
  (hm:lastMarks [op,op'] [b,c]=false:=by with_unfolding_all rfl):WT X Θ (.Compare a [op,op'] [b,c] pos) (M.zB5 f g ma mb mc):=by with_unfolding_all exact zM5 (op:=op) (op':=op') (f:=f) (g:=g) (r:=r) (r':=r') ho ho' ad ad' ha hb hc hm
theorem zJh (ha:MT X Θ a ta):MW X Θ (.BoolOp .And [a] pos) ta:=zOp ha
theorem zHD (ha:WT X Θ a ta):WW X Θ (.BoolOp .And [a] pos) ta:=by with_unfolding_all exact zJh ha
theorem zLi (ha:MT X Θ a ta):MW X Θ (.BoolOp .Or [a] pos) ta:=zRU ha
theorem zIa (ha:WT X Θ a ta):WW X Θ (.BoolOp .Or [a] pos) ta:=by with_unfolding_all exact zLi ha
theorem zPR (ha:MT X Θ a ta) (hb:MW X Θ (.BoolOp .And (b::qU) pos) tb):MW X Θ (.BoolOp .And (a::b::qU) pos) (M.zFg ta tb) :=
 (zQX ha hb).imp fun σ H Q ⟨ρ,σ',S,st,rp,h⟩=>⟨ρ,σ',S,st,rp,zG.bind h fun ρ1 H1 k k' S1 p1 l1 rp1 e h1=>by
  cases e
  cases k with
  | true=>exact zCU ⟨ρ1,σ',S1,st.mono p1 l1,rp1,h1⟩
  | false=>exact zCV (zG.here (b:=false) h1 rp1 rfl)⟩
theorem zMQ (ha:WT X Θ a ta) (hb:WW X Θ (.BoolOp .And (b::qU) pos) tb):WW X Θ (.BoolOp .And (a::b::qU) pos) (M.zFg ta tb):=by with_unfolding_all exact zPR ha hb
theorem zRy (ha:MT X Θ a ta) (hb:MW X Θ (.BoolOp .Or (b::qU) pos) tb):MW X Θ (.BoolOp .Or (a::b::qU) pos) (M.tOr ta tb) :=
 (zRs ha hb).imp fun σ H Q ⟨ρ,σ',S,st,rp,h⟩=>⟨ρ,σ',S,st,rp,zG.bind h fun ρ1 H1 k k' S1 p1 l1 rp1 e h1=>by
  cases e
  cases k with
  | true=>exact zCU (zG.here (b:=true) h1 rp1 rfl)
  | false=>exact zCV ⟨ρ1,σ',S1,st.mono p1 l1,rp1,h1⟩⟩
theorem zPN (ha:WT X Θ a ta) (hb:WW X Θ (.BoolOp .Or (b::qU) pos) tb):WW X Θ (.BoolOp .Or (a::b::qU) pos) (M.tOr ta tb):=by with_unfolding_all exact zRy ha hb
theorem zQR (ha:MT X Θ a ta):MT X Θ (.UnaryOp .Not a pos) (M.zEA ta):=(zP9 ha).imp fun σ H Q ⟨ρ,σ',S,st,rp,h⟩=>⟨ρ,σ',S,st,rp,zG.bind h fun ρ1 H1 k k' S1 p1 l1 rp1 e h1=>by
 cases e;exact zG.here (b:=!k) h1 rp1 rfl⟩
theorem zEH (ha:WT X Θ a ta):WT X Θ (.UnaryOp .Not a pos) (M.zEA ta):=by with_unfolding_all exact zQR ha
theorem zRJ {op} (ha:ME X Θ a ma):ME X Θ (.BoolOp op [a] pos) ma:=zQl ha
theorem zEc {op} (ha:WE X Θ a ma):WE X Θ (.BoolOp op [a] pos) ma:=by with_unfolding_all exact zRJ (op:=op) ha
theorem zQQ {K:PySem.W.Frag}{γ δ:Type}{Rk:List Addr->Hp->γ->δ->Prop}{ρ:List Addr}{H:Hp}{x:M.D}{v:V}{S:M.S}{f:Bool->M.S->M.R γ}{Q:δ->Hp->Prop} (r:zN K ρ H x v) (h:zG K Θ Rk ρ H ((M.asB x S).bind f) Q):∃ k,v=.bl k/\zG K Θ Rk ρ H (f k S) Q:=by
 cases x with
 | bl b=>cases r;exact⟨b,rfl,h⟩
 | _=>exact h.elim
theorem zQA (ha:ME X Θ a ma) (hb:ME X Θ (.BoolOp .And (b::qU) pos) mb):ME X Θ (.BoolOp .And (a::b::qU) pos) (M.zDF ma mb) :=
 (zQ5 ha hb).imp fun σ H Q ⟨ρ,σ',S,st,rp,h⟩=>⟨ρ,σ',S,st,rp,zG.bind h fun ρ1 H1 x X1 S1 p1 l1 rp1 rx h1=>by
  obtain⟨k,e,h2⟩:=zQQ rx h1
  refine⟨k,e,?_⟩
  cases k with
  | true=>exact zCU ⟨ρ1,σ',S1,st.mono p1 l1,rp1,h2⟩
  | false=>exact zCV (zG.here (b:=V.bl false) h2 rp1 rfl)⟩
theorem zA8 (ha:WE X Θ a ma) (hb:WE X Θ (.BoolOp .And (b::qU) pos) mb):WE X Θ (.BoolOp .And (a::b::qU) pos) (M.zDF ma mb):=by with_unfolding_all exact zQA ha hb
theorem zMv (hc:MT X Θ c ta) (ha:ME X Θ a ma) (hb:ME X Θ b mb):ME X Θ (.IfExp c a b pos) (M.eIf ta ma mb):=(zM9 hc ha hb).imp fun σ H Q ⟨ρ,σ',S,st,rp,h⟩=>⟨ρ,σ',S,st,rp,zG.bind h fun ρ1 H1 k k' S1 p1 l1 rp1 e h1=>by
 cases e
 cases k with
 | true=>exact zCU ⟨ρ1,σ',S1,st.mono p1 l1,rp1,h1⟩
 | false=>exact zCV ⟨ρ1,σ',S1,st.mono p1 l1,rp1,h1⟩⟩
theorem zJo (hc:WT X Θ c ta) (ha:WE X Θ a ma) (hb:WE X Θ b mb):WE X Θ (.IfExp c a b pos) (M.eIf ta ma mb):=by with_unfolding_all exact zMv hc ha hb
theorem zHE:MA X Θ [] M.zH:=zLM.imp fun σ H Q ⟨ρ,σ',S,st,rp,h⟩=>zG.here (b:=[]) h rp rfl
theorem zF:WA X Θ [] M.zH:=by with_unfolding_all exact zHE
theorem zFj {e:Expr}{es:List Expr}{r:M.AM} (ha:ME X Θ e ma) (hr:MA X Θ es r) (hs:zo e=true:=by rfl):MA X Θ (e::es) (M.zD ma r) :=
 (zI4 ha hr (qP hs)).imp fun σ H Q ⟨ρ,σ',S,st,rp,h⟩=>⟨ρ,σ',S,st,rp,zG.bind h fun ρ1 H1 x X1 S1 p1 l1 rp1 rx h1=>⟨ρ1,σ',S1,st.mono p1 l1,rp1,
  zG.bind h1 fun ρ2 H2 ys Ys S2 p2 l2 rp2 ry h2=>h2.here rp2 ⟨X1,Ys,rfl,rx.mono p2 l2,ry⟩⟩⟩
theorem zB {e:Expr}{es:List Expr}{r:M.AM} (ha:WE X Θ e ma) (hr:WA X Θ es r) (hs:zo e=true:=by rfl):WA X Θ (e::es) (M.zD ma r):=by with_unfolding_all exact zFj (e:=e) (es:=es) (r:=r) ha hr hs
theorem zQc {es:List Expr}{r:M.AM}{x1} (hr:MA X Θ es r):ME X Θ (.Tuple es x1 pos) (M.jS r):=(zPh hr).imp fun σ H Q ⟨ρ,σ',S,st,rp,h⟩=>⟨ρ,σ',S,st,rp,zG.bind h fun ρ1 H1 xs Xs S1 p1 l1 rp1 rx h1=>by
 by_cases hl:xs.length <= M.SZ
 ·rw[if_pos hl] at h1
  rw[Za,rx.length] at hl
  exact⟨hl,fun p hp=>h1 ρ1 _ _ (List.prefix_refl _) (Le.new hp _) (rp1.aside hp _) ⟨p,Xs,rfl,SqT.of qD,rx.mono (List.prefix_refl _) (Le.new hp _)⟩⟩
 ·rw[if_neg hl] at h1
  exact h1.elim⟩
theorem jE {es:List Expr}{r:M.AM}{x1} (hr:WA X Θ es r):WE X Θ (.Tuple es x1 pos) (M.jS r):=by with_unfolding_all exact zQc (es:=es) (r:=r) (x1:=x1) hr
theorem zG.alloc {K:PySem.W.Frag}{ρ:List Addr}{H:Hp}{S:M.S}{ds:List M.D}{xs:List V}{Q:VK} (h:zG K Θ (zN K) ρ H (M.alloc (.lst ds) S) Q) (rp:zX K Θ ρ S H) (r:zP K ρ H ds xs) {p:Addr} (hp:H p=none):Q (.ref p) (upd H p (.lst xs)) :=
 h (ρ++[p]) _ _ (List.prefix_append _ _) (Le.new hp _) (rp.alloc hp ⟨xs,qD,r.mono (List.prefix_append _ _) (Le.new hp _)⟩) ⟨p,rfl,by rw[<- rp.len];simp⟩
theorem zQI {es:List Expr}{r:M.AM} (hr:MA X Θ es r):ME X Θ (.List es pos) (M.Zi r):=(zQ1 hr).imp fun σ H Q ⟨ρ,σ',S,st,rp,h⟩=>⟨ρ,σ',S,st,rp,zG.bind h fun ρ1 H1 xs Xs S1 p1 l1 rp1 rx h1=>by
 by_cases hl:xs.length <= M.SZ
 ·rw[if_pos hl] at h1
  rw[Za,rx.length] at hl
  exact⟨hl,fun p hp=>h1.alloc rp1 rx hp⟩
 ·rw[if_neg hl] at h1
  exact h1.elim⟩
theorem Zh {es:List Expr}{r:M.AM} (hr:WA X Θ es r):WE X Θ (.List es pos) (M.Zi r):=by with_unfolding_all exact zQI (es:=es) (r:=r) hr
theorem zO7:MO X Θ none M.zCJ:=zO0.imp fun σ H Q ⟨ρ,σ',S,st,rp,h⟩=>zG.here (b:=none) h rp rfl
theorem zAO:WO X Θ none M.zCJ:=by with_unfolding_all exact zO7
theorem zPO (ha:ME X Θ a ma):MO X Θ (some a) (M.JP ma):=(zOi ha).imp fun σ H Q ⟨ρ,σ',S,st,rp,h⟩=>⟨ρ,σ',S,st,rp,zG.bind h fun ρ1 H1 x X1 S1 p1 l1 rp1 rx h1=>by
 cases x with
 | int i=>cases rx;exact⟨i,rfl,zG.here (b:=some i) h1 rp1 rfl⟩
 | _=>exact h1.elim⟩
theorem ZH (ha:WE X Θ a ma):WO X Θ (some a) (M.JP ma):=by with_unfolding_all exact zPO ha
theorem zRl {lo hi:Option Expr}{p2:Pos}{ml mh:M.OM}{r:V->Option Int->Option Int->Hp->VK->Prop} (hr:SlR X r) (ad:∀ ρ H S x X1 l u Q,zX X.K Θ ρ S H->zN X.K ρ H x X1->zG X.K Θ (zN X.K) ρ H (M.slD x l u S) Q->r X1 l u H Q) (ha:ME X Θ a ma) (hl:MO X Θ lo ml) (hh:MO X Θ hi mh) :
  ME X Θ (.Subscript a (.Slice lo hi none p2) pos) (M.eSl ma ml mh):=(zMg hr ha hl hh).imp fun σ H Q ⟨ρ,σ',S,st,rp,h⟩=>⟨ρ,σ',S,st,rp,zG.bind h fun ρ1 H1 x X1 S1 p1 l1 rp1 rx h1=>⟨ρ1,σ',S1,st.mono p1 l1,rp1,
  zG.bind h1 fun ρ2 H2 l l' S2 p2 l2 rp2 e2 h2=>by
   cases e2
   exact⟨ρ2,σ',S2,st.mono (p1.trans p2) (l1.trans l2),rp2,zG.bind h2 fun ρ3 H3 u u' S3 p3 l3 rp3 e3 h3=>by
    cases e3
    exact ad ρ3 H3 S3 x X1 l u Q rp3 (rx.mono (p2.trans p3) (l2.trans l3)) h3⟩⟩⟩
theorem zAD {lo hi:Option Expr}{p2:Pos}{ml mh:M.OM}{r:V->Option Int->Option Int->Hp->VK->Prop} (hr:SlR X r) (ad:∀ ρ H S x X1 l u Q,zX X.K Θ ρ S H->zN X.K ρ H x X1->zG X.K Θ (zN X.K) ρ H (M.slD x l u S) Q->r X1 l u H Q) (ha:WE X Θ a ma) (hl:WO X Θ lo ml) (hh:WO X Θ hi mh) :
  WE X Θ (.Subscript a (.Slice lo hi none p2) pos) (M.eSl ma ml mh):=by with_unfolding_all exact zRl (lo:=lo) (hi:=hi) (p2:=p2) (ml:=ml) (mh:=mh) (r:=r) hr ad ha hl hh
theorem zNp {x:Str}{p:Pos}{id:String}{e:Expr}{es:List Expr}{f:M.F}{r:List V->Hp->VK->Prop}{m:M.AM} (hc:j9 X (.builtin id) r) (ad:AdN X.K Θ f r) (hg:Gl X x) (hm:X.mg x=none) (hv:bootBuiltins x=some (.builtin id)) (ha:MA X Θ (e::es) m)
  (hn:x ≠ "__name__" := by decide) (hdb:(x == ("__debug__" : Str))=false:=by decide) (he:zo e=true:=by rfl) (hpl:es.all zo=true:=by rfl) :
  ME X Θ (.Call (.Name x p) (e::es) [] pos) (M.zS f m):=(zH7 hc hg hm hv ha hn hdb (qP he) (Ze hpl)).imp fun σ H Q ⟨ρ,σ',S,st,rp,h⟩=>⟨ρ,σ',S,st,rp,zG.bind h fun ρ1 H1 xs Xs S1 p1 l1 rp1 rx h1=>ad ρ1 H1 S1 xs Xs Q rp1 rx h1⟩
theorem jj {x:Str}{p:Pos}{id:String}{e:Expr}{es:List Expr}{f:M.F}{r:List V->Hp->VK->Prop}{m:M.AM} (hc:j9 X (.builtin id) r) (ad:AdN X.K Θ f r) (hg:Gl X x) (hm:X.mg x=none) (hv:bootBuiltins x=some (.builtin id)) (ha:WA X Θ (e::es) m)
  (hn:x ≠ "__name__" := by decide) (hdb:(x == ("__debug__" : Str))=false:=by decide) (he:zo e=true:=by rfl) (hpl:es.all zo=true:=by rfl) :
  WE X Θ (.Call (.Name x p) (e::es) [] pos) (M.zS f m):=by with_unfolding_all exact zNp (x:=x) (p:=p) (id:=id) (e:=e) (es:=es) (f:=f) (r:=r) (m:=m) hc ad hg hm hv ha hn hdb he hpl
theorem zK1 {x:Str}{p:Pos}{T:String}{e:Expr}{es:List Expr}{f:M.F}{r:List V->Hp->VK->Prop}{m:M.AM} (hc:j9 X (.type T) r) (ad:AdN X.K Θ f r) (hg:Gl X x) (hm:X.mg x=none) (hv:bootBuiltins x=some (.type T)) (ha:MA X Θ (e::es) m)
  (hn:x ≠ "__name__" := by decide) (hdb:(x == ("__debug__" : Str))=false:=by decide) (he:zo e=true:=by rfl) (hpl:es.all zo=true:=by rfl) :
  ME X Θ (.Call (.Name x p) (e::es) [] pos) (M.zS f m):=(zL4 hc hg hm hv ha hn hdb (qP he) (Ze hpl)).imp fun σ H Q ⟨ρ,σ',S,st,rp,h⟩=>⟨ρ,σ',S,st,rp,zG.bind h fun ρ1 H1 xs Xs S1 p1 l1 rp1 rx h1=>ad ρ1 H1 S1 xs Xs Q rp1 rx h1⟩
theorem Zu {x:Str}{p:Pos}{T:String}{e:Expr}{es:List Expr}{f:M.F}{r:List V->Hp->VK->Prop}{m:M.AM} (hc:j9 X (.type T) r) (ad:AdN X.K Θ f r) (hg:Gl X x) (hm:X.mg x=none) (hv:bootBuiltins x=some (.type T)) (ha:WA X Θ (e::es) m)
  (hn:x ≠ "__name__" := by decide) (hdb:(x == ("__debug__" : Str))=false:=by decide) (he:zo e=true:=by rfl) (hpl:es.all zo=true:=by rfl) :
  WE X Θ (.Call (.Name x p) (e::es) [] pos) (M.zS f m):=by with_unfolding_all exact zK1 (x:=x) (p:=p) (T:=T) (e:=e) (es:=es) (f:=f) (r:=r) (m:=m) hc ad hg hm hv ha hn hdb he hpl
theorem zJB {K:PySem.W.Frag}{ρ:List Addr}{H:Hp}{S:M.S}{k:M.Kd}{x:M.D}{v:V} (rp:zX K Θ ρ S H) (r:zN K ρ H x v) (h:M.Jv k x S=true):tyV K (qz k) v H:=by
 cases x with
 | str z=>obtain⟨rfl,_⟩:=r;cases k<;>first | rfl | cases h
 | ro ds =>
  obtain⟨a,xs,rfl,q,_⟩:=r
  cases k<;>first | exact .inl ⟨rfl,xs,q.sq⟩ | cases h
 | ref i =>
  obtain⟨a,rfl,e⟩:=r
  cases q:S[i]? with
  | none=>simp[M.Jv,q] at h
  | some o =>
   cases o with
   | lst xs =>
    obtain⟨b,e1,zs,e2,_⟩:=rp.obj _ _ q
    rw[e] at e1;cases e1
    cases k<;>first | exact .inl ⟨rfl,zs,SqL.of e2⟩ | simp[M.Jv,q] at h
   | dct xs =>
    obtain⟨b,e1,zs,e2,_⟩:=rp.obj _ _ q
    rw[e] at e1;cases e1
    cases k<;>first | exact .inr (.inr (.inl ⟨rfl,.inl ⟨zs,e2⟩⟩)) | simp[M.Jv,q] at h
   | fdc _=>simp[M.Jv,q] at h
   | ins c fs=>simp[M.Jv,q] at h
 | _=>cases h
theorem zSb {k:M.Kd}{T:String}{f:M.D->M.F}{r:V->List V->Hp->VK->Prop}{o e:Expr}{es:List Expr}{mo:M.EM}{m:M.AM}{name:Str}{apos cpos:Pos}{id:String} (pa:PlainAttrs T) (slot:Slot T name id) (hty:typeOf (.builtin id)=pure (.type "method_descriptor")) (hm:MtR X id r) (ad:AdM X.K Θ f r) (hT:T=qz k) (ho:ME X Θ o mo) (ha:MA X Θ (e::es) m)
  (hbase:attributeBase o name X.env (eval o X.env)=eval o X.env:=by rfl)
  (hfew:(e::es).length < 30:=by exact Nat.le_of_ble_eq_true rfl) (hline:(apos.endLine == cpos.line)=true:=by rfl) (hs:zo e=true:=by rfl) (hplain:es.all zo=true:=by rfl) :
  ME X Θ (.Call (.Attribute o name apos) (e::es) [] cpos) (M.eM k f mo m):=(zSA pa slot hty hm ho ha hbase (zNM (by rw[List.all_cons,hs,hplain];rfl) hfew) hline (qP hs) (Ze hplain)).imp fun σ H Q ⟨ρ,σ',S,st,rp,h⟩=>⟨ρ,σ',S,st,rp,zG.bind h fun ρ1 H1 x X1 S1 p1 l1 rp1 rx h1=>by
 cases ht:M.Jv k x S1 with
 | false=>rw[ht] at h1;exact h1.elim
 | true =>
  rw[ht] at h1
  exact⟨hT ▸ zJB rp1 rx ht,ρ1,σ',S1,st.mono p1 l1,rp1,zG.bind h1 fun ρ2 H2 xs Xs S2 p2 l2 rp2 rxs h2=>ad ρ2 H2 S2 x xs X1 Xs Q rp2 (rx.mono p2 l2) rxs h2⟩⟩
theorem yY {k:M.Kd}{T:String}{f:M.D->M.F}{r:V->List V->Hp->VK->Prop}{o e:Expr}{es:List Expr}{mo:M.EM}{m:M.AM}{name:Str}{apos cpos:Pos}{id:String} (pa:PlainAttrs T) (slot:Slot T name id) (hty:typeOf (.builtin id)=pure (.type "method_descriptor")) (hm:MtR X id r) (ad:AdM X.K Θ f r) (hT:T=qz k) (ho:WE X Θ o mo) (ha:WA X Θ (e::es) m)
  (hbase:attributeBase o name X.env (eval o X.env)=eval o X.env:=by rfl)
  (hfew:(e::es).length < 30:=by exact Nat.le_of_ble_eq_true rfl) (hline:(apos.endLine == cpos.line)=true:=by rfl) (hs:zo e=true:=by rfl) (hplain:es.all zo=true:=by rfl) :
  WE X Θ (.Call (.Attribute o name apos) (e::es) [] cpos) (M.eM k f mo m):=by with_unfolding_all exact zSb (k:=k) (T:=T) (f:=f) (r:=r) (o:=o) (e:=e) (es:=es) (mo:=mo) (m:=m) (name:=name) (apos:=apos) (cpos:=cpos) (id:=id) pa slot hty hm ad hT ho ha hbase hfew hline hs hplain
theorem zRg {k:M.Kd}{T:String}{f:M.D->M.F}{r:V->List V->Hp->VK->Prop}{o:Expr}{mo:M.EM}{name:Str}{apos cpos:Pos}{id:String} (pa:PlainAttrs T) (slot:Slot T name id) (hty:typeOf (.builtin id)=pure (.type "method_descriptor")) (hm:MtR X id r) (ad:AdM X.K Θ f r) (hT:T=qz k) (ho:ME X Θ o mo)
  (hbase:attributeBase o name X.env (eval o X.env)=eval o X.env:=by rfl) (hline:(apos.endLine == cpos.line)=true:=by rfl) :
  ME X Θ (.Call (.Attribute o name apos) [] [] cpos) (M.eM k f mo M.zH):=(zPb pa slot hty hm ho hbase hline).imp fun σ H Q ⟨ρ,σ',S,st,rp,h⟩=>⟨ρ,σ',S,st,rp,zG.bind h fun ρ1 H1 x X1 S1 p1 l1 rp1 rx h1=>by
 cases ht:M.Jv k x S1 with
 | false=>rw[ht] at h1;exact h1.elim
 | true =>
  rw[ht] at h1
  exact⟨hT ▸ zJB rp1 rx ht,ad ρ1 H1 S1 x [] X1 [] Q rp1 rx rfl h1⟩⟩
theorem JM {k:M.Kd}{T:String}{f:M.D->M.F}{r:V->List V->Hp->VK->Prop}{o:Expr}{mo:M.EM}{name:Str}{apos cpos:Pos}{id:String} (pa:PlainAttrs T) (slot:Slot T name id) (hty:typeOf (.builtin id)=pure (.type "method_descriptor")) (hm:MtR X id r) (ad:AdM X.K Θ f r) (hT:T=qz k) (ho:WE X Θ o mo)
  (hbase:attributeBase o name X.env (eval o X.env)=eval o X.env:=by rfl) (hline:(apos.endLine == cpos.line)=true:=by rfl) :
  WE X Θ (.Call (.Attribute o name apos) [] [] cpos) (M.eM k f mo M.zH):=by with_unfolding_all exact zRg (k:=k) (T:=T) (f:=f) (r:=r) (o:=o) (mo:=mo) (name:=name) (apos:=apos) (cpos:=cpos) (id:=id) pa slot hty hm ad hT ho hbase hline
end
end L2
namespace L2
open PySem PySem.Spec PyProof.Rows
noncomputable def zx (K:PySem.W.Frag) (Θ:Tab) (ρ:List Addr) (H:Hp):M.RS->zCj->Prop
 | .nx σ1 S1,D=>∀ ρ' H' σ,ρ <+: ρ'->Le H H'->zX K Θ ρ' S1 H'->jo K ρ' H' σ1 σ->D.nx σ H'
 | .rt d S1,D=>∀ ρ' H' v,ρ <+: ρ'->Le H H'->zX K Θ ρ' S1 H'->zN K ρ' H' d v->D.rt v H'
 | .bk σ1 S1,D=>∀ ρ' H' σ,ρ <+: ρ'->Le H H'->zX K Θ ρ' S1 H'->jo K ρ' H' σ1 σ->D.bk σ H'
 | .ct σ1 S1,D=>∀ ρ' H' σ,ρ <+: ρ'->Le H H'->zX K Θ ρ' S1 H'->jo K ρ' H' σ1 σ->D.ct σ H'
 | .exc _ _ _,_=>False
 | .no,_=>False
noncomputable def RdS (K:PySem.W.Frag) (Θ:Tab) (m:M.SM):TS:=fun D σ H=>∃ ρ σ' S,jo K ρ H σ' σ/\zX K Θ ρ S H/\zx K Θ ρ H (m σ' S) D
noncomputable abbrev MS (X:Cx) (Θ:Tab) (st:Stmt) (m:M.SM):Prop:=PS X st (RdS X.K Θ m)
@[irreducible] noncomputable def WS (X:Cx) (Θ:Tab) (st:Stmt) (m:M.SM):Prop:=MS X Θ st m
noncomputable abbrev MSs (X:Cx) (Θ:Tab) (st:List Stmt) (m:M.SM):Prop:=PSs X st (RdS X.K Θ m)
@[irreducible] noncomputable def WSs (X:Cx) (Θ:Tab) (st:List Stmt) (m:M.SM):Prop:=MSs X Θ st m
theorem PS.imp {X:Cx}{e:Stmt}{t t':TS} (h:PS X e t) (i:∀ D σ H,t' D σ H->t D σ H):PS X e t':=fun pins s σ H D I q=>h pins s σ H D I (i D σ H q)
theorem PSs.imp {X:Cx}{e:List Stmt}{t t':TS} (h:PSs X e t) (i:∀ D σ H,t' D σ H->t D σ H):PSs X e t':=fun pins s σ H D I q=>h pins s σ H D I (i D σ H q)
section
variable {K:PySem.W.Frag}{Θ:Tab}{ρ ρ':List Addr}{H H':Hp}{S:M.S}{α β:Type}{Rl:List Addr->Hp->α->β->Prop}{Q:β->Hp->Prop}{D D':zCj}
theorem zx.weak {r:M.RS} (h:zx K Θ ρ H r D) (hρ:ρ <+: ρ') (le:Le H H'):zx K Θ ρ' H' r D:=by
 cases r with
 | nx a s=>exact fun ρ2 H2 b p l=>h ρ2 H2 b (hρ.trans p) (le.trans l)
 | rt a s=>exact fun ρ2 H2 b p l=>h ρ2 H2 b (hρ.trans p) (le.trans l)
 | bk a s=>exact fun ρ2 H2 b p l=>h ρ2 H2 b (hρ.trans p) (le.trans l)
 | ct a s=>exact fun ρ2 H2 b p l=>h ρ2 H2 b (hρ.trans p) (le.trans l)
 | exc e a s=>exact h
 | no=>exact h
theorem zx.stm {r:M.R α}{σ:M.St}{f:α->M.S->M.RS} (h:zx K Θ ρ H (r.stm σ f) D)
  (k:∀ ρ' H' a b S',ρ <+: ρ'->Le H H'->zX K Θ ρ' S' H'->Rl ρ' H' a b->zx K Θ ρ' H' (f a S') D->Q b H'):zG K Θ Rl ρ H r Q:=by
 cases r with
 | ok a s=>exact fun ρ2 H2 b p l rp rl=>k ρ2 H2 a b s p l rp rl (zx.weak h p l)
 | exc e s=>exact h
 | no=>exact h
theorem zx.nx {σ1:M.St}{σ:St} (h:zx K Θ ρ H (.nx σ1 S) D) (rp:zX K Θ ρ S H) (st:jo K ρ H σ1 σ):D.nx σ H:=h ρ H σ (List.prefix_refl _) (Le.refl _) rp st
theorem zx.rt {d:M.D}{v:V} (h:zx K Θ ρ H (.rt d S) D) (rp:zX K Θ ρ S H) (r:zN K ρ H d v):D.rt v H:=h ρ H v (List.prefix_refl _) (Le.refl _) rp r
end
section
variable {X:Cx}{Θ:Tab}{e:Expr}{pos:Pos}{m:M.EM}{st:Stmt}{qU:List Stmt}{ms mr:M.SM}
theorem zOA:MSs X Θ [] M.ql:=zPD.imp fun D σ H ⟨ρ,σ',S,st,rp,h⟩=>h.nx rp st
theorem jl:WSs X Θ [] M.ql:=by with_unfolding_all exact zOA
theorem zOP (h:MS X Θ st ms):MSs X Θ [st] ms:=zPE h
theorem zI (h:WS X Θ st ms):WSs X Θ [st] ms:=by with_unfolding_all exact zOP h
theorem zMe (h1:MS X Θ st ms) (h2:MSs X Θ qU mr):MSs X Θ (st::qU) (M.zO ms mr):=(zMc h1 h2).imp fun D σ H ⟨ρ,σ',S,st,rp,h⟩=>⟨ρ,σ',S,st,rp,by
 have h':zx X.K Θ ρ H ((ms σ' S).then mr) D:=h
 revert h'
 cases ms σ' S with
 | nx a s=>exact fun h' ρ2 H2 σ2 p l rp2 st2=>⟨ρ2,a,s,st2,rp2,zx.weak h' p l⟩
 | rt a s=>exact fun h'=>h'
 | bk a s=>exact fun h'=>h'
 | ct a s=>exact fun h'=>h'
 | exc e a s=>exact fun h'=>h'
 | no=>exact fun h'=>h'⟩
theorem zL (h1:WS X Θ st ms) (h2:WSs X Θ qU mr):WSs X Θ (st::qU) (M.zO ms mr):=by with_unfolding_all exact zMe h1 h2
theorem zOu (he:ME X Θ e m) (hs:swapsWith e none pos.line X.env=pure false:=by rfl):MS X Θ (.Expr e pos) (M.z9 m):=(zOd he hs).imp fun D σ H ⟨ρ,σ',S,st,rp,h⟩=>⟨ρ,σ',S,st,rp,zx.stm h fun ρ1 H1 x X1 S1 p1 l1 rp1 rx h1=>h1.nx rp1 (st.mono p1 l1)⟩
theorem zZ (he:WE X Θ e m) (hs:swapsWith e none pos.line X.env=pure false:=by rfl):WS X Θ (.Expr e pos) (M.z9 m):=by with_unfolding_all exact zOu he hs
theorem zRH (he:ME X Θ e m):MS X Θ (.Return (some e) pos) (M.jn m):=(zQC he).imp fun D σ H ⟨ρ,σ',S,st,rp,h⟩=>⟨ρ,σ',S,st,rp,zx.stm h fun ρ1 H1 x X1 S1 p1 l1 rp1 rx h1=>h1.rt rp1 rx⟩
theorem z8 (he:WE X Θ e m):WS X Θ (.Return (some e) pos) (M.jn m):=by with_unfolding_all exact zRH he
theorem zQW {i:Nat}{x:Str}{pos':Pos} (hN:X.N.Nodup) (hi:X.N[i]? = some x) (hx:Loc X.env.scope x) (he:ME X Θ e m) (hs:swapsWith e (some (.Name x pos')) pos.line X.env=pure false:=by kernel_rfl) (hf:X.fn x=true\/X.env.scope.names.lookup x=some .local:=by first | exact .inl rfl | exact .inr rfl | assumption) :
  MS X Θ (.Assign [.Name x pos'] e pos) (M.zh i m):=(zP3 hN hi hx he hs hf).imp fun D σ H ⟨ρ,σ',S,st,rp,h⟩=>⟨ρ,σ',S,st,rp,zx.stm h fun ρ1 H1 x X1 S1 p1 l1 rp1 rx h1=>h1.nx rp1 ((st.mono p1 l1).set rx i)⟩
theorem jD {i:Nat}{x:Str}{pos':Pos} (hN:X.N.Nodup) (hi:X.N[i]? = some x) (hx:Loc X.env.scope x) (he:WE X Θ e m) (hs:swapsWith e (some (.Name x pos')) pos.line X.env=pure false:=by kernel_rfl) (hf:X.fn x=true\/X.env.scope.names.lookup x=some .local:=by first | exact .inl rfl | exact .inr rfl | assumption) :
  WS X Θ (.Assign [.Name x pos'] e pos) (M.zh i m):=by with_unfolding_all exact zQW (i:=i) (x:=x) (pos':=pos') hN hi hx he hs hf
theorem zSC {c:Expr}{a b:List Stmt}{tc:M.TM}{ma mb:M.SM} (hc:MT X Θ c tc) (ha:MSs X Θ a ma) (hb:MSs X Θ b mb):MS X Θ (.If c a b pos) (M.sIf tc ma mb):=(zRk hc ha hb).imp fun D σ H ⟨ρ,σ',S,st,rp,h⟩=>⟨ρ,σ',S,st,rp,zx.stm h fun ρ1 H1 k k' S1 p1 l1 rp1 ek h1=>by
 cases ek
 cases k with
 | true=>exact zCU ⟨ρ1,σ',S1,st.mono p1 l1,rp1,h1⟩
 | false=>exact zCV ⟨ρ1,σ',S1,st.mono p1 l1,rp1,h1⟩⟩
theorem jC {c:Expr}{a b:List Stmt}{tc:M.TM}{ma mb:M.SM} (hc:WT X Θ c tc) (ha:WSs X Θ a ma) (hb:WSs X Θ b mb):WS X Θ (.If c a b pos) (M.sIf tc ma mb):=by with_unfolding_all exact zSC (c:=c) (a:=a) (b:=b) (tc:=tc) (ma:=ma) (mb:=mb) hc ha hb
end
noncomputable def RdG (K:PySem.W.Frag) (Θ:Tab) (js:List Nat) (g:M.GM):TG:=fun v σ H Q=>∃ ρ σ' S d,jo K ρ H σ' σ/\zX K Θ ρ S H/\zN K ρ H d v/\∃ σ1,g d σ'=some σ1 /\
 ∀ H' σ2,Le H H'->zX K Θ ρ S H'->jo K ρ H' σ1 σ2->σ2.length=σ.length->(∀ j,j∉js->σ2[j]? = σ[j]?)->Q σ2 H'
noncomputable abbrev MG (X:Cx) (Θ:Tab) (js:List Nat) (tg:Expr) (g:M.GM):Prop:=PG X tg (RdG X.K Θ js g)
@[irreducible] noncomputable def WG (X:Cx) (Θ:Tab) (js:List Nat) (tg:Expr) (g:M.GM):Prop:=MG X Θ js tg g
theorem PG.imp {X:Cx}{e:Expr}{t t':TG} (h:PG X e t) (i:∀ v σ H Q,t' v σ H Q->t v σ H Q):PG X e t':=fun pins s σ H v u Q I r q=>h pins s σ H v u Q I r (i v σ H Q q)
theorem zPA {X:Cx}{Θ:Tab}{pos:Pos}{i:Nat}{x:Str} (hN:X.N.Nodup) (hi:X.N[i]? = some x) (hx:Loc X.env.scope x) (hf:X.fn x=true\/X.env.scope.names.lookup x=some .local:=by first | exact .inl rfl | exact .inr rfl | assumption) :
  MG X Θ [i] (.Name x pos) (M.jW i):=(zPG hN hi hx hf).imp fun v σ H Q ⟨ρ,σ',S,d,st,rp,rv,σ1,e,h⟩=>by
 cases e
 exact h H _ (Le.refl _) rp (st.set rv i) (by rw[List.length_set]) fun j hj=>List.getElem?_set_ne (fun z=>hj (by rw[z];simp))
theorem yl {X:Cx}{Θ:Tab}{pos:Pos}{i:Nat}{x:Str} (hN:X.N.Nodup) (hi:X.N[i]? = some x) (hx:Loc X.env.scope x) (hf:X.fn x=true\/X.env.scope.names.lookup x=some .local:=by first | exact .inl rfl | exact .inr rfl | assumption) :
  WG X Θ [i] (.Name x pos) (M.jW i):=by with_unfolding_all exact zPA (X:=X) (Θ:=Θ) (pos:=pos) (i:=i) (x:=x) hN hi hx hf
structure ItR (K:PySem.W.Frag) (Θ:Tab) (ρ:List Addr) (H:Hp) (J:It) (xs:List M.D) (g:M.Gd):Prop where
 go:∀ (i:Nat) ρ' S' H',ρ <+: ρ'->Le H H'->zX K Θ ρ' S' H'->M.zl g S'=true->i < xs.length->J.go i H'
 yld:∀ (i:Nat) ρ' S' H' v H2,ρ <+: ρ'->Le H H'->zX K Θ ρ' S' H'->M.zl g S'=true->i < xs.length->J.yld i H' v H2->∃ d,xs[i]? = some d/\zN K ρ' H2 d v/\Le H' H2/\zX K Θ ρ' S' H2
 stop:∀ ρ' S' H',ρ <+: ρ'->Le H H'->zX K Θ ρ' S' H'->M.zl g S'=true->J.stop xs.length H'
noncomputable def RdI (K:PySem.W.Frag) (Θ:Tab) (m:M.IM):TI:=fun σ H R=>∃ ρ σ' S,jo K ρ H σ' σ/\zX K Θ ρ S H /\
 zG K Θ (fun ρ' H' (p:List M.D×M.Gd) (J:It)=>ItR K Θ ρ' H' J p.1 p.2) ρ H ((m σ' S).bind fun p s=>if M.zl p.2 s then .ok p s else .no) R
noncomputable abbrev MI (X:Cx) (Θ:Tab) (tg iter:Expr) (m:M.IM):Prop:=PI X tg iter (RdI X.K Θ m)
@[irreducible] noncomputable def WI (X:Cx) (Θ:Tab) (tg iter:Expr) (m:M.IM):Prop:=MI X Θ tg iter m
theorem PI.imp {X:Cx}{tg e:Expr}{t t':TI} (h:PI X tg e t) (i:∀ σ H R,t' σ H R->t σ H R):PI X tg e t':=fun pins s σ H R I q=>h pins s σ H R I (i σ H R q)
theorem PI.or {X:Cx}{tg e:Expr}{t t':TI} (h:PI X tg e t) (h':PI X tg e t'):PI X tg e (fun σ H R=>t σ H R\/t' σ H R):=fun pins s σ H R I q=>by
 rcases q with q | q
 ·exact h pins s σ H R I q
 ·exact h' pins s σ H R I q
section
variable {X:Cx}{Θ:Tab}{tg e:Expr}{m:M.EM}
theorem zMM {K:PySem.W.Frag}{ρ:List Addr}{H:Hp}{i:Nat}{a:Addr}{ds:List M.D} (ha:ρ[i]? = some a):ItR K Θ ρ H (Itl K a) ds [(i,.lst ds)]:=by
 have key:∀ {ρ':List Addr}{S':M.S}{H':Hp},ρ <+: ρ'->zX K Θ ρ' S' H'->M.zl [(i,.lst ds)] S'=true->∃ zs,H' a=some (.lst zs)/\zP K ρ' H' ds zs:=fun {ρ' S' H'} p rp g=>by
  have g':S'[i]? = some (M.O.lst ds):=by simpa [M.zl] using g
  obtain⟨b,e1,zs,e2,r⟩:=rp.obj i _ g'
  rw[zBp p ha] at e1;cases e1
  exact⟨zs,e2,r⟩
 refine⟨fun j ρ' S' H' p l rp g hj=>?_,fun j ρ' S' H' v H2 p l rp g hj y=>?_,fun ρ' S' H' p l rp g=>?_⟩
 ·obtain⟨zs,e,r⟩:=key p rp g
  obtain⟨v,e1,_⟩:=r.get (i:=j) (d:=ds[j]) (by simp[hj])
  exact⟨zs,v,SqL.of e,e1⟩
 ·obtain⟨zs,e,r⟩:=key p rp g
  obtain⟨v',e1,rv⟩:=r.get (i:=j) (d:=ds[j]) (by simp[hj])
  obtain⟨rfl,y2⟩:=y
  have y3:=y2 zs (SqL.of e)
  rw[e1] at y3;cases y3
  exact⟨ds[j],by simp[hj],rv,Le.refl _,rp⟩
 ·obtain⟨zs,e,r⟩:=key p rp g
  exact⟨zs,SqL.of e,Nat.le_of_eq r.length.symm⟩
theorem zQD {K:PySem.W.Frag}{ρ:List Addr}{H:Hp}{a:Addr}{ds:List M.D}{xs:List V} (hq:zFe K H a xs) (r:zP K ρ H ds xs):ItR K Θ ρ H (Itl K a) ds []:=by
 refine⟨fun j ρ' S' H' p l rp g hj=>?_,fun j ρ' S' H' v H2 p l rp g hj y=>?_,fun ρ' S' H' p l rp g=>?_⟩
 ·obtain⟨v,e1,_⟩:=r.get (i:=j) (d:=ds[j]) (by simp[hj])
  exact⟨xs,v,(l.rol hq).sq,e1⟩
 ·obtain⟨v',e1,rv⟩:=(r.mono p l).get (i:=j) (d:=ds[j]) (by simp[hj])
  obtain⟨rfl,y2⟩:=y
  have y3:=y2 xs (l.rol hq).sq
  rw[e1] at y3;cases y3
  exact⟨ds[j],by simp[hj],rv,Le.refl _,rp⟩
 ·exact⟨xs,(l.rol hq).sq,Nat.le_of_eq r.length.symm⟩
theorem zOF {K:PySem.W.Frag}{ρ:List Addr}{H:Hp}{a:Addr}{ds:List M.D}{xs:List V} (hq:SqT K H a xs) (r:zP K ρ H ds xs):ItR K Θ ρ H (Itt K a) ds []:=by
 refine⟨fun j ρ' S' H' p l rp g hj=>?_,fun j ρ' S' H' v H2 p l rp g hj y=>?_,fun ρ' S' H' p l rp g=>?_⟩
 ·obtain⟨v,e1,_⟩:=r.get (i:=j) (d:=ds[j]) (by simp[hj])
  exact⟨xs,v,l.sqT hq,e1⟩
 ·obtain⟨v',e1,rv⟩:=(r.mono p l).get (i:=j) (d:=ds[j]) (by simp[hj])
  obtain⟨rfl,y2⟩:=y
  have y3:=y2 xs (l.sqT hq)
  rw[e1] at y3;cases y3
  exact⟨ds[j],by simp[hj],rv,Le.refl _,rp⟩
 ·exact⟨xs,l.sqT hq,Nat.le_of_eq r.length.symm⟩
theorem zN9 {K:PySem.W.Frag}{ρ:List Addr}{H:Hp}{x:M.T} (ok:okT x):ItR K Θ ρ H (Its (ofT x)) (x.map fun c=>.str [c]) []:=by
 refine⟨fun j ρ' S' H' p l rp g hj=>?_,fun j ρ' S' H' v H2 p l rp g hj y=>?_,fun ρ' S' H' p l rp g=>?_⟩
 ·rw[List.length_map] at hj
  show j < (ofT x).length
  rw[ji];exact hj
 ·obtain⟨rfl,c,hc,rfl⟩:=y
  have hc':x[j]? = some c:=by simpa [ofT] using hc
  exact⟨.str [c],by rw[List.getElem?_map,hc'];rfl,⟨rfl,zAu ok fun d hd=>by rw[List.mem_singleton.mp hd];exact List.mem_of_getElem? hc'⟩,Le.refl _,rp⟩
 ·show (ofT x).length <= _
  rw[ji,List.length_map];exact Nat.le_refl _
theorem zLl {K:PySem.W.Frag}{ρ:List Addr}{H:Hp}{lo hi:Int}:ItR K Θ ρ H (Itr lo (hi - lo).toNat) (M.qH lo hi) []:=by
 refine⟨fun j ρ' S' H' p l rp g hj=>?_,fun j ρ' S' H' v H2 p l rp g hj y=>?_,fun ρ' S' H' p l rp g=>?_⟩
 ·show j < _
  simpa [M.qH] using hj
 ·obtain⟨rfl,rfl⟩:=y
  have hj':j < (hi - lo).toNat:=by simpa [M.qH] using hj
  exact⟨.int (lo+j),by unfold M.qH;rw[List.getElem?_map,List.getElem?_range hj'];rfl,rfl,Le.refl _,rp⟩
 ·show _ <= _
  simp[M.qH]
theorem zSc (he:ME X Θ e m):MI X Θ tg e (M.iE m):=(PI.or (zPJ he) (PI.or (zRX he) (zRP he))).imp fun σ H R ⟨ρ,σ',S,st,rp,h⟩=>by
 have h':zG X.K Θ _ ρ H (((m σ' S).bind M.itD).bind fun p s=>if M.zl p.2 s then .ok p s else .no) R:=h
 clear h
 cases hm:m σ' S with
 | no=>rw[hm] at h';exact h'.elim
 | exc a s=>rw[hm] at h';exact h'.elim
 | ok d S1 =>
  rw[hm] at h'
  have go:∀ {Q:VK},(∀ ρ1 H1 v,ρ <+: ρ1->Le H H1->zX X.K Θ ρ1 S1 H1->zN X.K ρ1 H1 d v->Q v H1)->RdE X.K Θ m σ H Q:=fun q=>⟨ρ,σ',S,st,rp,by rw[hm];exact q⟩
  cases d with
  | str x =>
   refine .inr (.inr (go fun ρ1 H1 v p l rp1 rv=>?_))
   have h2:zG X.K Θ _ ρ H ((if x.length <= M.SZ then .ok (x.map fun c=>M.D.str [c],[]) S1 else M.R.no).bind fun p s=>if M.zl p.2 s then .ok p s else .no) R:=h'
   by_cases hl:x.length <= M.SZ
   ·rw[if_pos hl] at h2
    exact⟨ofT x,rv.1,h2 ρ1 H1 _ p l rp1 (zN9 rv.2)⟩
   ·rw[if_neg hl] at h2
    exact h2.elim
  | tup ds =>
   refine .inr (.inl (go fun ρ1 H1 v p l rp1 rv=>?_))
   obtain⟨a,xs,rfl,hq,r⟩:=rv
   exact⟨a,rfl,⟨xs,hq⟩,h' ρ1 H1 _ p l rp1 (zOF hq r)⟩
  | ro ds =>
   refine .inl (go fun ρ1 H1 v p l rp1 rv=>?_)
   obtain⟨a,xs,rfl,hq,r⟩:=rv
   exact⟨a,rfl,⟨xs,hq.sq⟩,h' ρ1 H1 _ p l rp1 (zQD hq r)⟩
  | ref i =>
   have h2:zG X.K Θ _ ρ H ((match S1[i]? with
    | some (.lst xs)=>M.R.ok (xs,[(i,M.O.lst xs)]) S1
    | _=>.no).bind fun p s=>if M.zl p.2 s then .ok p s else .no) R:=h'
   cases q:S1[i]? with
   | none=>rw[q] at h2;exact h2.elim
   | some o =>
    rw[q] at h2
    cases o with
    | lst xs =>
     refine .inl (go fun ρ1 H1 v p l rp1 rv=>?_)
     obtain⟨a,rfl,e1⟩:=rv
     obtain⟨b,e2,zs,e3,r⟩:=rp1.obj i _ q
     rw[e1] at e2;cases e2
     have hg:M.zl [(i,M.O.lst xs)] S1=true:=by simp[M.zl,q]
     have h3:zG X.K Θ _ ρ H (if M.zl [(i,M.O.lst xs)] S1 then M.R.ok (xs,[(i,M.O.lst xs)]) S1 else .no) R:=h2
     rw[if_pos hg] at h3
     exact⟨a,rfl,⟨zs,SqL.of e3⟩,h3 ρ1 H1 _ p l rp1 (zMM e1)⟩
    | dct kvs=>exact h2.elim
    | fdc _=>exact h2.elim
    | ins c fs=>exact h2.elim
  | non=>exact h'.elim
  | bl b=>exact h'.elim
  | int b=>exact h'.elim
  | ty b=>exact h'.elim
theorem zFC (he:WE X Θ e m):WI X Θ tg e (M.iE m):=by with_unfolding_all exact zSc he
theorem zKg {p pos:Pos} (hg:Gl X "range") (hm:X.mg "range" = none) (he:ME X Θ e m) (hs:zo e=true:=by rfl):MI X Θ tg (.Call (.Name "range" p) [e] [] pos) (M.yG m) :=
 (zLF hg hm (zFj he zHE hs) (qP hs)).imp fun σ H R ⟨ρ,σ',S,st,rp,h⟩=>⟨ρ,σ',S,st,rp,by
  have h':zG X.K Θ _ ρ H (((m σ' S).bind fun x s=>match x with
   | .int j=>if j.natAbs < 4611686018427387904 then M.R.ok (M.qH 0 j,([]:M.Gd)) s else .no
   | _=>.no).bind fun p s=>if M.zl p.2 s then .ok p s else .no) R:=h
  show zG X.K Θ _ ρ H ((m σ' S).bind fun x s=>(M.R.ok [] s).bind fun xs s=>.ok (x::xs) s) _
  cases hm:m σ' S with
  | no=>rw[hm] at h';exact h'.elim
  | exc a s=>rw[hm] at h';exact h'.elim
  | ok d S1 =>
   rw[hm] at h'
   intro ρ1 H1 vs p l rp1 rv
   obtain⟨v,ys,rfl,rv,hy⟩:=rv
   cases hy
   cases d with
   | int j =>
    cases rv
    have h2:zG X.K Θ _ ρ H ((if j.natAbs < 4611686018427387904 then M.R.ok (M.qH 0 j,([]:M.Gd)) S1 else .no).bind fun p s=>if M.zl p.2 s then .ok p s else .no) R:=h'
    by_cases hj:j.natAbs < 4611686018427387904
    ·rw[if_pos hj] at h2
     refine⟨j,rfl,by omega,by omega,?_⟩
     have:=h2 ρ1 H1 _ p l rp1 (zLl (lo:=0) (hi:=j))
     rw[Int.sub_zero] at this
     exact this
    ·rw[if_neg hj] at h2
     exact h2.elim
   | _=>exact h'.elim⟩
theorem Qk {p pos:Pos} (hg:Gl X "range") (hm:X.mg "range" = none) (he:WE X Θ e m) (hs:zo e=true:=by rfl):WI X Θ tg (.Call (.Name "range" p) [e] [] pos) (M.yG m):=by with_unfolding_all exact zKg (p:=p) (pos:=pos) hg hm he hs
end
section
variable {X:Cx}{Θ:Tab}{pos:Pos}
theorem zMF {c:Expr}{body:List Stmt}{tc:M.TM}{mb:M.SM} (hp:PassesOwn (model X.prog X.w) X.A X.env X.xe) (hc:MT X Θ c tc) (hb:MSs X Θ body mb):MS X Θ (.While c body [] pos) (M.zFJ tc mb) :=
 (zMr hp hc hb).imp fun D σ H ⟨ρ,σ',S,st,rp,h⟩=>by
  refine⟨fun k σ2 H2=>∃ ρ2 σ2' S2,jo X.K ρ2 H2 σ2' σ2/\zX X.K Θ ρ2 S2 H2/\zx X.K Θ ρ2 H2 (M.qc k tc mb σ2' S2) D,⟨M.zID,ρ,σ',S,st,rp,h⟩,?_⟩
  rintro k σ2 H2 ⟨ρ2,σ2',S2,st2,rp2,h2⟩
  cases k with
  | zero=>exact h2.elim
  | succ k =>
   refine⟨ρ2,σ2',S2,st2,rp2,zx.stm h2 fun ρ3 H3 b b' S3 p3 l3 rp3 eb h3=>?_⟩
   cases eb
   cases b with
   | false=>exact zCV (zx.nx (σ:=σ2) h3 rp3 (st2.mono p3 l3))
   | true =>
    refine zCU ⟨fun σ4 H4=>∃ ρ4 σ4' S4,jo X.K ρ4 H4 σ4' σ4/\zX X.K Θ ρ4 S4 H4/\zx X.K Θ ρ4 H4 (M.qc k tc mb σ4' S4) D,fun σ4 H4 q=>⟨k,Nat.lt_succ_self k,q⟩,ρ3,σ2',S3,st2.mono p3 l3,rp3,?_⟩
    have h4:zx X.K Θ ρ3 H3 (match mb σ2' S3 with
     | .nx σ s=>M.qc k tc mb σ s
     | .ct σ s=>M.qc k tc mb σ s
     | .bk σ s=>.nx σ s
     | r=>r) D:=h3
    revert h4
    cases mb σ2' S3 with
    | nx a s=>exact fun h4 ρ4 H4 σ4 p4 l4 rp4 st4=>⟨ρ4,a,s,st4,rp4,zx.weak h4 p4 l4⟩
    | ct a s=>exact fun h4 ρ4 H4 σ4 p4 l4 rp4 st4=>⟨ρ4,a,s,st4,rp4,zx.weak h4 p4 l4⟩
    | bk a s=>exact fun h4=>h4
    | rt a s=>exact fun h4=>h4
    | exc e a s=>exact fun h4=>h4
    | no=>exact fun h4=>h4
theorem zJi {c:Expr}{body:List Stmt}{tc:M.TM}{mb:M.SM} (hp:PassesOwn (model X.prog X.w) X.A X.env X.xe) (hc:WT X Θ c tc) (hb:WSs X Θ body mb):WS X Θ (.While c body [] pos) (M.zFJ tc mb):=by with_unfolding_all exact zMF (c:=c) (body:=body) (tc:=tc) (mb:=mb) hp hc hb
theorem zR8 {K:PySem.W.Frag}{g:M.GM}{js:List Nat}{mb:M.SM}{xs:List M.D}{gd:M.Gd}{J:It}{ρ1:List Addr}{H1:Hp}{σ:St}{σ':M.St}{S1:M.S}{D:zCj} (itr:ItR K Θ ρ1 H1 J xs gd) (st:jo K ρ1 H1 σ' σ) (rp1:zX K Θ ρ1 S1 H1) (hgd:M.zl gd S1=true) (h2:zx K Θ ρ1 H1 (M.yQ gd (M.yy g mb) xs σ' S1) D) :
  ∃ W:Nat->Nat->St->Hp->Prop,(∃ m,W 0 m σ H1)/\∀ i m σ H,W i m σ H ->
   (J.stop i H/\D.nx σ H)\/(J.go i H/\∃ N:St->Hp->Prop,(∀ σ' H',N σ' H'->∃ m',m' < m/\W (i+1) m' σ' H')/\∀ x H',J.yld i H x H'->RdG K Θ js g x σ H' fun σ2 H2=>RdS K Θ mb { D with nx:=N,ct:=N,bk:=D.nx } σ2 H2):=by
 refine⟨fun i k σ2 H2=>∃ ρ2 σ2' S2,ρ1 <+: ρ2/\Le H1 H2/\jo K ρ2 H2 σ2' σ2/\zX K Θ ρ2 S2 H2/\M.zl gd S2=true/\k=xs.length - i/\i <= xs.length/\zx K Θ ρ2 H2 (M.yQ gd (M.yy g mb) (xs.drop i) σ2' S2) D,
  ⟨xs.length,ρ1,σ',S1,List.prefix_refl _,Le.refl _,st,rp1,hgd,rfl,Nat.zero_le _,h2⟩,?_⟩
 rintro i k σ2 H2 ⟨ρ2,σ2',S2,p2,l2,st2,rp2,g2,rfl,hi2,h3⟩
 by_cases hlt:i < xs.length
 ·refine .inr ⟨itr.go i ρ2 S2 H2 p2 l2 rp2 g2 hlt,fun σ3 H3=>∃ ρ3 σ3' S3,ρ1 <+: ρ3/\Le H1 H3/\jo K ρ3 H3 σ3' σ3/\zX K Θ ρ3 S3 H3/\M.zl gd S3=true/\zx K Θ ρ3 H3 (M.yQ gd (M.yy g mb) (xs.drop (i+1)) σ3' S3) D,
   fun σ3 H3 ⟨ρ3,σ3',S3,a1,a2,a3,a4,a5,a6⟩=>⟨xs.length - (i+1),by omega,ρ3,σ3',S3,a1,a2,a3,a4,a5,rfl,hlt,a6⟩,fun x H' y=>?_⟩
  obtain⟨d,ed,rd,ld,rpd⟩:=itr.yld i ρ2 S2 H2 x H' p2 l2 rp2 g2 hlt y
  have edr:xs.drop i=d::xs.drop (i+1):=by
   obtain⟨_,e⟩:=List.getElem?_eq_some_iff.mp ed
   rw[List.drop_eq_getElem_cons hlt,e]
  rw[edr] at h3
  have h4:zx K Θ ρ2 H2 (match (match g d σ2' with | some σ'=>mb σ' S2 | none=>M.RS.no) with
   | .nx σ s=>if M.zl gd s then M.yQ gd (M.yy g mb) (xs.drop (i+1)) σ s else .no
   | .ct σ s=>if M.zl gd s then M.yQ gd (M.yy g mb) (xs.drop (i+1)) σ s else .no
   | .bk σ s=>.nx σ s
   | r=>r) D:=h3
  cases hgq:g d σ2' with
  | none=>rw[hgq] at h4;exact h4.elim
  | some σ1 =>
   rw[hgq] at h4
   refine⟨ρ2,σ2',S2,d,st2.mono (List.prefix_refl _) ld,rpd,rd,σ1,hgq,fun H'' σ3 le3 rp3 st3 _ _=>⟨ρ2,σ1,S2,st3,rp3,?_⟩⟩
   have h5:=zx.weak h4 (List.prefix_refl _) (ld.trans le3)
   have h6:zx K Θ ρ2 H'' (match mb σ1 S2 with
    | .nx σ s=>if M.zl gd s then M.yQ gd (M.yy g mb) (xs.drop (i+1)) σ s else .no
    | .ct σ s=>if M.zl gd s then M.yQ gd (M.yy g mb) (xs.drop (i+1)) σ s else .no
    | .bk σ s=>.nx σ s
    | r=>r) D:=h5
   have more:∀ (a:M.St) (s:M.S),zx K Θ ρ2 H'' (if M.zl gd s then M.yQ gd (M.yy g mb) (xs.drop (i+1)) a s else .no) D->∀ ρ4 H4 σ4,ρ2 <+: ρ4->Le H'' H4->zX K Θ ρ4 s H4->jo K ρ4 H4 a σ4 ->
     ∃ ρ3 σ3' S3,ρ1 <+: ρ3/\Le H1 H4/\jo K ρ3 H4 σ3' σ4/\zX K Θ ρ3 S3 H4/\M.zl gd S3=true/\zx K Θ ρ3 H4 (M.yQ gd (M.yy g mb) (xs.drop (i+1)) σ3' S3) D:=fun a s h7 ρ4 H4 σ4 p4 l4 rp4 st4=>by
    by_cases hs:M.zl gd s=true
    ·rw[if_pos hs] at h7
     exact⟨ρ4,a,s,p2.trans p4,l2.trans (ld.trans (le3.trans l4)),st4,rp4,hs,zx.weak h7 p4 l4⟩
    ·rw[if_neg hs] at h7;exact h7.elim
   revert h6
   cases mb σ1 S2 with
   | nx a s=>exact fun h6=>more a s h6
   | ct a s=>exact fun h6=>more a s h6
   | bk a s=>exact fun h6=>h6
   | rt a s=>exact fun h6=>h6
   | exc e a s=>exact fun h6=>h6
   | no=>exact fun h6=>h6
 ·have e:i=xs.length:=by omega
  subst e
  rw[List.drop_length] at h3
  exact .inl ⟨itr.stop ρ2 S2 H2 p2 l2 rp2 g2,zx.nx (σ:=σ2) h3 rp2 st2⟩
theorem zQB {tg iter:Expr}{body:List Stmt}{it:M.IM}{g:M.GM}{js:List Nat}{mb:M.SM} (hp:PassesOwn (model X.prog X.w) X.A X.env X.xe) (hc:X.calm=true) (hi:MI X Θ tg iter it) (hg:MG X Θ js tg g) (hb:MSs X Θ body mb)
  (hs:∀ x,foldedSetIterable iter X.env x=pure x:=by intro _;rfl):MS X Θ (.For tg iter body [] pos) (M.ZJ it g mb) :=
 (zPe hp hc hi hg hb hs).imp fun D σ H ⟨ρ,σ',S,st,rp,h⟩=>⟨ρ,σ',S,st,rp,by
  have h':zx X.K Θ ρ H ((it σ' S).stm σ' fun p s=>if M.zl p.2 s=true then M.yQ p.2 (M.yy g mb) p.1 σ' s else .no) D:=h
  cases hit:it σ' S with
  | no=>rw[hit] at h';exact h'.elim
  | exc a s=>rw[hit] at h';exact h'.elim
  | ok p S1 =>
   rw[hit] at h'
   obtain⟨xs,gd⟩:=p
   show zG X.K Θ _ ρ H (if M.zl gd S1 then M.R.ok (xs,gd) S1 else .no) _
   have h2:zx X.K Θ ρ H (if M.zl gd S1=true then M.yQ gd (M.yy g mb) xs σ' S1 else .no) D:=h'
   by_cases hgd:M.zl gd S1=true
   case neg=>rw[if_neg hgd] at h2;exact h2.elim
   rw[if_pos hgd] at h2
   rw[if_pos hgd]
   intro ρ1 H1 J p1 l1 rp1 (itr:ItR X.K Θ ρ1 H1 J xs gd)
   exact zR8 itr (st.mono p1 l1) rp1 hgd (zx.weak h2 p1 l1)⟩
theorem Js {tg iter:Expr}{body:List Stmt}{it:M.IM}{g:M.GM}{js:List Nat}{mb:M.SM} (hp:PassesOwn (model X.prog X.w) X.A X.env X.xe) (hc:X.calm=true) (hi:WI X Θ tg iter it) (hg:WG X Θ js tg g) (hb:WSs X Θ body mb)
  (hs:∀ x,foldedSetIterable iter X.env x=pure x:=by intro _;rfl):WS X Θ (.For tg iter body [] pos) (M.ZJ it g mb):=by with_unfolding_all exact zQB (tg:=tg) (iter:=iter) (body:=body) (it:=it) (g:=g) (js:=js) (mb:=mb) hp hc hi hg hb hs
theorem zPf {K:PySem.W.Frag}{n:Nat}{it:M.IM}{g:M.GM}{js:List Nat}{tc:M.TM}{me:M.EM}{σ:St}{σ':M.St}{S:M.S}{ρ:List Addr}{H:Hp}{R:List V->Hp->Prop} (st:jo K ρ H σ' σ) (rp:zX K Θ ρ S H) (hj:∀ j∈js,σ.length <= j)
  (h:zG K Θ (zP K) ρ H (M.ZG n it g tc me σ' S) R) :
  RdI K Θ it σ H fun J H1=>∃ W:Nat->Nat->List V->Hp->Prop,(∃ m,W 0 m [] H1)/\∀ i m ys H2,W i m ys H2->ys.length <= sizeLine /\
   ((J.stop i H2/\R ys H2) \/
    (J.go i H2/\∀ x H3,J.yld i H2 x H3->RdG K Θ js g x (σ++List.replicate n none) H3 fun σ2 H4=>Wk (σ++List.replicate n none) σ2/\RdT K Θ tc σ2 H4 fun b H5 =>
     if b=true then RdE K Θ me σ2 H5 fun y H6=>∃ m',m' < m/\W (i+1) m' (ys++[y]) H6 else ∃ m',m' < m/\W (i+1) m' ys H5)):=by
 refine⟨ρ,σ',S,st,rp,?_⟩
 have h':zG K Θ (zP K) ρ H ((it σ' S).bind fun p s=>if p.1.length <= M.SZ/\M.zl p.2 s=true then M.yh p.2 (M.yd n g tc me σ') p.1 s else .no) R:=h
 cases hit:it σ' S with
 | no=>rw[hit] at h';exact h'.elim
 | exc a s=>rw[hit] at h';exact h'.elim
 | ok p S1 =>
  rw[hit] at h'
  obtain⟨xs,gd⟩:=p
  show zG K Θ _ ρ H (if M.zl gd S1 then M.R.ok (xs,gd) S1 else .no) _
  have h2:zG K Θ (zP K) ρ H (if xs.length <= M.SZ/\M.zl gd S1=true then M.yh gd (M.yd n g tc me σ') xs S1 else .no) R:=h'
  by_cases hgd:xs.length <= M.SZ/\M.zl gd S1=true
  case neg=>rw[if_neg hgd] at h2;exact h2.elim
  rw[if_pos hgd] at h2
  rw[if_pos hgd.2]
  intro ρ1 H1 J p1 l1 rp1 (itr:ItR K Θ ρ1 H1 J xs gd)
  refine⟨fun i k ys H2=>∃ ρ2 S2 ds,ρ1 <+: ρ2/\Le H1 H2/\zX K Θ ρ2 S2 H2/\M.zl gd S2=true/\zP K ρ2 H2 ds ys/\ds.length <= i/\k=xs.length - i/\i <= xs.length/\zG K Θ (zP K) ρ2 H2 ((M.yh gd (M.yd n g tc me σ') (xs.drop i) S2).bind fun es s=>.ok (ds++es) s) R,
   ⟨xs.length,ρ1,S1,[],List.prefix_refl _,Le.refl _,rp1,hgd.2,rfl,Nat.le_refl _,rfl,Nat.zero_le _,?_⟩,?_⟩
  ·have h3:=zG.weak h2 p1 l1
   revert h3
   show zG K Θ (zP K) ρ1 H1 (M.yh gd (M.yd n g tc me σ') xs S1) R->_
   rw[List.drop_zero]
   cases M.yh gd (M.yd n g tc me σ') xs S1 with
   | ok a s=>exact fun h3=>h3
   | exc e s=>exact fun h3=>h3
   | no=>exact fun h3=>h3
  rintro i k ys H2 ⟨ρ2,S2,ds,p2,l2,rp2,g2,rds,hdl,rfl,hi2,h3⟩
  refine⟨by rw[<- rds.length,<- Za];omega,?_⟩
  by_cases hlt:i < xs.length
  ·refine .inr ⟨itr.go i ρ2 S2 H2 p2 l2 rp2 g2 hlt,fun x H3 y=>?_⟩
   obtain⟨d,ed,rd,ld,rpd⟩:=itr.yld i ρ2 S2 H2 x H3 p2 l2 rp2 g2 hlt y
   have edr:xs.drop i=d::xs.drop (i+1):=by
    obtain⟨_,e⟩:=List.getElem?_eq_some_iff.mp ed
    rw[List.drop_eq_getElem_cons hlt,e]
   rw[edr] at h3
   have h4:zG K Θ (zP K) ρ2 H2 (((match g d (σ'++List.replicate n none) with
     | none=>M.R.no
     | some σ1=>(tc σ1 S2).bind fun b s=>if b then (me σ1 s).bind fun d s=>.ok (some d) s else .ok none s).bind fun o s =>
      if M.zl gd s then (M.yh gd (M.yd n g tc me σ') (xs.drop (i+1)) s).bind fun ys s=>.ok (match o with | some y=>y::ys | none=>ys) s else .no).bind fun es s=>.ok (ds++es) s) R:=h3
   cases hgq:g d (σ'++List.replicate n none) with
   | none=>rw[hgq] at h4;exact h4.elim
   | some σ1 =>
    rw[hgq] at h4
    refine⟨ρ2,σ'++List.replicate n none,S2,d,((st.mono (p1.trans p2) (l1.trans (l2.trans ld))).more n),rpd,rd,σ1,hgq,fun H4 σ2 le4 rp4 st4 hl4 hj4=>⟨⟨hl4.symm,fun j v e=>?_⟩,ρ2,σ1,S2,st4,rp4,?_⟩⟩
    ·by_cases hjj:j∈js
     ·rw[List.getElem?_append_right (hj j hjj),List.getElem?_replicate] at e
      split at e<;>cases e
     ·rw[hj4 j hjj];exact e
    ·have h5:=zG.weak h4 (List.prefix_refl _) (ld.trans le4)
     dsimp only at h5
     cases htc:tc σ1 S2 with
     | no=>rw[htc] at h5;exact h5.elim
     | exc a s=>rw[htc] at h5;exact h5.elim
     | ok b S3 =>
      rw[htc] at h5
      intro ρ5 H5 b' p5 l5 rp5 eb
      cases eb
      have next:∀ (o:Option M.D) (s:M.S) (ρ6:List Addr) (H6:Hp) (zs:List V),ρ2 <+: ρ6->Le H4 H6->zX K Θ ρ6 s H6->zP K ρ6 H6 (match o with | some y=>ds++[y] | none=>ds) zs ->
        zG K Θ (zP K) ρ6 H6 ((if M.zl gd s then (M.yh gd (M.yd n g tc me σ') (xs.drop (i+1)) s).bind fun ys s=>.ok (match o with | some y=>y::ys | none=>ys) s else .no).bind fun es s=>.ok (ds++es) s) R ->
        ∃ m',m' < xs.length - i/\∃ ρ2 S2 es,ρ1 <+: ρ2/\Le H1 H6/\zX K Θ ρ2 S2 H6/\M.zl gd S2=true/\zP K ρ2 H6 es zs/\es.length <= i+1/\m'=xs.length - (i+1)/\i+1 <= xs.length /\
         zG K Θ (zP K) ρ2 H6 ((M.yh gd (M.yd n g tc me σ') (xs.drop (i+1)) S2).bind fun fs s=>.ok (es++fs) s) R:=fun o s ρ6 H6 zs p6 l6 rp6 rz h6=>by
       by_cases hs:M.zl gd s=true
       case neg=>rw[if_neg hs] at h6;exact h6.elim
       rw[if_pos hs] at h6
       refine⟨xs.length - (i+1),by omega,ρ6,s,_,p2.trans p6,l2.trans (ld.trans (le4.trans l6)),rp6,hs,rz,?_,rfl,hlt,?_⟩
       ·cases o<;>simp<;>omega
       ·revert h6
        cases M.yh gd (M.yd n g tc me σ') (xs.drop (i+1)) s with
        | ok a s2 =>
         intro h6
         cases o with
         | none=>exact h6
         | some y =>
          show zG K Θ (zP K) ρ6 H6 (.ok (ds++[y]++a) s2) R
          rw[List.append_assoc]
          exact h6
        | exc e s=>exact fun h6=>h6
        | no=>exact fun h6=>h6
      cases b with
      | false=>exact zCV (next none S3 ρ5 H5 ys p5 l5 rp5 (rds.mono p5 (ld.trans (le4.trans l5))) (zG.weak h5 p5 l5))
      | true =>
       refine zCU ⟨ρ5,σ1,S3,st4.mono p5 l5,rp5,?_⟩
       have h6:=zG.weak h5 p5 l5
       cases hme:me σ1 S3 with
       | no =>
        have h7:zG K Θ (zP K) ρ5 H5 ((((me σ1 S3).bind fun d s=>M.R.ok (some d) s).bind fun o s=>if M.zl gd s then (M.yh gd (M.yd n g tc me σ') (xs.drop (i+1)) s).bind fun ys s=>.ok (match o with | some y=>y::ys | none=>ys) s else .no).bind fun es s=>.ok (ds++es) s) R:=h6
        rw[hme] at h7;exact h7.elim
       | exc a s =>
        have h7:zG K Θ (zP K) ρ5 H5 ((((me σ1 S3).bind fun d s=>M.R.ok (some d) s).bind fun o s=>if M.zl gd s then (M.yh gd (M.yd n g tc me σ') (xs.drop (i+1)) s).bind fun ys s=>.ok (match o with | some y=>y::ys | none=>ys) s else .no).bind fun es s=>.ok (ds++es) s) R:=h6
        rw[hme] at h7;exact h7.elim
       | ok y S6 =>
        have h7:zG K Θ (zP K) ρ5 H5 ((((me σ1 S3).bind fun d s=>M.R.ok (some d) s).bind fun o s=>if M.zl gd s then (M.yh gd (M.yd n g tc me σ') (xs.drop (i+1)) s).bind fun ys s=>.ok (match o with | some y=>y::ys | none=>ys) s else .no).bind fun es s=>.ok (ds++es) s) R:=h6
        rw[hme] at h7
        intro ρ6 H6 v p6 l6 rp6 rv
        exact next (some y) S6 ρ6 H6 (ys++[v]) (p5.trans p6) (l5.trans l6) rp6 ((rds.mono (p5.trans p6) (ld.trans (le4.trans (l5.trans l6)))).app ⟨v,[],rfl,rv,rfl⟩) (zG.weak h7 p6 l6)
  ·have e:i=xs.length:=by omega
   subst e
   rw[List.drop_length] at h3
   refine .inl ⟨itr.stop ρ2 S2 H2 p2 l2 rp2 g2,?_⟩
   have h4:zG K Θ (zP K) ρ2 H2 (.ok (ds++[]) S2) R:=h3
   rw[List.append_nil] at h4
   exact h4.here rp2 rds
end
end L2
namespace L2
open PySem PySem.Spec PyProof.Rows
section
variable {X:Cx}{Θ:Tab}{pos:Pos}{vars:List Str}{scope:Scope}{cl:List (Str×Addr)}{tg elt iter:Expr}{ifs:List Expr}{it:M.IM}{g:M.GM}{js:List Nat}{tc:M.TM}{me:M.EM}
theorem zFr {pins:List (Addr×Obj)}{s:Shared}{σ:St}{H:Hp} (I:Inv X pins σ H s) (hj:∀ j∈js,X.N.length <= j) {ρ:List Addr}{σ':M.St}{S:M.S} (st:jo X.K ρ H σ' σ) (rp:zX X.K Θ ρ S H) {Q:VK}{n:Nat}
  (h:zG X.K Θ (zP X.K) ρ H (M.ZG n it g tc me σ' S) fun ys H2=>∀ D,H2 D=none->Q (.ref D) (upd H2 D (.lst ys))) :
  zG1 n (RdI X.K Θ it) (RdG X.K Θ js g) (RdT X.K Θ tc) (RdE X.K Θ me) σ H Q:=zPf st rp (fun j hjj=>by rw[I.len];exact hj j hjj) h
theorem zOT (hc:X.calm=true) (C:jp X vars scope cl) (hi:MI X Θ tg iter it) (hg:∀ C fp s₂ H₂,MG (zw X vars scope cl C fp s₂ H₂) Θ js tg g) (ht:∀ C fp s₂ H₂,Jb (zw X vars scope cl C fp s₂ H₂) ifs (RdT X.K Θ tc))
  (he:∀ C fp s₂ H₂,ME (zw X vars scope cl C fp s₂ H₂) Θ elt me) (hj':(js.all fun j=>decide (X.N.length <= j))=true) (hs:∀ x,foldedSetIterable iter X.env x=pure x:=by intro _;rfl):ME X Θ (.ListComp elt [⟨tg,iter,ifs,0⟩] scope pos) (M.zCK vars.length it g tc me):=by
 intro pins s σ H Q I ⟨ρ,σ',S,st,rp,h⟩
 have hj:∀ j∈js,X.N.length <= j:=fun j hjj=>of_decide_eq_true (List.all_eq_true.mp hj' j hjj)
 exact zIv hc C hi hg ht he hs pins s σ H Q I (zFr I hj st rp (zG.bind h fun ρ1 H1 ds ys S1 p1 l1 rp1 r1 h1 D hD=>h1.alloc rp1 r1 hD))
theorem zK8 (hc:X.calm=true) (C:jp X vars scope cl) (hi:WI X Θ tg iter it) (hg:∀ C fp s₂ H₂,WG (zw X vars scope cl C fp s₂ H₂) Θ js tg g) (ht:∀ C fp s₂ H₂,Jb (zw X vars scope cl C fp s₂ H₂) ifs (RdT X.K Θ tc))
  (he:∀ C fp s₂ H₂,WE (zw X vars scope cl C fp s₂ H₂) Θ elt me) (hj':(js.all fun j=>decide (X.N.length <= j))=true) (hs:∀ x,foldedSetIterable iter X.env x=pure x:=by intro _;rfl):WE X Θ (.ListComp elt [⟨tg,iter,ifs,0⟩] scope pos) (M.zCK vars.length it g tc me):=by with_unfolding_all exact zOT hc C hi hg ht he hj' hs
theorem zJk {i:Nat}{y:Str}{py spos:Pos} (hc:X.calm=true) (C:jp X vars scope cl) (hN:X.N.Nodup) (hiy:X.N[i]? = some y) (hy:Loc X.env.scope y) (hi:MI X Θ tg iter it) (hg:∀ C fp s₂ H₂,MG (zw X vars scope cl C fp s₂ H₂) Θ js tg g) (ht:∀ C fp s₂ H₂,Jb (zw X vars scope cl C fp s₂ H₂) ifs (RdT X.K Θ tc))
  (he:∀ C fp s₂ H₂,ME (zw X vars scope cl C fp s₂ H₂) Θ elt me) (hj':(js.all fun j=>decide (X.N.length <= j))=true) (hs:∀ x,foldedSetIterable iter X.env x=pure x:=by intro _;rfl)
  (hsw:swapsWith (.ListComp elt [⟨tg,iter,ifs,0⟩] scope pos) (some (.Name y py)) spos.line X.env=pure true:=by rfl)
  (hf:X.fn y=true\/X.env.scope.names.lookup y=some .local:=by first | exact .inl rfl | exact .inr rfl | assumption) :
  MS X Θ (.Assign [.Name y py] (.ListComp elt [⟨tg,iter,ifs,0⟩] scope pos) spos) (M.zh i (M.zCK vars.length it g tc me)):=by
 intro pins s σ H D I ⟨ρ,σ',S,st,rp,h⟩
 have hj:∀ j∈js,X.N.length <= j:=fun j hjj=>of_decide_eq_true (List.all_eq_true.mp hj' j hjj)
 refine zKP hc C hN hiy hy hi hg ht he hs hsw hf pins s σ H D I (zFr I hj st rp ?_)
 have h':zx X.K Θ ρ H (((M.ZG vars.length it g tc me σ' S).bind fun ys s=>M.alloc (.lst ys) s).stm σ' fun d s=>.nx (σ'.set i (some d)) s) D:=h
 cases hm:M.ZG vars.length it g tc me σ' S with
 | no=>rw[hm] at h';exact h'.elim
 | exc a s=>rw[hm] at h';exact h'.elim
 | ok ds S1 =>
  rw[hm] at h'
  intro ρ1 H1 ys p1 l1 rp1 r1 E hE
  have h2:zx X.K Θ ρ H (.nx (σ'.set i (some (.ref S1.length))) (S1++[.lst ds])) D:=h'
  have rp2:zX X.K Θ (ρ1++[E]) (S1++[.lst ds]) (upd H1 E (.lst ys)):=rp1.alloc hE ⟨ys,qD,r1.mono (List.prefix_append _ _) (Le.new hE _)⟩
  exact h2 (ρ1++[E]) _ _ (p1.trans (List.prefix_append _ _)) (l1.trans (Le.new hE _)) rp2 (((st.mono p1 l1).mono (List.prefix_append _ _) (Le.new hE _)).set (show zN X.K (ρ1++[E]) (upd H1 E (.lst ys)) (.ref S1.length) (.ref E) from ⟨E,rfl,by rw[<- rp1.len];simp⟩) i)
theorem zHn {i:Nat}{y:Str}{py spos:Pos} (hc:X.calm=true) (C:jp X vars scope cl) (hN:X.N.Nodup) (hiy:X.N[i]? = some y) (hy:Loc X.env.scope y) (hi:WI X Θ tg iter it) (hg:∀ C fp s₂ H₂,WG (zw X vars scope cl C fp s₂ H₂) Θ js tg g) (ht:∀ C fp s₂ H₂,Jb (zw X vars scope cl C fp s₂ H₂) ifs (RdT X.K Θ tc))
  (he:∀ C fp s₂ H₂,WE (zw X vars scope cl C fp s₂ H₂) Θ elt me) (hj':(js.all fun j=>decide (X.N.length <= j))=true) (hs:∀ x,foldedSetIterable iter X.env x=pure x:=by intro _;rfl)
  (hsw:swapsWith (.ListComp elt [⟨tg,iter,ifs,0⟩] scope pos) (some (.Name y py)) spos.line X.env=pure true:=by rfl)
  (hf:X.fn y=true\/X.env.scope.names.lookup y=some .local:=by first | exact .inl rfl | exact .inr rfl | assumption) :
  WS X Θ (.Assign [.Name y py] (.ListComp elt [⟨tg,iter,ifs,0⟩] scope pos) spos) (M.zh i (M.zCK vars.length it g tc me)):=by with_unfolding_all exact zJk (i:=i) (y:=y) (py:=py) (spos:=spos) hc C hN hiy hy hi hg ht he hj' hs hsw hf
noncomputable def AdK (K:PySem.W.Frag) (Θ:Tab) (k:List M.D->M.S->M.R M.D) (r:List V->Hp->VK->Prop):Prop:=∀ ρ H S ds ys p Q,zX K Θ ρ S H->zP K ρ H ds ys->SqL K H p ys->zG K Θ (zN K) ρ H (k ds S) Q->r [.ref p] H Q
theorem zMW {x:Str}{p:Pos}{id:String}{pos2:Pos}{k:List M.D->M.S->M.R M.D}{r:List V->Hp->VK->Prop} (hcr:j9 X (.builtin id) r) (ad:AdK X.K Θ k r) (hgl:Gl X x) (hm:X.mg x=none) (hv:bootBuiltins x=some (.builtin id))
  (hc:X.calm=true) (C:jp X vars scope cl) (hi:MI X Θ tg iter it) (hg:∀ C fp s₂ H₂,MG (zw X vars scope cl C fp s₂ H₂) Θ js tg g) (ht:∀ C fp s₂ H₂,Jb (zw X vars scope cl C fp s₂ H₂) ifs (RdT X.K Θ tc))
  (he:∀ C fp s₂ H₂,ME (zw X vars scope cl C fp s₂ H₂) Θ elt me) (hj':(js.all fun j=>decide (X.N.length <= j))=true) (hs:∀ x,foldedSetIterable iter X.env x=pure x:=by intro _;rfl)
  (hn:x ≠ "__name__" := by decide) (hdb:(x == ("__debug__" : Str))=false:=by decide)
  :
  ME X Θ (.Call (.Name x p) [.ListComp elt [⟨tg,iter,ifs,0⟩] scope pos] [] pos2) (M.zEh k vars.length it g tc me):=by
 intro pins s σ H Q I ⟨ρ,σ',S,st,rp,h⟩
 have hj:∀ j∈js,X.N.length <= j:=fun j hjj=>of_decide_eq_true (List.all_eq_true.mp hj' j hjj)
 refine zH7 hcr hgl hm hv (zI4 (zIv (g:=RdG X.K Θ js g) (ti:=RdT X.K Θ tc) (te:=RdE X.K Θ me) hc C hi hg ht he hs) zLM (qP rfl)) hn hdb (qP rfl) rfl pins s σ H Q I ?_
 show zG1 vars.length _ _ _ _ σ H (fun x H1=>r [x] H1 Q)
 refine zFr I hj st rp (zG.bind h fun ρ1 H1 ds ys S1 p1 l1 rp1 r1 h1 D hD=>?_)
 exact ad ρ1 _ S1 ds ys D Q (rp1.aside hD _) (r1.mono (List.prefix_refl _) (Le.new hD _)) (SqL.of qD) (zG.weak h1 (List.prefix_refl _) (Le.new hD _))
theorem zFI {x:Str}{p:Pos}{id:String}{pos2:Pos}{k:List M.D->M.S->M.R M.D}{r:List V->Hp->VK->Prop} (hcr:j9 X (.builtin id) r) (ad:AdK X.K Θ k r) (hgl:Gl X x) (hm:X.mg x=none) (hv:bootBuiltins x=some (.builtin id))
  (hc:X.calm=true) (C:jp X vars scope cl) (hi:WI X Θ tg iter it) (hg:∀ C fp s₂ H₂,WG (zw X vars scope cl C fp s₂ H₂) Θ js tg g) (ht:∀ C fp s₂ H₂,Jb (zw X vars scope cl C fp s₂ H₂) ifs (RdT X.K Θ tc))
  (he:∀ C fp s₂ H₂,WE (zw X vars scope cl C fp s₂ H₂) Θ elt me) (hj':(js.all fun j=>decide (X.N.length <= j))=true) (hs:∀ x,foldedSetIterable iter X.env x=pure x:=by intro _;rfl)
  (hn:x ≠ "__name__" := by decide) (hdb:(x == ("__debug__" : Str))=false:=by decide)
  :
  WE X Θ (.Call (.Name x p) [.ListComp elt [⟨tg,iter,ifs,0⟩] scope pos] [] pos2) (M.zEh k vars.length it g tc me):=by with_unfolding_all exact zMW (x:=x) (p:=p) (id:=id) (pos2:=pos2) (k:=k) (r:=r) hcr ad hgl hm hv hc C hi hg ht he hj' hs hn hdb
end
noncomputable def SpM (K:PySem.W.Frag) (Θ:Tab) (n:Nat) (f:M.F):Sp:=fun vs H Q _=>∃ ρ ds S,ds.length=n/\zP K ρ H ds vs/\zX K Θ ρ S H/\zG K Θ (zN K) ρ H (f ds S) Q
noncomputable def zAj (m:M.AM) (n:Nat):Prop:=∀ σ s xs s',m σ s=.ok xs s'->xs.length=n
theorem ze:zAj M.zH 0:=fun σ s xs s' h=>by cases h;rfl
theorem zM {a:M.EM}{r:M.AM}{n:Nat} (h:zAj r n):zAj (M.zD a r) (n+1):=fun σ s xs s' e=>by
 have e':((a σ s).bind fun x s=>(r σ s).bind fun xs s=>M.R.ok (x::xs) s)=.ok xs s':=e
 cases ha:a σ s with
 | no=>rw[ha] at e';cases e'
 | exc a s=>rw[ha] at e';cases e'
 | ok d S1 =>
  rw[ha] at e'
  have e2:((r σ S1).bind fun xs s=>M.R.ok (d::xs) s)=.ok xs s':=e'
  cases hr:r σ S1 with
  | no=>rw[hr] at e2;cases e2
  | exc a s=>rw[hr] at e2;cases e2
  | ok ds S2 =>
   rw[hr] at e2
   cases e2
   rw[List.length_cons,h _ _ _ _ hr]
section
variable {X:Cx}{Θ:Tab}{pos p:Pos}{x:Str}{ps:List Str}{e:Expr}{es:List Expr}{f:M.F}{m:M.AM}{k kk n:Nat}
theorem zN5 (h:Has X.prog X.w X.K X.mg X.base x k ps (SpM X.K Θ n f)) (hr:jL kk X.A) (hk:k <= kk) (hg:Gl X x) (ha:MA X Θ (e::es) m) (ar:zAj m n) (hx:ya CX0 X E0:=by exact zAk) (hdb:(x == ("__debug__" : Str))=false:=by decide)
  (he:zo e=true:=by rfl) (hpl:es.all zo=true:=by rfl):ME X Θ (.Call (.Name x p) (e::es) [] pos) (M.zS f m) :=
 (zNk h hr hk hg ha hx hdb (qP he) (Ze hpl)).imp fun σ H Q ⟨ρ,σ',S,st,rp,h⟩=>⟨ρ,σ',S,st,rp,by
  have h':zG X.K Θ (zN X.K) ρ H ((m σ' S).bind fun xs s=>f xs s) Q:=h
  cases hm:m σ' S with
  | no=>rw[hm] at h';exact h'.elim
  | exc a s=>rw[hm] at h';exact h'.elim
  | ok ds S1 =>
   rw[hm] at h'
   intro ρ1 H1 vs p1 l1 rp1 r1
   rw[List.append_nil]
   exact⟨ρ1,ds,S1,ar _ _ _ _ hm,r1,rp1,zG.weak h' p1 l1⟩⟩
theorem jN (h:Has X.prog X.w X.K X.mg X.base x k ps (SpM X.K Θ n f)) (hr:jL kk X.A) (hk:k <= kk) (hg:Gl X x) (ha:WA X Θ (e::es) m) (ar:zAj m n) (hx:ya CX0 X E0:=by exact zAk) (hdb:(x == ("__debug__" : Str))=false:=by decide)
  (he:zo e=true:=by rfl) (hpl:es.all zo=true:=by rfl):WE X Θ (.Call (.Name x p) (e::es) [] pos) (M.zS f m):=by with_unfolding_all exact zN5 h hr hk hg ha ar hx hdb he hpl
end
section
variable {K:PySem.W.Frag}{Θ:Tab}{ρ ρ':List Addr}{H:Hp}{e:List Nat}
mutual
theorem zN.unren (hρ:∀ (i j:Nat) a,e[i]? = some j->ρ[j]? = some a->ρ'[i]? = some a):∀ {d:M.D}{v:V},M.D.cl e.length d=true->zN K ρ H (M.D.ren e d) v->zN K ρ' H d v
 | .non,_,_,h=>h
 | .bl _,_,_,h=>h
 | .int _,_,_,h=>h
 | .str _,_,_,h=>h
 | .ty _,_,_,h=>h
 | .ref i,_,c,⟨a,h1,h2⟩=>by
  have hi:i < e.length:=of_decide_eq_true c
  refine⟨a,h1,hρ i (e.getD i i) a ?_ h2⟩
  rw[List.getD_eq_getElem?_getD,List.getElem?_eq_getElem hi];rfl
 | .tup _,_,c,⟨a,xs,h1,h2,h3⟩=>⟨a,xs,h1,h2,zP.unren hρ c h3⟩
 | .ro _,_,c,⟨a,xs,h1,h2,h3⟩=>⟨a,xs,h1,h2,zP.unren hρ c h3⟩
theorem zP.unren (hρ:∀ (i j:Nat) a,e[i]? = some j->ρ[j]? = some a->ρ'[i]? = some a):∀ {ds:List M.D}{xs:List V},M.D.cl.all e.length ds=true->zP K ρ H (M.D.ren.all e ds) xs->zP K ρ' H ds xs
 | [],_,_,h=>h
 | d::ds,_,c,⟨y,ys,h1,h2,h3⟩=>by
  have c':(M.D.cl e.length d && M.D.cl.all e.length ds)=true:=c
  rw[Bool.and_eq_true] at c'
  exact⟨y,ys,h1,zN.unren hρ c'.1 h2,zP.unren hρ c'.2 h3⟩
end
theorem ObR.unren (hρ:∀ (i j:Nat) a,e[i]? = some j->ρ[j]? = some a->ρ'[i]? = some a) {a:Addr}{o:M.O} (c:M.O.cl e.length o=true) (h:ObR K Θ ρ H a (M.O.ren e o)):ObR K Θ ρ' H a o:=by
 cases o with
 | lst ds=>obtain⟨xs,h1,h2⟩:=h;exact⟨xs,h1,zP.unren hρ c h2⟩
 | dct kvs =>
  obtain⟨ks,h1,h2⟩:=h
  refine⟨ks,h1,?_⟩
  have c':∀ p∈kvs,(M.D.cl e.length p.1 && M.D.cl e.length p.2)=true:=List.all_eq_true.mp c
  clear h1
  revert h2 c'
  clear c
  induction kvs generalizing ks with
  | nil=>intro h2 c';cases h2;exact .nil
  | cons p kvs ih =>
   intro h2 c'
   rw[List.map_cons] at h2
   cases h2 with
   | cons r1 r2 =>
    have c1:=c' p List.mem_cons_self
    rw[Bool.and_eq_true] at c1
    refine .cons ⟨?_,zN.unren hρ c1.2 r1.2⟩ (ih _ r2 (fun q hq=>c' q (List.mem_cons_of_mem _ hq)))
    have hk:=r1.1
    revert hk
    cases p.1<;>exact fun hk=>hk
 | fdc kvs =>
  obtain⟨o,ks,h1,h2⟩:=h
  refine⟨o,ks,h1,?_⟩
  have c':∀ p∈kvs,(M.D.cl e.length p.1 && M.D.cl e.length p.2)=true:=List.all_eq_true.mp c
  clear h1
  revert h2 c'
  clear c
  induction kvs generalizing ks with
  | nil=>intro h2 c';cases h2;exact .nil
  | cons p kvs ih =>
   intro h2 c'
   rw[List.map_cons] at h2
   cases h2 with
   | cons r1 r2 =>
    have c1:=c' p List.mem_cons_self
    rw[Bool.and_eq_true] at c1
    refine .cons ⟨?_,zN.unren hρ c1.2 r1.2⟩ (ih _ r2 (fun q hq=>c' q (List.mem_cons_of_mem _ hq)))
    have hk:=r1.1
    revert hk
    cases p.1<;>exact fun hk=>hk
 | ins cc fs =>
  obtain⟨C,dx,gs,N,h1,h2,h3⟩:=h
  refine⟨C,dx,gs,N,h1,h2,by rw[<- h3.len];simp,h3.nd,h3.within,fun i f d q1 q2=>?_⟩
  obtain⟨v,k1,k2⟩:=h3.get i f (M.D.ren e d) q1 (by rw[List.getElem?_map,q2];rfl)
  refine⟨v,k1,zN.unren hρ ?_ k2⟩
  have:=List.all_eq_true.mp c (some d) (List.mem_of_getElem? q2)
  exact this
theorem zG.gc {S S' S1:M.S}{d:M.D}{Q:VK} (em:M.Emb S.length e S' S1) (cd:M.D.cl S'.length d=true) (rp:zX K Θ ρ S H) (h:zG K Θ (zN K) ρ H (.ok d S') Q):zG K Θ (zN K) ρ H (.ok (M.D.ren e d) S1) Q:=by
 intro ρ1 H1 v p1 l1 rp1 r1
 have hlt:∀ {i j:Nat},e[i]? = some j->j < ρ1.length:=fun {i j} q=>by
  have hi:i < S'.length:=by rw[<- em.len];exact (List.getElem?_eq_some_iff.mp q).1
  obtain⟨j',q1,q2,_⟩:=em.obj i S'[i] (by simp[hi])
  rw[q] at q1;cases q1
  rw[rp1.len];exact (List.getElem?_eq_some_iff.mp q2).1
 have hρ:∀ (i j:Nat) a,e[i]? = some j->ρ1[j]? = some a->(e.map fun j=>ρ1.getD j 0)[i]? = some a:=fun i j a q1 q2=>by
  rw[List.getElem?_map,q1,Option.map_some,List.getD_eq_getElem?_getD,q2];rfl
 refine h (e.map fun j=>ρ1.getD j 0) H1 v ?_ l1 ⟨by rw[List.length_map,em.len],?_,fun i o q=>?_⟩ (zN.unren hρ (by rw[em.len];exact cd) r1)
 ·refine List.prefix_iff_getElem?.mpr fun i hi=>?_
  have hi':i < S.length:=rp.len ▸ hi
  exact hρ i i _ (em.old i hi') (zBp p1 (List.getElem?_eq_getElem hi))
 ·refine zNq fun i j x a b=>?_
  rw[List.getElem?_map] at a b
  cases ei:e[i]? with
  | none=>rw[ei] at a;cases a
  | some k =>
   cases ej:e[j]? with
   | none=>rw[ej] at b;cases b
   | some l =>
    rw[ei,Option.map_some,List.getD_eq_getElem?_getD,List.getElem?_eq_getElem (hlt ei)] at a
    rw[ej,Option.map_some,List.getD_eq_getElem?_getD,List.getElem?_eq_getElem (hlt ej)] at b
    have e1:ρ1[k]'(hlt ei)=x:=by simpa using a
    have e2:ρ1[l]'(hlt ej)=x:=by simpa using b
    have e3:=zL9 rp1.nd (hlt ei) (hlt ej) (e1.trans e2.symm)
    subst e3
    exact zCO em.nd ei ej
 ·obtain⟨j,q1,q2,q3⟩:=em.obj i o q
  obtain⟨a,q4,q5⟩:=rp1.obj j _ q2
  exact⟨a,hρ i j a q1 q4,ObR.unren hρ (by rw[em.len];exact q3) q5⟩
end
section
variable {K:PySem.W.Frag}{Θ:Tab}{ρ:List Addr}{H:Hp}
mutual
theorem zN.cl:∀ {d:M.D}{v:V},zN K ρ H d v->M.D.cl ρ.length d=true
 | .non,_,_=>rfl
 | .bl _,_,_=>rfl
 | .int _,_,_=>rfl
 | .str _,_,_=>rfl
 | .ty _,_,_=>rfl
 | .ref _,_,⟨a,_,h2⟩=>decide_eq_true (List.getElem?_eq_some_iff.mp h2).1
 | .tup _,_,⟨_,_,_,_,h⟩=>zP.cl h
 | .ro _,_,⟨_,_,_,_,h⟩=>zP.cl h
theorem zP.cl:∀ {ds:List M.D}{xs:List V},zP K ρ H ds xs->M.D.cl.all ρ.length ds=true
 | [],_,_=>rfl
 | d::ds,_,⟨_,_,_,h1,h2⟩=>by
  show (M.D.cl ρ.length d && M.D.cl.all ρ.length ds)=true
  rw[zN.cl h1,zP.cl h2];rfl
end
theorem zX.cl {S:M.S} (rp:zX K Θ ρ S H):M.clS S.length S=true:=by
 refine List.all_eq_true.mpr fun o ho=>?_
 obtain⟨i,hi,rfl⟩:=List.mem_iff_getElem.mp ho
 obtain⟨a,h1,h2⟩:=rp.obj i S[i] (by simp[hi])
 rw[<- rp.len]
 revert h2
 cases S[i] with
 | lst ds=>exact fun ⟨xs,_,r⟩=>r.cl
 | dct kvs =>
  intro ⟨ks,_,r⟩
  refine List.all_eq_true.mpr fun p hp=>?_
  have:∀ {kvs:List (M.D×M.D)}{ks:List (Key×V)},Paired (fun (p:M.D×M.D) (q:Key×V)=>zAc p.1 q.1/\zN K ρ H p.2 q.2) kvs ks->p∈kvs->(M.D.cl ρ.length p.1 && M.D.cl ρ.length p.2)=true:=by
   intro kvs ks r hp
   induction r with
   | nil=>cases hp
   | cons r1 r2 ih =>
    rcases List.mem_cons.mp hp with rfl | hp
    ·rw[r1.2.cl,Bool.and_true]
     have hk:=r1.1
     revert hk
     cases p.1<;>first | exact fun _=>rfl | exact fun hk=>hk.elim
    ·exact ih hp
  exact this r hp
 | fdc kvs =>
  intro ⟨_,ks,_,r⟩
  refine List.all_eq_true.mpr fun p hp=>?_
  have:∀ {kvs:List (M.D×M.D)}{ks:List (Key×V)},Paired (fun (p:M.D×M.D) (q:Key×V)=>zAc p.1 q.1/\zN K ρ H p.2 q.2) kvs ks->p∈kvs->(M.D.cl ρ.length p.1 && M.D.cl ρ.length p.2)=true:=by
   intro kvs ks r hp
   induction r with
   | nil=>cases hp
   | cons r1 r2 ih =>
    rcases List.mem_cons.mp hp with rfl | hp
    ·rw[r1.2.cl,Bool.and_true]
     have hk:=r1.1
     revert hk
     cases p.1<;>first | exact fun _=>rfl | exact fun hk=>hk.elim
    ·exact ih hp
  exact this r hp
 | ins c fs =>
  intro ⟨C,dx,gs,N,_,_,r⟩
  refine List.all_eq_true.mpr fun od hod=>?_
  cases od with
  | none=>rfl
  | some d =>
   obtain⟨j,hj,ej⟩:=List.mem_iff_getElem.mp hod
   have hN:j < N.length:=r.len ▸ hj
   obtain⟨v,_,rv⟩:=r.get j N[j] d (by simp[hN]) (by rw[List.getElem?_eq_getElem hj,ej])
   exact rv.cl
end
section
variable {P:Program}{w:World}{K:PySem.W.Frag}{mg:Str->Option Value}{base:Heap}{Θ:Tab}
theorem zGR {ρ:List Addr}{H:Hp}{ds:List M.D}{vs:List V} (r:zP K ρ H ds vs) (N:List Str):jo K ρ H (ds.map some++List.replicate (N.length - ds.length) none) (Ja N vs):=by
 have hl:=r.length
 refine⟨by simp[Ja,hl],fun i d q=>?_⟩
 unfold Ja
 by_cases hi:i < ds.length
 ·rw[List.getElem?_append_left (by simpa using hi),List.getElem?_map] at q
  cases e:ds[i]? with
  | none=>rw[e] at q;cases q
  | some d' =>
   rw[e] at q
   cases q
   obtain⟨v,e1,rv⟩:=r.get e
   refine⟨v,?_,rv⟩
   rw[List.getElem?_append_left (by simp;omega),List.getElem?_map,e1];rfl
 ·rw[List.getElem?_append_right (by simp;omega),List.getElem?_replicate] at q
  split at q<;>cases q
theorem zRb {x qual:Str}{st:Stmt}{f:Addr}{fd:FuncData}{N ps:List Str}{k:Nat}{b:M.SM}{q:M.F} (F:Fun K x qual st f fd) (Sc:zy N ps (zK st)) (rf:M.jc ps.length (M.fn N.length b) q)
  (hbody:∀ (cdv:Value) (A:Around) (outer:List Env) (s:Shared) (H:Hp) (E:XK),jL k (A.deeper (envOfC qual (zK st) s.heap.objs.size f cdv)) ->
   MSs (zBB CX0 P w K mg base N qual (zK st) f cdv A outer s H E).nox Θ (zi st) b):jU P w K mg base CX0 (k+1) f fd ps (SpM K Θ ps.length q):=by
 refine F.ok (k:=k) Sc (fun vs H Q E h=>?_) (fun cdv A outer s H vs Q E hr h=>?_)
 ·obtain⟨ρ,ds,S,hl,r,_⟩:=h
  rw[<- r.length,hl]
 ·obtain⟨ρ,ds,S,hl,r,rp,h⟩:=h
  refine⟨_,hbody cdv A outer s H E hr,ρ,_,S,zGR r N,rp,?_⟩
  rcases rf ds S hl rp.cl (rp.len ▸ r.cl) with e | ⟨d,S',S1,em,e1,e2,emb,cd⟩
  ·rw[e] at h;exact h.elim
  ·rw[e1] at h
   have h2:=zG.gc emb cd rp h
   have e3:(b (ds.map some++List.replicate (N.length - ds.length) none) S).out=.ok (M.D.ren em d) S1:=e2
   show zx K Θ ρ H (b (ds.map some++List.replicate (N.length - ds.length) none) S) _
   revert e3
   cases b (ds.map some++List.replicate (N.length - ds.length) none) S with
   | rt a s=>intro e3;cases e3;exact h2
   | nx a s =>
    intro e3
    have e4:M.R.ok M.D.non s=.ok (M.D.ren em d) S1:=e3
    injection e4 with e5 e6
    subst e6
    rw[<- e5] at h2
    exact fun ρ1 H1 σ1 p1 l1 rp1 _=>h2 ρ1 H1 .non p1 l1 rp1 rfl
   | bk a s=>intro e3;cases e3
   | ct a s=>intro e3;cases e3
   | exc e a s=>intro e3;cases e3
   | no=>intro e3;cases e3
theorem yw {x qual:Str}{st:Stmt}{f:Addr}{fd:FuncData}{N ps:List Str}{k:Nat}{b:M.SM}{q:M.F} (F:Fun K x qual st f fd) (Sc:zy N ps (zK st)) (rf:M.jc ps.length (M.fn N.length b) q)
  (hbody:∀ (cdv:Value) (A:Around) (outer:List Env) (s:Shared) (H:Hp) (E:XK),jL k (A.deeper (envOfC qual (zK st) s.heap.objs.size f cdv)) ->
   WSs (zBB CX0 P w K mg base N qual (zK st) f cdv A outer s H E).nox Θ (zi st) b):jU P w K mg base CX0 (k+1) f fd ps (SpM K Θ ps.length q):=by with_unfolding_all exact zRb (x:=x) (qual:=qual) (st:=st) (f:=f) (fd:=fd) (N:=N) (ps:=ps) (k:=k) (b:=b) (q:=q) F Sc rf hbody
end
end L2
namespace L2
open PySem PySem.Spec PyProof.Rows
section
variable {K:PySem.W.Frag}{Θ:Tab}
theorem zDU:Ad2 K Θ M.zAo zQk:=by
 intro ρ H S x y X Y Q rp rx ry h
 cases x with
 | int i =>
  cases y with
  | int j=>cases rx;cases ry;exact zG.here (b:=V.int (i - j)) h rp rfl
  | _=>exact h.elim
 | _=>exact h.elim
theorem zH8 {i:Int} (h:M.ZK i=true):-(2 ^ 64) < i/\i < 2 ^ 64:=by
 have h':i.natAbs < 18446744073709551616:=of_decide_eq_true h
 exact⟨by omega,by omega⟩
theorem JS:Ad2 K Θ M.Qa zQ3:=by
 intro ρ H S x y X Y Q rp rx ry h
 cases x with
 | int i =>
  cases y with
  | int j =>
   cases rx;cases ry
   have h':zG K Θ (zN K) ρ H (if 0 < j/\j.natAbs < 1073741824 then M.R.ok (M.D.int (i / j)) S else .no) Q:=h
   by_cases hc:0 < j/\j.natAbs < 1073741824
   ·rw[if_pos hc] at h';exact⟨⟨hc.1,by omega⟩,zG.here (b:=V.int (i / j)) h' rp rfl⟩
   ·rw[if_neg hc] at h';exact h'.elim
  | _=>exact h.elim
 | _=>exact h.elim
theorem Zl:Ad2 K Θ M.ZB zRW:=by
 intro ρ H S x y X Y Q rp rx ry h
 cases x with
 | int i =>
  cases y with
  | int j =>
   cases rx;cases ry
   have h':zG K Θ (zN K) ρ H (if 0 < j then M.R.ok (M.D.int (i % j)) S else .no) Q:=h
   by_cases hc:0 < j
   ·rw[if_pos hc] at h';exact⟨hc,zG.here (b:=V.int (i % j)) h' rp rfl⟩
   ·rw[if_neg hc] at h';exact h'.elim
  | _=>exact h.elim
 | _=>exact h.elim
theorem Zn {ρ:List Addr}{S:M.S}{H:Hp} (rp:zX K Θ ρ S H) {i:Nat}{a:Addr} (ha:ρ[i]? = some a) {xs:List M.D} (q:S[i]? = some (.lst xs)):∃ zs,H a=some (.lst zs)/\zP K ρ H xs zs:=by
 obtain⟨b,e1,zs,e2,r⟩:=rp.obj i _ q
 rw[ha] at e1;cases e1
 exact⟨zs,e2,r⟩
theorem qb:Ad2 K Θ M.jO (fun x y H Q=>zPc x y H Q\/zN1 K x y H Q):=by
 intro ρ H S x y X Y Q rp rx ry h
 cases x with
 | int i =>
  cases y with
  | int j=>cases rx;cases ry;exact .inl (zG.here (b:=V.int (i+j)) h rp rfl)
  | _=>exact h.elim
 | str a =>
  cases y with
  | str b =>
   obtain⟨rfl,oka⟩:=rx
   obtain⟨rfl,okb⟩:=ry
   have h':zG K Θ (zN K) ρ H (if a.length+b.length <= M.SZ then M.R.ok (M.D.str (a++b)) S else .no) Q:=h
   by_cases hc:a.length+b.length <= M.SZ
   ·rw[if_pos hc] at h'
    refine .inl ⟨by rw[ji,ji,<- Za];exact hc,?_⟩
    rw[zIt]
    exact zG.here (b:=V.str (ofT (a++b))) h' rp ⟨rfl,zDq oka okb⟩
   ·rw[if_neg hc] at h';exact h'.elim
  | _=>exact h.elim
 | tup a =>
  cases y with
  | tup b =>
   obtain⟨l,xs,rfl,hq,r⟩:=rx
   obtain⟨l',ys,rfl,hq',r'⟩:=ry
   have h':zG K Θ (zN K) ρ H (if a≠[]/\a.length+b.length <= M.SZ then M.R.ok (M.D.tup (a++b)) S else .no) Q:=h
   by_cases hc:a≠[]/\a.length+b.length <= M.SZ
   ·rw[if_pos hc] at h'
    refine .inr ⟨l,l',xs,ys,rfl,rfl,hq,hq',fun z=>hc.1 ?_,by rw[<- r.length,<- r'.length,<- Za];exact hc.2,fun hy=>?_,fun hy p hp=>?_⟩
    ·subst z
     have:=r.length
     exact List.length_eq_zero_iff.mp this
    ·subst hy
     have hb:b=[]:=List.length_eq_zero_iff.mp r'.length
     subst hb
     rw[List.append_nil] at h'
     exact zG.here h' rp ⟨l,xs,rfl,hq,r⟩
    ·exact h' ρ _ _ (List.prefix_refl _) (Le.new hp _) (rp.aside hp _) ⟨p,_,rfl,SqT.of qD,(r.app r').mono (List.prefix_refl _) (Le.new hp _)⟩
   ·rw[if_neg hc] at h';exact h'.elim
  | _=>exact h.elim
 | ref i =>
  cases y with
  | ref j =>
   obtain⟨a,rfl,ea⟩:=rx
   obtain⟨b,rfl,eb⟩:=ry
   have h':zG K Θ (zN K) ρ H (match S[i]?,S[j]? with
    | some (.lst xs),some (.lst ys)=>if xs.length+ys.length <= M.SZ then M.alloc (.lst (xs++ys)) S else .no
    | _,_=>.no) Q:=h
   split at h'
   ·rename_i xs ys q1 q2
    obtain⟨zs,e1,r1⟩:=Zn rp ea q1
    obtain⟨ws,e2,r2⟩:=Zn rp eb q2
    by_cases hc:xs.length+ys.length <= M.SZ
    ·rw[if_pos hc] at h'
     exact .inl ⟨zs,ws,e1,e2,by rw[<- r1.length,<- r2.length,<- Za];exact hc,fun p hp=>h'.alloc rp (r1.app r2) hp⟩
    ·rw[if_neg hc] at h';exact h'.elim
   ·exact h'.elim
  | _=>exact h.elim
 | _=>exact h.elim
theorem zQw:Ad1 K Θ M.zGz (rU fun i=>.int (-i)):=by
 intro ρ H S x X Q rp rx h
 cases x with
 | int i=>cases rx;exact⟨i,rfl,zG.here (b:=V.int (-i)) h rp rfl⟩
 | _=>exact h.elim
theorem zNu:AdC K Θ M.cLt uLt:=by
 intro ρ H S x y X Y Q rp rx ry h
 cases x with
 | int i =>
  cases y with
  | int j=>cases rx;cases ry;exact zG.here (b:=decide (i < j)) h rp rfl
  | _=>exact h.elim
 | str a =>
  cases y with
  | str b =>
   obtain⟨rfl,_⟩:=rx
   obtain⟨rfl,_⟩:=ry
   show Q (.bl (decide ((ofT a).cps.toList < (ofT b).cps.toList))) H
   rw[y6,y6]
   exact zG.here (b:=decide (a < b)) h rp rfl
  | _=>exact h.elim
 | _=>exact h.elim
theorem zEv:AdC K Θ M.cLe uLe:=by
 intro ρ H S x y X Y Q rp rx ry h
 cases x with
 | int i =>
  cases y with
  | int j=>cases rx;cases ry;exact zG.here (b:=decide (i <= j)) h rp rfl
  | _=>exact h.elim
 | str a =>
  cases y with
  | str b =>
   obtain⟨rfl,_⟩:=rx
   obtain⟨rfl,_⟩:=ry
   show Q (.bl (!decide ((ofT b).cps.toList < (ofT a).cps.toList))) H
   rw[y6,y6]
   exact zG.here (b:=!decide (b < a)) h rp rfl
  | _=>exact h.elim
 | _=>exact h.elim
theorem zCo:AdC K Θ M.cGt uGt:=by
 intro ρ H S x y X Y Q rp rx ry h
 cases x with
 | int i =>
  cases y with
  | int j=>cases rx;cases ry;exact zG.here (b:=decide (j < i)) h rp rfl
  | _=>exact h.elim
 | _=>exact h.elim
theorem zFy {ρ:List Addr}{H:Hp}{ds:List M.D}{xs:List V}{i:Int}{d:M.D} (r:zP K ρ H ds xs) (e:M.atI ds i=some d):∃ v,atI xs i=some v/\zN K ρ H d v:=by
 unfold M.atI at e
 cases q:M.ixN ds.length i with
 | none=>rw[q] at e;cases e
 | some j =>
  rw[q] at e
  obtain⟨v,e1,rv⟩:=r.get (i:=j) e
  have q':ixN xs.length i=some j:=by rw[<- r.length];exact q
  exact⟨v,by unfold atI;rw[q'];exact e1,rv⟩
end
end L2
namespace L2
open PySem PySem.Spec PyProof.Rows
section
variable {K:PySem.W.Frag}{Θ:Tab}
theorem zQr {X:Cx}{a:Expr}{ma:M.EM} (ha:ME X Θ a ma) (he:∀ whole,isTrue a X.env whole=(do let v <- whole;standAt a.pos;holding [v] (truthy v)):=by intro _;rfl):MT X Θ a (M.zHp ma) :=
 (zMR ha he).imp fun σ H Q ⟨ρ,σ',S,st,rp,h⟩=>⟨ρ,σ',S,st,rp,zG.bind h fun ρ1 H1 x X1 S1 p1 l1 rp1 rx h1=>by
  cases x with
  | non=>cases rx;exact⟨false,rfl,zG.here (b:=false) h1 rp1 rfl⟩
  | bl b=>cases rx;exact⟨b,rfl,zG.here (b:=b) h1 rp1 rfl⟩
  | int i=>cases rx;exact⟨_,rfl,zG.here (b:=(i != 0)) h1 rp1 (by show decide (i≠0)=(i != 0);by_cases hi:i=0<;>simp[hi])⟩
  | str z =>
   obtain⟨rfl,_⟩:=rx
   by_cases hz:z.length <= M.SZ
   ·simp only[M.zBU,if_pos hz] at h1
    refine⟨_,⟨by rw[ji,<- Za];exact hz,rfl⟩,zG.here (b:=(((ofT z).length:Int) != 0)) h1 rp1 ?_⟩
    show (!z.isEmpty)=_
    rw[ji]
    cases z<;>simp<;>omega
   ·simp only[M.zBU,if_neg hz] at h1;exact h1.elim
  | tup ds =>
   obtain⟨l,xs,rfl,hq,r⟩:=rx
   refine⟨_,.inr (.inl ⟨xs,hq,rfl⟩),zG.here (b:=!xs.isEmpty) h1 rp1 ?_⟩
   show (!ds.isEmpty)=_
   have:=r.length
   cases ds<;>cases xs<;>first | rfl | cases this
  | ro ds =>
   obtain⟨l,xs,rfl,hq,r⟩:=rx
   refine⟨_,.inl ⟨xs,hq.sq,rfl⟩,zG.here (b:=!xs.isEmpty) h1 rp1 ?_⟩
   show (!ds.isEmpty)=_
   have:=r.length
   cases ds<;>cases xs<;>first | rfl | cases this
  | ref p =>
   obtain⟨a,rfl,ea⟩:=rx
   cases q:S1[p]? with
   | none=>simp[M.zBU,q] at h1;exact h1.elim
   | some o =>
    cases o with
    | lst xs =>
     simp only[M.zBU,q] at h1
     obtain⟨zs,e1,r⟩:=Zn rp1 ea q
     refine⟨_,.inl ⟨zs,SqL.of e1,rfl⟩,zG.here (b:=!zs.isEmpty) h1 rp1 ?_⟩
     show (!xs.isEmpty)=_
     have:=r.length
     cases xs<;>cases zs<;>first | rfl | cases this
    | dct kvs =>
     simp only[M.zBU,q] at h1
     obtain⟨b,e1,zs,e2,r⟩:=rp1.obj _ _ q
     rw[ea] at e1;cases e1
     refine⟨_,.inr (.inr ⟨zs,e2,rfl⟩),zG.here (b:=!zs.isEmpty) h1 rp1 ?_⟩
     cases r<;>rfl
    | fdc _=>simp[M.zBU,q] at h1;exact h1.elim
    | ins c fs=>simp[M.zBU,q] at h1;exact h1.elim
  | ty n=>exact h1.elim⟩
theorem zEY {X:Cx}{a:Expr}{ma:M.EM} (ha:WE X Θ a ma) (he:∀ whole,isTrue a X.env whole=(do let v <- whole;standAt a.pos;holding [v] (truthy v)):=by intro _;rfl):WT X Θ a (M.zHp ma):=by with_unfolding_all exact zQr (X:=X) (a:=a) (ma:=ma) ha he
inductive TyM (K:PySem.W.Frag) (H:Hp):V->String->Prop where
 | of {x:V}{A:String} (h:Jt K H x (.type A)):TyM K H x A
 | sqT {a:Addr}{xs:List V} (h:SqT K H a xs):TyM K H (.ref a) "tuple"
 | sqL {a:Addr}{xs:List V} (h:SqL K H a xs):TyM K H (.ref a) "list"
noncomputable def zMN (K:PySem.W.Frag):List V->Hp->VK->Prop:=fun xs H Q=>∃ x n A b,xs=[x,.ty n]/\TyM K H x A/\PySem.W.kitOne K (.type A) (.type n)=some b/\Q (.bl b) H
theorem zEJ {X:Cx}:j9 X (.builtin "isinstance") (zMN X.K):=by
 intro pins s σ H xs us Q I r h
 obtain⟨x,n,A,b,rfl,ty,e,q⟩:=h
 obtain⟨u,w',rfl,ru,rc⟩:=zJ0 r
 cases rc
 cases ty with
 | of h=>exact wpAny_with_toks (n:=1) I.tk (zLm I ru h e fun tk hk=>⟨.bl b,H,I.tok tk hk,rfl,q⟩)
 | sqT h =>
  cases ru
  obtain⟨its,_,⟨o,h1,h2,_⟩,_⟩:=I.tuple h
  exact wpAny_with_toks (n:=1) I.tk (PySem.W.kia_one PySem.W.kitx_tuple I.kIn ⟨o,h1,h2⟩ e (fun z=>nomatch z) fun tk hk=>⟨.bl b,H,I.tok tk hk,rfl,q⟩)
 | sqL h =>
  cases ru
  obtain⟨its,_,⟨o,n,h1,h2,_⟩,_⟩:=I.list h
  exact wpAny_with_toks (n:=1) I.tk (PySem.W.kia_one PySem.W.kitx_list I.kIn ⟨o,h1,h2⟩ e (fun z=>nomatch z) fun tk hk=>⟨.bl b,H,I.tok tk hk,rfl,q⟩)
theorem zOr (n:M.Kd):PySem.W.kitOne K (.type "NoneType") (.type (qz n))=some false/\PySem.W.kitOne K (.type "bool") (.type (qz n))=some (match n with | .bool=>true | .int=>true | _=>false) /\
  PySem.W.kitOne K (.type "int") (.type (qz n))=some (match n with | .int=>true | _=>false)/\PySem.W.kitOne K (.type "str") (.type (qz n))=some (match n with | .str=>true | _=>false) /\
  PySem.W.kitOne K (.type "tuple") (.type (qz n))=some (match n with | .tuple=>true | _=>false)/\PySem.W.kitOne K (.type "list") (.type (qz n))=some (match n with | .list=>true | _=>false) /\
  PySem.W.kitOne K (.type "dict") (.type (qz n))=some (match n with | .dict=>true | _=>false):=by
 cases n<;>exact⟨zBA (by decide +kernel),zBA (by decide +kernel),zBA (by decide +kernel),zBA (by decide +kernel),zBA (by decide +kernel),zBA (by decide +kernel),zBA (by decide +kernel)⟩
theorem zHc:AdN K Θ M.zDP (zMN K):=by
 intro ρ H S xs Xs Q rp rx h
 match xs,rx,h with
 | [x,.ty n],rx,h =>
  obtain⟨v,_,rfl,rv,_,_,rfl,rfl,rfl⟩:=rx
  obtain⟨k1,k2,k3,k4,k5,k6,k7⟩:=zOr (K:=K) n
  have fin:∀ {A:String}{b:Bool},M.JX n x S=.ok b S->TyM K H v A->PySem.W.kitOne K (.type A) (.type (qz n))=some b->zMN K [v,.ty (qz n)] H Q:=fun {A b} e ty k=>by
   have h':zG K Θ (zN K) ρ H ((M.JX n x S).bind fun b s=>.ok (.bl b) s) Q:=h
   rw[e] at h'
   exact⟨v,qz n,A,b,rfl,ty,k,zG.here (b:=V.bl b) h' rp rfl⟩
  cases x with
  | non=>cases rv;exact fin rfl (.of .non) k1
  | bl b=>cases rv;exact fin rfl (.of (.bl b)) k2
  | int i=>cases rv;exact fin rfl (.of (.int i)) k3
  | str z=>obtain⟨rfl,_⟩:=rv;exact fin rfl (.of (.str _)) k4
  | tup ds=>obtain⟨l,ys,rfl,hq,r⟩:=rv;exact fin rfl (.sqT hq) k5
  | ro ds=>obtain⟨l,ys,rfl,hq,r⟩:=rv;exact fin rfl (.sqL hq.sq) k6
  | ty m=>exact h.elim
  | ref p =>
   obtain⟨a,rfl,ea⟩:=rv
   cases q:S[p]? with
   | none=>simp[M.zDP,M.JX,q] at h;exact h.elim
   | some o =>
    cases o with
    | lst xs =>
     obtain⟨zs,e1,r⟩:=Zn rp ea q
     refine fin ?_ (.sqL (SqL.of e1)) k6
     simp only[M.JX,q]<;>(cases n<;>rfl)
    | dct kvs =>
     obtain⟨b,e1,zs,e2,r⟩:=rp.obj _ _ q
     rw[ea] at e1;cases e1
     refine fin ?_ (.of (.dK e2)) k7
     simp only[M.JX,q]<;>(cases n<;>rfl)
    | fdc _=>simp[M.zDP,M.JX,q] at h;exact h.elim
    | ins c fs=>simp[M.zDP,M.JX,q] at h;exact h.elim
 | [_,.non],_,h=>exact h.elim
 | [_,.bl _],_,h=>exact h.elim
 | [_,.int _],_,h=>exact h.elim
 | [_,.str _],_,h=>exact h.elim
 | [_,.tup _],_,h=>exact h.elim
 | [_,.ro _],_,h=>exact h.elim
 | [_,.ref _],_,h=>exact h.elim
 | [],_,h=>exact h.elim
 | [_],_,h=>exact h.elim
 | _::b::_::_,_,h=>cases b<;>exact h.elim
noncomputable def ofP:M.P->PyData
 | .non=>.none
 | .bl b=>.bool b
 | .int i=>.int i
 | .str x=>.str (ofT x)
 | .tup ps=>.tuple (all ps)
 | .lst ps=>.list (all ps)
where all:List M.P->List PyData
 | []=>[]
 | p::ps=>ofP p::all ps
theorem zJA (x y:M.T):(ofT x == ofT y)=(x == y):=by
 by_cases h:x=y
 ·subst h;simp
 ·rw[beq_eq_false_iff_ne.mpr h,beq_eq_false_iff_ne.mpr fun e=>h (zDh e)]
mutual
theorem zFn:∀ p q:M.P,PyData.eqv (ofP p) (ofP q)=M.P.eqv p q
 | .non,.non=>rfl
 | .non,.bl _=>rfl
 | .non,.int _=>rfl
 | .non,.str _=>rfl
 | .non,.tup _=>rfl
 | .non,.lst _=>rfl
 | .bl _,.non=>rfl
 | .bl _,.bl _=>rfl
 | .bl _,.int _=>rfl
 | .bl _,.str _=>rfl
 | .bl _,.tup _=>rfl
 | .bl _,.lst _=>rfl
 | .int _,.non=>rfl
 | .int _,.bl _=>rfl
 | .int _,.int _=>rfl
 | .int _,.str _=>rfl
 | .int _,.tup _=>rfl
 | .int _,.lst _=>rfl
 | .str _,.non=>rfl
 | .str _,.bl _=>rfl
 | .str _,.int _=>rfl
 | .str x,.str y=>zJA x y
 | .str _,.tup _=>rfl
 | .str _,.lst _=>rfl
 | .tup _,.non=>rfl
 | .tup _,.bl _=>rfl
 | .tup _,.int _=>rfl
 | .tup _,.str _=>rfl
 | .tup ps,.tup qs=>zEL ps qs
 | .tup _,.lst _=>rfl
 | .lst _,.non=>rfl
 | .lst _,.bl _=>rfl
 | .lst _,.int _=>rfl
 | .lst _,.str _=>rfl
 | .lst _,.tup _=>rfl
 | .lst ps,.lst qs=>zEL ps qs
theorem zEL:∀ ps qs:List M.P,PyData.eqvAll (ofP.all ps) (ofP.all qs)=M.P.eqvs ps qs
 | [],[]=>rfl
 | [],_::_=>rfl
 | _::_,[]=>rfl
 | p::ps,q::qs=>by
  show (PyData.eqv (ofP p) (ofP q) && PyData.eqvAll (ofP.all ps) (ofP.all qs))=(M.P.eqv p q && M.P.eqvs ps qs)
  rw[zFn p q,zEL ps qs]
end
mutual
theorem zBw:∀ p:M.P,PyData.depth (ofP p)=M.P.dep p
 | .non=>rfl
 | .bl _=>rfl
 | .int _=>rfl
 | .str _=>rfl
 | .tup ps=>by show PyData.depthAll (ofP.all ps)+1=M.P.deps ps+1;rw[zEf ps]
 | .lst ps=>by show PyData.depthAll (ofP.all ps)+1=M.P.deps ps+1;rw[zEf ps]
theorem zEf:∀ ps:List M.P,PyData.depthAll (ofP.all ps)=M.P.deps ps
 | []=>rfl
 | p::ps=>by show max (PyData.depth (ofP p)) (PyData.depthAll (ofP.all ps))=max (M.P.dep p) (M.P.deps ps);rw[zBw p,zEf ps]
end
section
variable {ρ:List Addr}{H:Hp}
mutual
theorem zKV {g:Nat->Option M.P} (hg:∀ i p v,g i=some p->zN K ρ H (.ref i) v->qv K H v (ofP p)/\(ofP p).canLay0=true):∀ {d:M.D}{p:M.P}{v:V},M.Zz g d=some p->zN K ρ H d v->qv K H v (ofP p)/\(ofP p).canLay0=true
 | .non,_,_,e,r=>by cases e;cases r;exact⟨.non,rfl⟩
 | .bl _,_,_,e,r=>by cases e;cases r;exact⟨.bl _,rfl⟩
 | .int _,_,_,e,r=>by cases e;cases r;exact⟨.int _,rfl⟩
 | .str x,_,_,e,r=>by
  cases e
  obtain⟨rfl,ok⟩:=r
  refine⟨.str _,?_⟩
  show PyData.strOk (ofT x)=true
  unfold PyData.strOk ofT
  have ok':x.all (fun c=>decide (c < 1114112))=true:=ok
  simpa using ok'
 | .tup ds,_,_,e,r=>by
  obtain⟨l,xs,rfl,hq,rr⟩:=r
  have e':(M.Zz.all g ds).map M.P.tup=some _:=e
  cases q:M.Zz.all g ds with
  | none=>rw[q] at e';cases e'
  | some ps =>
   rw[q] at e'
   cases e'
   obtain⟨h1,h2⟩:=zE4 hg q rr
   exact⟨.tup hq h1,h2⟩
 | .ro ds,_,_,e,r=>by
  obtain⟨l,xs,rfl,hq,rr⟩:=r
  have e':(M.Zz.all g ds).map M.P.lst=some _:=e
  cases q:M.Zz.all g ds with
  | none=>rw[q] at e';cases e'
  | some ps =>
   rw[q] at e'
   cases e'
   obtain⟨h1,h2⟩:=zE4 hg q rr
   exact⟨.lst hq.sq h1,h2⟩
 | .ref i,_,_,e,r=>hg i _ _ e r
 | .ty _,_,_,e,_=>by cases e
theorem zE4 {g:Nat->Option M.P} (hg:∀ i p v,g i=some p->zN K ρ H (.ref i) v->qv K H v (ofP p)/\(ofP p).canLay0=true):∀ {ds:List M.D}{ps:List M.P}{xs:List V},M.Zz.all g ds=some ps->zP K ρ H ds xs->Z5 K H xs (ofP.all ps)/\PyData.canLayAll0 (ofP.all ps)=true
 | [],_,_,e,r=>by cases e;cases r;exact⟨.nil,rfl⟩
 | d::ds,_,_,e,r=>by
  obtain⟨y,ys,rfl,r1,r2⟩:=r
  have e':(match M.Zz g d,M.Zz.all g ds with | some p,some ps=>some (p::ps) | _,_=>none)=some _:=e
  cases q1:M.Zz g d with
  | none=>rw[q1] at e';cases e'
  | some p =>
   cases q2:M.Zz.all g ds with
   | none=>rw[q1,q2] at e';cases e'
   | some ps =>
    rw[q1,q2] at e'
    cases e'
    obtain⟨h1,h2⟩:=zKV hg q1 r1
    obtain⟨h3,h4⟩:=zE4 hg q2 r2
    refine⟨.cons h1 h3,?_⟩
    show (PyData.canLay0 (ofP p) && PyData.canLayAll0 (ofP.all ps))=true
    rw[h2,h4];rfl
end
theorem zC8 {S:M.S} (rp:zX K Θ ρ S H):∀ (n:Nat) {d:M.D}{p:M.P}{v:V},M.toP n S d=some p->zN K ρ H d v->qv K H v (ofP p)/\(ofP p).canLay0=true
 | 0,_,_,_,e,r=>zKV (fun i p v e _=>by cases e) e r
 | n+1,_,_,_,e,r=>zKV (fun i p v e r=>by
   obtain⟨a,rfl,ea⟩:=r
   have e':(match M.jB S i with | some xs=>(M.Zz.all (fun j=>M.toP n S (.ref j)) xs).map M.P.lst | none=>none)=some p:=e
   cases q:S[i]? with
   | none=>simp[M.jB,q] at e'
   | some o =>
    cases o with
    | lst xs =>
     simp only[M.jB,q] at e'
     obtain⟨zs,e1,rr⟩:=Zn rp ea q
     cases q2:M.Zz.all (fun j=>M.toP n S (.ref j)) xs with
     | none=>rw[q2] at e';cases e'
     | some ps =>
      rw[q2] at e'
      cases e'
      obtain⟨h1,h2⟩:=zE4 (fun j p v e r=>zC8 rp n e r) q2 rr
      exact⟨.lst (SqL.of e1) h1,h2⟩
    | dct kvs=>simp[M.jB,q] at e'
    | fdc _=>simp[M.jB,q] at e'
    | ins c fs=>simp[M.jB,q] at e') e r
end
noncomputable abbrev DR (K:PySem.W.Frag) (ρ:List Addr) (H:Hp):List (M.D×M.D)->List (Key×V)->Prop:=Paired fun p q=>zAc p.1 q.1/\zN K ρ H p.2 q.2
theorem zES {d e:M.D}{a b:Key} (ha:zAc d a) (hb:zAc e b):(a=b)=(d=e):=by
 cases d with
 | int i =>
  cases ha
  cases e with
  | int j=>cases hb;exact propext ⟨fun z=>by cases z;rfl,fun z=>by cases z;rfl⟩
  | str y=>obtain⟨rfl,_⟩:=hb;exact propext ⟨fun z=>(nomatch z),fun z=>(nomatch z)⟩
  | _=>exact hb.elim
 | str x =>
  obtain⟨rfl,_⟩:=ha
  cases e with
  | int j=>cases hb;exact propext ⟨fun z=>(nomatch z),fun z=>(nomatch z)⟩
  | str y=>obtain⟨rfl,_⟩:=hb;exact propext ⟨fun z=>by rw[zDh (Sum.inr.inj z)],fun z=>by cases z;rfl⟩
  | _=>exact hb.elim
 | _=>exact ha.elim
theorem zBx {ρ:List Addr}{H:Hp}{d:M.D}{v:V} (h:M.Z4 d=true) (r:zN K ρ H d v):∃ k,zAc d k/\v=kV k:=by
 cases d with
 | int i=>cases r;exact⟨.inl i,rfl,rfl⟩
 | str x=>obtain⟨rfl,ok⟩:=r;exact⟨.inr (ofT x),⟨rfl,ok⟩,rfl⟩
 | _=>cases h
section
variable {ρ:List Addr}{H:Hp}{kvs:List (M.D×M.D)}{ks:List (Key×V)}{d:M.D}{k:Key}
theorem DR.val (r:DR K ρ H kvs ks) (hk:zAc d k):match M.ZM d kvs with | some e=>∃ v,Zc ks k=some v/\zN K ρ H e v | none=>Zc ks k=none:=by
 induction r with
 | nil=>exact rfl
 | @cons p q ps qs h t ih =>
  have e:=zES h.1 hk
  by_cases hd:p.1=d
  ·have hq:q.1=k:=e.mpr hd
   rw[zCg hq,M.ZM,List.lookup_cons,beq_iff_eq.mpr hd.symm]
   exact⟨_,rfl,h.2⟩
  ·have hq:¬ q.1=k:=fun z=>hd (e.mp z)
   rw[zCa hq,M.ZM,List.lookup_cons,beq_eq_false_iff_ne.mpr (Ne.symm hd)]
   exact ih
theorem DR.any (r:DR K ρ H kvs ks) (hk:zAc d k):(ks.any fun kv=>decide (kv.1=k))=kvs.any fun kv=>decide (kv.1=d):=by
 induction r with
 | nil=>rfl
 | @cons p q ps qs h t ih =>
  rw[List.any_cons,List.any_cons,ih]
  congr 1
  exact decide_eq_decide.mpr (zES h.1 hk ▸ Iff.rfl)
theorem DR.put (r:DR K ρ H kvs ks) (hk:zAc d k) {e:M.D}{v:V} (rv:zN K ρ H e v):DR K ρ H (M.zCM d e kvs) (Qu ks k v):=by
 unfold M.zCM Qu
 rw[r.any hk]
 by_cases ha:(kvs.any fun kv=>decide (kv.1=d))=true
 ·rw[if_pos ha,if_pos ha]
  clear ha
  induction r with
  | nil=>exact .nil
  | @cons p q ps qs h t ih =>
   rw[List.map_cons,List.map_cons]
   refine .cons ?_ ih
   have eq:=zES h.1 hk
   by_cases hd:p.1=d
   ·rw[if_pos hd,if_pos (eq.mpr hd)];exact⟨h.1,rv⟩
   ·rw[if_neg hd,if_neg fun z=>hd (eq.mp z)];exact h
 ·rw[if_neg ha,if_neg ha]
  exact Paired.snoc r ⟨hk,rv⟩
end
theorem zB7 {ρ:List Addr}{S:M.S}{H:Hp} (rp:zX K Θ ρ S H) {i:Nat}{a:Addr} (ha:ρ[i]? = some a) {kvs:List (M.D×M.D)} (q:S[i]? = some (.dct kvs)):∃ ks,H a=some (.dK ks)/\DR K ρ H kvs ks:=by
 obtain⟨b,e1,zs,e2,r⟩:=rp.obj i _ q
 rw[ha] at e1;cases e1
 exact⟨zs,e2,r⟩
theorem zKo {ρ:List Addr}{S:M.S}{H:Hp} (rp:zX K Θ ρ S H) {i:Nat}{a:Addr} (ha:ρ[i]? = some a) {kvs:List (M.D×M.D)} (q:S[i]? = some (.fdc kvs)):∃ o ks,H a=some (.frz o (.dK ks))/\DR K ρ H kvs ks:=by
 obtain⟨b,e1,o,zs,e2,r⟩:=rp.obj i _ q
 rw[ha] at e1;cases e1
 exact⟨o,zs,e2,r⟩
inductive zAG (K:PySem.W.Frag) (H:Hp) (kb:List (Key×V)):List (Key×V)->Bool->Prop where
 | nil:zAG K H kb [] true
 | miss {k:Key}{v:V}{r:List (Key×V)} (h:Zc kb k=none):zAG K H kb ((k,v)::r) false
 | hit {k:Key}{v y:V}{r:List (Key×V)}{d e:PyData}{b:Bool} (h:Zc kb k=some y) (hd:qv K H v d) (he:qv K H y e) (sd:SeqAt.shaped d=true) (se:SeqAt.shaped e=true) (t:zAG K H kb r b):zAG K H kb ((k,v)::r) (PyData.eqv d e && b)
noncomputable def zNg (neg:Bool) (K:PySem.W.Frag):R2:=fun x y H Q=>∃ a b ka kb r,x=.ref a/\y=.ref b/\H a=some (.dK ka)/\H b=some (.dK kb)/\(ka.length=kb.length->zAG K H kb ka r)/\Q (.bl (if neg then !(ka.length == kb.length && r) else (ka.length == kb.length && r))) H
theorem zFd {X:Cx}{pins:List (Addr×Obj)}{σ:St}{H:Hp}{s:Shared}{A:Around} (I:Inv X pins σ H s) (hu:A.units+64 < cLine) {kb:List (Key×V)}{vb:List (Key×Value)} (rb:KV kb vb):∀ {ka:List (Key×V)}{va:List (Key×Value)}{r:Bool},KV ka va->zAG X.K H kb ka r->PySem.W.KeqHits A s vb va r
 | _,_,_,ra,.nil=>by cases ra;exact .nil
 | _,_,_,ra,.miss h=>by
  cases ra with
  | @cons p q ps qs h1 t =>
   obtain⟨k,v⟩:=q
   have hk:_=k:=h1.1
   have hv:=rb.val k
   rw[<- hk,h] at hv
   refine .miss ?_
   rw[<- hk]
   cases q2:valueAt vb _ with
   | none=>rfl
   | some w=>rw[q2] at hv;exact hv.elim
 | _,_,_,ra,.hit h hd he sd se t=>by
  cases ra with
  | @cons p q ps qs h1 t1 =>
   obtain⟨k,v⟩:=q
   have hk:_=k:=h1.1
   have hv:=rb.val k
   rw[<- hk,h] at hv
   cases q2:valueAt vb k with
   | none=>rw[hk,q2] at hv;exact hv.elim
   | some w =>
    rw[hk,q2] at hv
    obtain⟨as,r1⟩:=hd.reads I h1.2
    obtain⟨bs,r2⟩:=he.reads I hv
    exact .hit q2 (SeqAt.eqAt_reads _ _ A s _ _ as bs r1 r2 (SeqAt.canLay_of_shaped sd) (SeqAt.canLay_of_shaped se) (SeqAt.room_of_shaped sd hu)) (zFd I hu rb t1 t)
theorem zQg {X:Cx}{k:Nat} (hr:jL k X.A):OpR X (compareOp .Eq) (zNg false X.K):=by
 intro pins s σ H x y v u Q I rx ry h
 obtain⟨a,b,ka,kb,r,rfl,rfl,ha,hb,hh,q⟩:=h
 cases rx;cases ry
 obtain⟨za,la,va,ra,da⟩:=zDk I.hok ha
 obtain⟨zb,lb,vb,rb,db⟩:=zDk I.hok hb
 refine PySem.W.keq_eq la lb da db hr.units0 (fun e=>zFd I (by show X.A.units+1+64 < _;have:=hr.un;omega) rb ra (hh (by rw[ra.length,rb.length];exact e))) ⟨.bl _,H,I,rfl,?_⟩
 rw[<- ra.length,<- rb.length]
 exact q
theorem zPo {X:Cx}{k:Nat} (hr:jL k X.A):OpR X (compareOp .NotEq) (zNg true X.K):=by
 intro pins s σ H x y v u Q I rx ry h
 obtain⟨a,b,ka,kb,r,rfl,rfl,ha,hb,hh,q⟩:=h
 cases rx;cases ry
 obtain⟨za,la,va,ra,da⟩:=zDk I.hok ha
 obtain⟨zb,lb,vb,rb,db⟩:=zDk I.hok hb
 refine PySem.W.keq_ne la lb da db hr.units0 (fun e=>zFd I (by show X.A.units+1+64 < _;have:=hr.un;omega) rb ra (hh (by rw[ra.length,rb.length];exact e))) ⟨.bl _,H,I,rfl,?_⟩
 rw[<- ra.length,<- rb.length]
 exact q
theorem zHG {ρ:List Addr}{H:Hp}{S:M.S} (rp:zX K Θ ρ S H) {ws:List (M.D×M.D)}{kb:List (Key×V)} (rb:DR K ρ H ws kb):∀ {ks:List (M.D×M.D)}{ka:List (Key×V)}{b:Bool},DR K ρ H ks ka->M.dEq S ws ks=some b->zAG K H kb ka b
 | _,_,_,.nil,e=>by cases e;exact .nil
 | (k,v)::ks,(kk,vv)::ka,b,.cons h t,e=>by
  have hv:=DR.val rb h.1
  unfold M.dEq at e
  cases q:M.ZM k ws with
  | none =>
   rw[q] at e hv
   cases e
   exact .miss hv
  | some w =>
   rw[q] at e hv
   obtain⟨y,hy,ry⟩:=hv
   dsimp only at e
   cases q1:M.toP 8 S v with
   | none=>rw[q1] at e;cases e
   | some p1 =>
    cases q2:M.toP 8 S w with
    | none=>rw[q1,q2] at e;cases e
    | some p2 =>
     cases q3:M.dEq S ws ks with
     | none=>rw[q1,q2,q3] at e;cases e
     | some b' =>
      rw[q1,q2,q3] at e
      dsimp only at e
      by_cases hc:M.P.dep p1 <= 64/\M.P.dep p2 <= 64
      ·rw[if_pos hc] at e
       cases e
       obtain⟨d1,c1⟩:=zC8 rp _ q1 h.2
       obtain⟨d2,c2⟩:=zC8 rp _ q2 ry
       rw[<- zFn]
       refine .hit hy d1 d2 ?_ ?_ (zHG rp rb t q3)
       ·unfold SeqAt.shaped;rw[c1,Bool.true_and,zBw];exact decide_eq_true hc.1
       ·unfold SeqAt.shaped;rw[c2,Bool.true_and,zBw];exact decide_eq_true hc.2
      ·rw[if_neg hc] at e;cases e
theorem zHg {ρ:List Addr}{H:Hp}{S:M.S}{x y:M.D}{X1 Y:V}{Q':Bool->Hp->Prop} (rp:zX K Θ ρ S H) (rx:zN K ρ H x X1) (ry:zN K ρ H y Y) (h:zG K Θ rB ρ H (M.zE0 x y S) Q') :
  ∃ a b ka kb r,X1=.ref a/\Y=.ref b/\H a=some (.dK ka)/\H b=some (.dK kb)/\(ka.length=kb.length->zAG K H kb ka r)/\Q' (ka.length == kb.length && r) H:=by
 unfold M.zE0 at h
 split at h
 ·rename_i i j
  split at h
  ·rename_i ks ws e1 e2
   obtain⟨a,rfl,ha⟩:=rx
   obtain⟨b,rfl,hb⟩:=ry
   obtain⟨ka,h1,r1⟩:=zB7 rp ha e1
   obtain⟨kb,h2,r2⟩:=zB7 rp hb e2
   have l1:=Paired.length r1
   have l2:=Paired.length r2
   split at h
   ·rename_i hl
    split at h
    ·rename_i bb q
     refine⟨a,b,ka,kb,bb,rfl,rfl,h1,h2,fun _=>zHG rp r2 r1 q,?_⟩
     rw[show (ka.length == kb.length)=true by rw[beq_iff_eq];omega,Bool.true_and]
     exact zG.here (b:=bb) h rp rfl
    ·exact h.elim
   ·rename_i hl
    refine⟨a,b,ka,kb,false,rfl,rfl,h1,h2,fun e=>absurd (by omega) hl,?_⟩
    rw[Bool.and_false]
    exact zG.here (b:=false) h rp rfl
  ·exact h.elim
 ·exact h.elim
noncomputable def zJZ (K:PySem.W.Frag) (neg:Bool):R2:=fun x y H Q=>(zF5 x y=true/\Q (.bl (if neg then !decide (x=y) else decide (x=y))) H)\/zMq K neg x y H Q\/zNg neg K x y H Q
theorem ju {X:Cx}{k:Nat} (hr:jL k X.A):OpR X (compareOp .Eq) (zJZ X.K false):=by
 intro pins s σ H x y v u Q I rx ry h
 rcases h with h | h | h
 ·exact zRi pins s σ H x y v u Q I rx ry h
 ·exact zPl hr pins s σ H x y v u Q I rx ry h
 ·exact zQg hr pins s σ H x y v u Q I rx ry h
theorem zH3 {X:Cx}{k:Nat} (hr:jL k X.A):OpR X (compareOp .NotEq) (zJZ X.K true):=by
 intro pins s σ H x y v u Q I rx ry h
 rcases h with h | h | h
 ·exact zRu pins s σ H x y v u Q I rx ry h
 ·exact zQ7 hr pins s σ H x y v u Q I rx ry h
 ·exact zPo hr pins s σ H x y v u Q I rx ry h
theorem zIw {ρ:List Addr}{H:Hp}{S:M.S}{x y:M.D}{X1 Y:V}{Q':Bool->Hp->Prop} (rp:zX K Θ ρ S H) (rx:zN K ρ H x X1) (ry:zN K ρ H y Y) (h:zG K Θ rB ρ H (M.eqD x y S) Q') :
  (zF5 X1 Y=true/\Q' (decide (X1=Y)) H)\/(∃ d e,qv K H X1 d/\qv K H Y e/\SeqAt.shaped d=true/\SeqAt.shaped e=true/\Q' (PyData.eqv d e) H)\/∃ a b ka kb r,X1=.ref a/\Y=.ref b/\H a=some (.dK ka)/\H b=some (.dK kb)/\(ka.length=kb.length->zAG K H kb ka r)/\Q' (ka.length == kb.length && r) H:=by
 have gen:∀ {p q:M.P},M.toP M.Q1 S x=some p->M.toP M.Q1 S y=some q->M.P.dep p <= 64/\M.P.dep q <= 64->Q' (M.P.eqv p q) H->∃ d e,qv K H X1 d/\qv K H Y e/\SeqAt.shaped d=true/\SeqAt.shaped e=true/\Q' (PyData.eqv d e) H:=fun {p q} e1 e2 hd hq=>by
  obtain⟨d1,c1⟩:=zC8 rp _ e1 rx
  obtain⟨d2,c2⟩:=zC8 rp _ e2 ry
  refine⟨_,_,d1,d2,?_,?_,by rw[zFn];exact hq⟩
  ·unfold SeqAt.shaped;rw[c1,Bool.true_and,zBw];exact decide_eq_true hd.1
  ·unfold SeqAt.shaped;rw[c2,Bool.true_and,zBw];exact decide_eq_true hd.2
 have qU:zG K Θ rB ρ H (match M.toP M.Q1 S x,M.toP M.Q1 S y with
   | some p,some q=>if M.P.dep p <= 64/\M.P.dep q <= 64 then M.R.ok (M.P.eqv p q) S else .no
   | _,_=>M.zE0 x y S) Q'->(∃ d e,qv K H X1 d/\qv K H Y e/\SeqAt.shaped d=true/\SeqAt.shaped e=true/\Q' (PyData.eqv d e) H)\/∃ a b ka kb r,X1=.ref a/\Y=.ref b/\H a=some (.dK ka)/\H b=some (.dK kb)/\(ka.length=kb.length->zAG K H kb ka r)/\Q' (ka.length == kb.length && r) H:=fun h'=>by
  cases e1:M.toP M.Q1 S x with
  | none=>rw[e1] at h';exact .inr (zHg rp rx ry h')
  | some p =>
   cases e2:M.toP M.Q1 S y with
   | none=>rw[e1,e2] at h';exact .inr (zHg rp rx ry h')
   | some q =>
    rw[e1,e2] at h'
    dsimp only at h'
    by_cases hc:M.P.dep p <= 64/\M.P.dep q <= 64
    ·rw[if_pos hc] at h';exact .inl <| gen e1 e2 hc (zG.here (b:=M.P.eqv p q) h' rp rfl)
    ·rw[if_neg hc] at h';exact h'.elim
 have sc:∀ {b:Bool},zF5 X1 Y=true->decide (X1=Y)=b->M.eqD x y S=.ok b S->(zF5 X1 Y=true/\Q' (decide (X1=Y)) H):=fun {b} h1 h2 h3=>by
  rw[h3] at h
  rw[h2]
  exact⟨h1,zG.here (b:=b) h rp rfl⟩
 cases x with
 | str a =>
  cases y with
  | str b =>
   obtain⟨rfl,_⟩:=rx
   obtain⟨rfl,_⟩:=ry
   refine .inl (sc rfl ?_ rfl)
   by_cases hab:a=b
   ·subst hab;simp
   ·rw[decide_eq_false hab,decide_eq_false fun e=>hab (zDh (V.str.inj e))]
  | _=>exact .inr (qU h)
 | int a =>
  cases y with
  | int b =>
   cases rx;cases ry
   refine .inl (sc rfl ?_ rfl)
   by_cases hab:a=b
   ·subst hab;simp
   ·rw[decide_eq_false hab,decide_eq_false fun e=>hab (V.int.inj e)]
  | _=>exact .inr (qU h)
 | bl a =>
  cases y with
  | bl b =>
   cases rx;cases ry
   refine .inl (sc rfl ?_ rfl)
   by_cases hab:a=b
   ·subst hab;simp
   ·rw[decide_eq_false hab,decide_eq_false fun e=>hab (V.bl.inj e)]
  | _=>exact .inr (qU h)
 | non =>
  cases y with
  | non=>cases rx;cases ry;exact .inl (sc rfl rfl rfl)
  | _=>exact .inr (qU h)
 | _=>exact .inr (qU h)
theorem qV:AdC K Θ M.cEq (zJZ K false):=by
 intro ρ H S x y X1 Y Q rp rx ry h
 rcases zIw rp rx ry h with h | ⟨d,e,h1,h2,h3,h4,h5⟩ | ⟨a,b,ka,kb,r,h⟩
 ·exact .inl h
 ·exact .inr (.inl ⟨d,e,h1,h2,h3,h4,h5⟩)
 ·exact .inr (.inr ⟨a,b,ka,kb,r,h⟩)
theorem zKF:AdC K Θ M.cNe (zJZ K true):=by
 intro ρ H S x y X1 Y Q rp rx ry h
 have h':zG K Θ rB ρ H (M.eqD x y S) (fun b H'=>Q (.bl (!b)) H'):=zG.bind h fun ρ1 H1 b b' S1 p1 l1 rp1 e h1=>by cases e;exact zG.here (b:=!b) h1 rp1 rfl
 rcases zIw rp rx ry h' with h | ⟨d,e,h1,h2,h3,h4,h5⟩ | ⟨a,b,ka,kb,r,h⟩
 ·exact .inl h
 ·exact .inr (.inl ⟨d,e,h1,h2,h3,h4,h5⟩)
 ·exact .inr (.inr ⟨a,b,ka,kb,r,h⟩)
end
end L2
namespace L2
open PySem PySem.Spec PyProof.Rows
section
variable {K:PySem.W.Frag}{Θ:Tab}
theorem zBu (n d:Nat) (o:Option Int):M.sIx n d o=HT.sIx n d o:=by
 cases o with
 | none=>rfl
 | some v =>
  have:=HT.zF1 v n d
  show (if v < 0 then max (v+(n:Int)) 0 else min v (n:Int)).toNat=_
  rw[this];simp
theorem zOQ {x:M.T}{lo hi:Option Int}:∀ c∈M.cut x lo hi,c∈x:=fun c hc=>List.mem_of_mem_drop (List.mem_of_mem_take hc)
theorem zFt {ρ:List Addr}{H:Hp}{ds:List M.D}{xs:List V} (r:zP K ρ H ds xs) (lo hi:Option Int):zP K ρ H (M.cut ds lo hi) (zBj xs lo hi):=by
 unfold M.cut zBj
 rw[zBu,zBu,r.length]
 exact (r.drop _).take _
theorem zCb:∀ ρ H S x X1 l u Q,zX K Θ ρ S H->zN K ρ H x X1->zG K Θ (zN K) ρ H (M.slD x l u S) Q->uSl K X1 l u H Q:=by
 intro ρ H S x X1 l u Q rp rx h
 cases x with
 | str z =>
  obtain⟨rfl,ok⟩:=rx
  by_cases hz:z.length <= M.SZ
  ·simp only[M.slD,if_pos hz] at h
   refine⟨by rw[ji,<- Za];exact hz,zG.here h rp ⟨?_,zAu ok zOQ⟩⟩
   show V.str (zFk (ofT z) l u)=V.str (ofT (M.cut z l u))
   unfold zFk M.cut ofT
   have e:(⟨z.toArray⟩:Str).length=z.length:=by simp[Str.length]
   rw[e,zBu,zBu]
  ·simp only[M.slD,if_neg hz] at h;exact h.elim
 | tup ds =>
  obtain⟨a,xs,rfl,hq,r⟩:=rx
  by_cases hc:M.sIx ds.length 0 l=0/\M.sIx ds.length ds.length u=ds.length
  ·simp only[M.slD,if_pos hc] at h;exact h.elim
  ·simp only[M.slD,if_neg hc] at h
   refine .inr ⟨xs,hq,?_,fun p hp=>h ρ _ _ (List.prefix_refl _) (Le.new hp _) (rp.aside hp _) ⟨p,_,rfl,SqT.of qD,(zFt r l u).mono (List.prefix_refl _) (Le.new hp _)⟩⟩
   rw[zBu,zBu,r.length] at hc
   exact hc
 | ro ds =>
  obtain⟨a,xs,rfl,hq,r⟩:=rx
  exact .inl ⟨xs,hq.sq,fun p hp=>zG.alloc h rp (zFt r l u) hp⟩
 | ref p =>
  obtain⟨a,rfl,ea⟩:=rx
  cases q:S[p]? with
  | none=>simp[M.slD,M.jB,q] at h;exact h.elim
  | some o =>
   cases o with
   | lst xs =>
    simp only[M.slD,M.jB,q] at h
    obtain⟨zs,e1,r⟩:=Zn rp ea q
    exact .inl ⟨zs,SqL.of e1,fun p hp=>zG.alloc h rp (zFt r l u) hp⟩
   | dct kvs=>simp[M.slD,M.jB,q] at h;exact h.elim
   | fdc _=>simp[M.slD,M.jB,q] at h;exact h.elim
   | ins c fs=>simp[M.slD,M.jB,q] at h;exact h.elim
 | _=>exact h.elim
theorem zGG {ρ:List Addr}{H:Hp}:∀ {ds:List M.D}{ys:List V}{bs:List Bool},M.zBX ds=some bs->zP K ρ H ds ys->ys=bs.map V.bl
 | [],_,_,e,r=>by cases e;cases r;rfl
 | .bl b::ds,_,_,e,r=>by
  obtain⟨y,ys,rfl,r1,r2⟩:=r
  cases r1
  have e':(M.zBX ds).map (b :: ·)=some _:=e
  cases q:M.zBX ds with
  | none=>rw[q] at e';cases e'
  | some cs=>rw[q] at e';cases e';rw[zGG q r2];rfl
 | .non::_,_,_,e,_=>by cases e
 | .int _::_,_,_,e,_=>by cases e
 | .str _::_,_,_,e,_=>by cases e
 | .tup _::_,_,_,e,_=>by cases e
 | .ro _::_,_,_,e,_=>by cases e
 | .ref _::_,_,_,e,_=>by cases e
 | .ty _::_,_,_,e,_=>by cases e
theorem zJM:AdK K Θ M.zEG (zQf K):=by
 intro ρ H S ds ys p Q rp r hq h
 cases e:M.zBX ds with
 | none=>simp only[M.zEG,e] at h;exact h.elim
 | some bs =>
  simp only[M.zEG,e] at h
  have:=zGG e r
  subst this
  exact⟨p,bs,rfl,hq,zG.here (b:=V.bl (bs.all id)) h rp rfl⟩
theorem zBT {ρ:List Addr}{H:Hp}:∀ {ds:List M.D}{ys:List V}{ts:List M.T},M.QS ds=some ts->zP K ρ H ds ys->ys=(ts.map ofT).map V.str/\∀ t∈ts,okT t
 | [],_,_,e,r=>by cases e;cases r;exact⟨rfl,fun t h=>by cases h⟩
 | .str x::ds,_,_,e,r=>by
  obtain⟨y,ys,rfl,r1,r2⟩:=r
  obtain⟨rfl,ok⟩:=r1
  have e':(M.QS ds).map (x :: ·)=some _:=e
  cases q:M.QS ds with
  | none=>rw[q] at e';cases e'
  | some cs =>
   rw[q] at e'
   cases e'
   obtain⟨h1,h2⟩:=zBT q r2
   refine⟨by rw[h1];rfl,fun t ht=>?_⟩
   rcases List.mem_cons.mp ht with rfl | ht
   ·exact ok
   ·exact h2 t ht
 | .non::_,_,_,e,_=>by cases e
 | .int _::_,_,_,e,_=>by cases e
 | .bl _::_,_,_,e,_=>by cases e
 | .tup _::_,_,_,e,_=>by cases e
 | .ro _::_,_,_,e,_=>by cases e
 | .ref _::_,_,_,e,_=>by cases e
 | .ty _::_,_,_,e,_=>by cases e
theorem zGB (x:M.T):∀ (ys:List M.T) (acc:M.T),((ys.map ofT).foldl (fun acc p=>acc++(ofT x).cps++p.cps) acc.toArray)=(acc++(ys.map (x ++ ·)).flatten).toArray
 | [],acc=>by simp
 | y::ys,acc=>by
  rw[List.map_cons,List.foldl_cons]
  have e:acc.toArray++(ofT x).cps++(ofT y).cps=(acc++x++y).toArray:=by simp[ofT]
  rw[e,zGB x ys]
  simp
theorem zEj (x y:M.T):∀ ys:List M.T,M.z7 x (y::ys)=y++(ys.map (x ++ ·)).flatten
 | []=>by simp[M.z7]
 | z::ys=>by
  show y++x++M.z7 x (z::ys)=_
  rw[zEj x z ys];simp
theorem zI1 (x:M.T) (ys:List M.T):Txt.join (ofT x) (ys.map ofT)=ofT (M.z7 x ys):=by
 cases ys with
 | nil=>rfl
 | cons y ys =>
  show (⟨(((y::ys).map ofT).drop 1).foldl (fun acc p=>acc++(ofT x).cps++p.cps) (((y::ys).map ofT).headD Str.empty).cps⟩:Str)=_
  rw[zEj,List.map_cons,List.drop_one,List.tail_cons]
  have:=zGB x ys y
  show (⟨(ys.map ofT).foldl _ y.toArray⟩:Str)=_
  rw[this];rfl
theorem zEN {x:M.T} (hx:okT x):∀ {ys:List M.T},(∀ t∈ys,okT t)->okT (M.z7 x ys)
 | [],_=>rfl
 | [y],h=>h y (by simp)
 | y::z::ys,h=>zDq (zDq (h y (by simp)) hx) (zEN hx fun t ht=>h t (List.mem_cons_of_mem _ ht))
theorem zJQ (ts:List M.T):((ts.map ofT).map (·.length)).sum=(ts.map List.length).sum:=by
 rw[List.map_map]
 exact congrArg List.sum (List.map_congr_left fun t _=>ji t)
theorem zEO {y:M.T} (hy:okT y):∀ ρ H S ds ys p Q,zX K Θ ρ S H->zP K ρ H ds ys->(SqL K H p ys\/SqT K H p ys)->zG K Θ (zN K) ρ H (M.Zd y ds S) Q->zJW K (.str (ofT y)) [.ref p] H Q:=by
 intro ρ H S ds ys p Q rp r hq h
 cases e:M.QS ds with
 | none=>simp only[M.Zd,e] at h;exact h.elim
 | some ts =>
  obtain⟨rfl,ok⟩:=zBT e r
  by_cases hz:(ts.map List.length).sum+ts.length * y.length <= M.SZ
  ·simp only[M.Zd,e,if_pos hz] at h
   refine⟨ofT y,p,ts.map ofT,rfl,rfl,hq,?_,?_⟩
   ·rw[zJQ,List.length_map,ji];exact hz
   ·rw[zI1];exact zG.here h rp ⟨rfl,zEN hy ok⟩
  ·simp only[M.Zd,e,if_neg hz] at h;exact h.elim
theorem zDf:AdM K Θ M.Jf (zJW K):=by
 intro ρ H S x xs X1 Xs Q rp rx rxs h
 cases x with
 | str y =>
  obtain⟨rfl,ok⟩:=rx
  match xs,rxs,h with
  | [.tup ds],rxs,h =>
   obtain⟨_,_,rfl,⟨l,ys,rfl,hq,r⟩,rfl⟩:=rxs
   exact zEO ok ρ H S ds ys l Q rp r (.inr hq) h
  | [.ro ds],rxs,h =>
   obtain⟨_,_,rfl,⟨l,ys,rfl,hq,r⟩,rfl⟩:=rxs
   exact zEO ok ρ H S ds ys l Q rp r (.inl hq.sq) h
  | [.ref p],rxs,h =>
   obtain⟨_,_,rfl,⟨a,rfl,ea⟩,rfl⟩:=rxs
   cases q:S[p]? with
   | none=>simp[M.Jf,M.zEd,M.jB,q] at h;exact h.elim
   | some o =>
    cases o with
    | lst xs =>
     simp only[M.Jf,M.zEd,M.jB,q] at h
     obtain⟨zs,e1,r⟩:=Zn rp ea q
     exact zEO ok ρ H S xs zs a Q rp r (.inl (SqL.of e1)) h
    | dct kvs=>simp[M.Jf,M.zEd,M.jB,q] at h;exact h.elim
    | fdc _=>simp[M.Jf,M.zEd,M.jB,q] at h;exact h.elim
    | ins c fs=>simp[M.Jf,M.zEd,M.jB,q] at h;exact h.elim
  | [.non],_,h=>exact h.elim
  | [.bl _],_,h=>exact h.elim
  | [.int _],_,h=>exact h.elim
  | [.str _],_,h=>exact h.elim
  | [.ty _],_,h=>exact h.elim
  | [],_,h=>exact h.elim
  | a::_::_,_,h=>cases a<;>exact h.elim
 | _=>exact h.elim
end
end L2
namespace L2
open PySem PySem.Spec PyProof.Rows
section
variable {K:PySem.W.Frag}{Θ:Tab}
theorem zC1 (a:M.T):∀ (n:Nat) (acc:Array Nat),(List.replicate n a.toArray).foldl (· ++ ·) acc=acc++((List.replicate n a).flatten).toArray
 | 0,acc=>by simp
 | n+1,acc=>by
  rw[List.replicate_succ,List.foldl_cons,zC1 a n,List.replicate_succ,List.flatten_cons]
  simp
theorem zOx (a:M.T) (n:Int) (h0:0 <= n):Txt.mul (ofT a) n=ofT (List.replicate n.toNat a).flatten:=by
 unfold Txt.mul
 by_cases h1:n < 1
 ·have e:n.toNat=0:=by omega
  rw[if_pos h1,e];rfl
 ·rw[if_neg h1]
  by_cases h2:(n == 1 || (ofT a).length == 0)=true
  ·rw[if_pos h2]
   rw[Bool.or_eq_true] at h2
   rcases h2 with h2 | h2
   ·have e:n=1:=eq_of_beq h2
    subst e
    simp
   ·have e:a.length=0:=by rw[<- ji];exact eq_of_beq h2
    have e2:a=[]:=List.length_eq_zero_iff.mp e
    subst e2
    simp[ofT]
  ·rw[if_neg h2]
   have:=zC1 a n.toNat #[]
   show (⟨(List.replicate n.toNat a.toArray).foldl (· ++ ·) #[]⟩:Str)=_
   rw[this];simp[ofT]
theorem zRG (a:M.T) (n:Int) (h0:0 <= n) (h1:n <= 1000000) (h2:a.length * n.toNat <= 1000000):MulOk (ofT a) n:=by
 refine⟨?_,fun h3 _=>?_,fun h3 _=>?_⟩
 ·rw[Bool.or_eq_false_iff]
  exact⟨decide_eq_false (by omega),decide_eq_false (by omega)⟩
 ·rw[ji]
  have hn:1 <= n.toNat:=by omega
  have ha:a.length <= 1000000:=Nat.le_trans (Nat.le_mul_of_pos_right _ (by omega)) h2
  have hd:(1000000:Int) <= (2 ^ 63 - 1) / n:=Int.le_ediv_of_mul_le (by omega) (by omega)
  omega
 ·rw[ji]
  unfold Builtin.Str.tooLong
  exact decide_eq_false (by rw[sizeLine_eq];omega)
noncomputable def zNt:R2:=fun x y H Q=>zQF x y H Q\/zQH x y H Q
theorem Jh {X:Cx}:OpR X (binaryOp .Mult) zNt:=OpR.or zR0 zPw
theorem zP.flat {ρ:List Addr}{H:Hp}{ds:List M.D}{xs:List V} (h:zP K ρ H ds xs):∀ n:Nat,zP K ρ H (List.replicate n ds).flatten (List.replicate n xs).flatten
 | 0=>rfl
 | n+1=>by
  rw[List.replicate_succ,List.replicate_succ,List.flatten_cons,List.flatten_cons]
  exact zP.app h (zP.flat h n)
theorem JZ:Ad2 K Θ M.ZA zNt:=by
 intro ρ H S x y X Y Q rp rx ry h
 cases x with
 | int i =>
  cases y with
  | int j =>
   cases rx;cases ry
   have h':zG K Θ (zN K) ρ H (if (M.ZK i || M.ZK j)=true then M.R.ok (M.D.int (i * j)) S else .no) Q:=h
   by_cases hc:(M.ZK i || M.ZK j)=true
   ·rw[if_pos hc] at h'
    refine .inl ⟨?_,zG.here (b:=V.int (i * j)) h' rp rfl⟩
    rw[Bool.or_eq_true] at hc
    rcases hc with hc | hc
    ·exact .inl (zH8 hc)
    ·exact .inr (zH8 hc)
   ·rw[if_neg hc] at h';exact h'.elim
  | _=>exact h.elim
 | str a =>
  cases y with
  | int n =>
   obtain⟨rfl,oka⟩:=rx
   cases ry
   have h':zG K Θ (zN K) ρ H (if 0 <= n/\n.natAbs <= 1000000/\a.length * n.natAbs <= 1000000 then M.R.ok (M.D.str (List.replicate n.toNat a).flatten) S else .no) Q:=h
   by_cases hc:0 <= n/\n.natAbs <= 1000000/\a.length * n.natAbs <= 1000000
   ·rw[if_pos hc] at h'
    have hn:n.natAbs=n.toNat:=by omega
    refine .inl ⟨zRG a n hc.1 (by omega) (by rw[<- hn];exact hc.2.2),?_⟩
    show Q (.str (Txt.mul (ofT a) n)) H
    rw[zOx a n hc.1]
    refine zG.here h' rp ⟨rfl,zAu oka fun c hc=>?_⟩
    obtain⟨l,hl,hcl⟩:=List.mem_flatten.mp hc
    rw[(List.mem_replicate.mp hl).2] at hcl
    exact hcl
   ·rw[if_neg hc] at h';exact h'.elim
  | _=>exact h.elim
 | ref p =>
  cases y with
  | int n =>
   cases ry
   have h':zG K Θ (zN K) ρ H (match M.jB S p with | some xs=>if n.natAbs <= 1000/\xs.length * n.natAbs <= 1000000 then M.alloc (.lst (List.replicate n.toNat xs).flatten) S else .no | none=>.no) Q:=h
   cases q:S[p]? with
   | none=>simp only[M.jB,q] at h';exact h'.elim
   | some o =>
    cases o with
    | lst ds =>
     simp only[M.jB,q] at h'
     obtain⟨a,rfl,ea⟩:=rx
     obtain⟨zs,e1,r⟩:=Zn rp ea q
     by_cases hc:n.natAbs <= 1000/\ds.length * n.natAbs <= 1000000
     ·rw[if_pos hc] at h'
      have hn:n.toNat <= n.natAbs:=by omega
      refine .inr ⟨a,n,zs,rfl,rfl,e1,by omega,by omega,?_,fun p hp=>zG.alloc h' rp (zP.flat r n.toNat) hp⟩
      have hm:=Nat.mul_le_mul_left ds.length hn
      rw[<- r.length,sizeLine_eq]
      omega
     ·rw[if_neg hc] at h';exact h'.elim
    | dct _=>simp only[M.jB,q] at h';exact h'.elim
    | fdc _=>simp only[M.jB,q] at h';exact h'.elim
    | ins _ _=>simp only[M.jB,q] at h';exact h'.elim
  | _=>exact h.elim
 | _=>exact h.elim
noncomputable def zQj (K:PySem.W.Frag):R2:=fun x y H Q=>uIx K x y H Q\/∃ a v,x=.ref a/\zBZ H a y (some v)/\Q v H
theorem j0 {X:Cx}{k:Nat} (hr:jL k X.A):IxR X (zQj X.K):=by
 refine IxR.or zSY ?_
 intro value slice pins s σ H x y v u Q I rx ry h hs
 obtain⟨a,w',rfl,g,q⟩:=h
 cases rx
 exact tail_any (zIc I g) PySem.F.slot_dict_getitem.lookup (zLY (zKN hr) I g ry fun w2 s3 I3 rw'=>⟨w',H,I3,rw',q⟩) hs
noncomputable def zNx (K:PySem.W.Frag):List V->Hp->VK->Prop:=fun xs H Q=>zPZ K xs H Q\/∃ a kvs,xs=[V.ref a]/\H a=some (.dK kvs)/\Q (.int kvs.length) H
theorem yP {X:Cx}:j9 X (.builtin "len") (zNx X.K):=j9.or zRz zLa
theorem ja:Ad2 K Θ M.zY (zQj K):=by
 intro ρ H S x y X Y Q rp rx ry h
 cases x with
 | str a =>
  cases y with
  | int i =>
   obtain⟨rfl,oka⟩:=rx
   cases ry
   have h':zG K Θ (zN K) ρ H (if a.length <= M.SZ then (match M.atI a i with | some c=>M.R.ok (M.D.str [c]) S | none=>.no) else .no) Q:=h
   by_cases hc:a.length <= M.SZ
   ·rw[if_pos hc] at h'
    cases q:M.atI a i with
    | none=>rw[q] at h';exact h'.elim
    | some c =>
     rw[q] at h'
     refine .inl ⟨c,by rw[ji,<- Za];exact hc,?_,zG.here (b:=V.str (ofT [c])) h' rp ⟨rfl,zAu oka fun d hd=>by
      have e:d=c:=by simpa using hd
      rw[e]
      unfold M.atI at q
      cases qi:M.ixN a.length i with
      | none=>rw[qi] at q;cases q
      | some j=>rw[qi] at q;exact List.mem_of_getElem? q⟩⟩
     rw[y6];exact q
   ·rw[if_neg hc] at h';exact h'.elim
  | _=>exact h.elim
 | tup ds =>
  cases y with
  | int i =>
   obtain⟨l,xs,rfl,hq,r⟩:=rx
   cases ry
   have h':zG K Θ (zN K) ρ H (match M.atI ds i with | some d=>M.R.ok d S | none=>.no) Q:=h
   cases q:M.atI ds i with
   | none=>rw[q] at h';exact h'.elim
   | some d =>
    rw[q] at h'
    obtain⟨v,e1,rv⟩:=zFy r q
    exact .inl ⟨xs,v,.inr hq,e1,zG.here h' rp rv⟩
  | _=>exact h.elim
 | ro ds =>
  cases y with
  | int i =>
   obtain⟨l,xs,rfl,hq,r⟩:=rx
   cases ry
   have h':zG K Θ (zN K) ρ H (match M.atI ds i with | some d=>M.R.ok d S | none=>.no) Q:=h
   cases q:M.atI ds i with
   | none=>rw[q] at h';exact h'.elim
   | some d =>
    rw[q] at h'
    obtain⟨v,e1,rv⟩:=zFy r q
    exact .inl ⟨xs,v,.inl hq.sq,e1,zG.here h' rp rv⟩
  | _=>exact h.elim
 | ref p =>
  obtain⟨a,rfl,ea⟩:=rx
  cases q:S[p]? with
  | none=>simp[M.zY,q] at h;exact h.elim
  | some o =>
   cases o with
   | lst xs =>
    cases y with
    | int i =>
     cases ry
     obtain⟨zs,e1,r⟩:=Zn rp ea q
     cases q2:M.atI xs i with
     | none=>simp[M.zY,q,q2] at h;exact h.elim
     | some d =>
      simp[M.zY,q,q2] at h
      obtain⟨v,e2,rv⟩:=zFy r q2
      exact .inl ⟨zs,v,.inl (SqL.of e1),e2,zG.here h rp rv⟩
    | _=>simp[M.zY,q] at h;exact h.elim
   | dct kvs =>
    by_cases hk:M.Z4 y=true
    case neg=>simp[M.zY,q,hk] at h;exact h.elim
    obtain⟨ks,e1,r⟩:=zB7 rp ea q
    obtain⟨k,h1,rfl⟩:=zBx hk ry
    have hv:=r.val h1
    cases q2:M.ZM y kvs with
    | none=>simp[M.zY,q,hk,q2] at h;exact h.elim
    | some d =>
     simp[M.zY,q,hk,q2] at h
     rw[q2] at hv
     obtain⟨v,e2,rv⟩:=hv
     refine .inr ⟨a,v,rfl,?_,zG.here h rp rv⟩
     rw[<- e2]
     exact zBZ.k e1
   | fdc kvs =>
    by_cases hk:M.Z4 y=true
    case neg=>simp[M.zY,q,hk] at h;exact h.elim
    obtain⟨fo,ks,e1,r⟩:=zKo rp ea q
    obtain⟨k,h1,rfl⟩:=zBx hk ry
    have hv:=r.val h1
    cases q2:M.ZM y kvs with
    | none=>simp[M.zY,q,hk,q2] at h;exact h.elim
    | some d =>
     simp[M.zY,q,hk,q2] at h
     rw[q2] at hv
     obtain⟨v,e2,rv⟩:=hv
     refine .inr ⟨a,v,rfl,?_,zG.here h rp rv⟩
     rw[<- e2]
     exact (.inl ⟨ks,k,.inr ⟨fo,e1⟩,rfl,rfl⟩)
   | ins c fs=>simp[M.zY,q] at h;exact h.elim
 | _=>exact h.elim
theorem QB:AdN K Θ M.ZC (zNx K):=by
 intro ρ H S xs Xs Q rp rx h
 match xs,rx,h with
 | [.str a],rx,h =>
  obtain⟨_,_,rfl,⟨rfl,_⟩,rfl⟩:=rx
  have h':zG K Θ (zN K) ρ H (if a.length <= M.SZ then M.R.ok (M.D.int a.length) S else .no) Q:=h
  by_cases hc:a.length <= M.SZ
  ·rw[if_pos hc] at h'
   refine .inl ⟨by rw[ji,<- Za];exact hc,?_⟩
   rw[ji]
   exact zG.here (b:=V.int a.length) h' rp rfl
  ·rw[if_neg hc] at h';exact h'.elim
 | [.tup ds],rx,h =>
  obtain⟨_,_,rfl,⟨l,ys,rfl,hq,r⟩,rfl⟩:=rx
  exact .inl ⟨ys,.inr hq,by rw[<- r.length];exact zG.here (b:=V.int ds.length) h rp rfl⟩
 | [.ro ds],rx,h =>
  obtain⟨_,_,rfl,⟨l,ys,rfl,hq,r⟩,rfl⟩:=rx
  exact .inl ⟨ys,.inl hq.sq,by rw[<- r.length];exact zG.here (b:=V.int ds.length) h rp rfl⟩
 | [.ref p],rx,h =>
  obtain⟨_,_,rfl,⟨a,rfl,ea⟩,rfl⟩:=rx
  cases q:S[p]? with
  | none=>simp[M.ZC,q] at h;exact h.elim
  | some o =>
   cases o with
   | lst xs =>
    simp[M.ZC,q] at h
    obtain⟨zs,e1,r⟩:=Zn rp ea q
    exact .inl ⟨zs,.inl (SqL.of e1),by rw[<- r.length];exact zG.here (b:=V.int xs.length) h rp rfl⟩
   | dct kvs =>
    simp[M.ZC,q] at h
    obtain⟨ks,e1,r⟩:=zB7 rp ea q
    exact .inr ⟨a,ks,rfl,e1,by rw[<- Paired.length r];exact zG.here (b:=V.int kvs.length) h rp rfl⟩
   | fdc _=>simp[M.ZC,q] at h;exact h.elim
   | ins c fs=>simp[M.ZC,q] at h;exact h.elim
 | [.non],_,h=>exact h.elim
 | [.bl _],_,h=>exact h.elim
 | [.int _],_,h=>exact h.elim
 | [.ty _],_,h=>exact h.elim
 | [],_,h=>exact h.elim
 | a::_::_,_,h=>cases a<;>exact h.elim
noncomputable def zHR (K:PySem.W.Frag) (neg:Bool):R2:=fun x y H Q=>uIn K neg x y H Q\/∃ a o,y=.ref a/\zBZ H a x o/\Q (.bl (xor neg o.isSome)) H
theorem zKr {X:Cx}{k:Nat} (hr:jL k X.A):OpR X (compareOp .In) (zHR X.K false):=by
 refine OpR.or zSM ?_
 intro pins s σ H x y v u Q I rx ry h
 obtain⟨a,o,rfl,g,q⟩:=h
 cases ry
 exact zSI (zKN hr) I g rx fun s' I'=>⟨.bl o.isSome,H,I',rfl,by rw[Bool.false_xor] at q;exact q⟩
theorem zLW {X:Cx}{k:Nat} (hr:jL k X.A):OpR X (compareOp .NotIn) (zHR X.K true):=by
 refine OpR.or zPF ?_
 intro pins s σ H x y v u Q I rx ry h
 obtain⟨a,o,rfl,g,q⟩:=h
 cases ry
 exact zOU (zKN hr) I g rx fun s' I'=>⟨.bl (!o.isSome),H,I',rfl,by rw[Bool.true_xor] at q;exact q⟩
theorem zHe {ρ:List Addr}{H:Hp}{d:M.D}{v:V} (r:zN K ρ H d v):y9 v=M.flat d:=by
 cases d with
 | non=>cases r;rfl
 | bl _=>cases r;rfl
 | int _=>cases r;rfl
 | str _=>obtain⟨rfl,_⟩:=r;rfl
 | ty _=>cases r;rfl
 | ref _=>obtain⟨_,rfl,_⟩:=r;rfl
 | tup _=>obtain⟨_,_,rfl,_⟩:=r;rfl
 | ro _=>obtain⟨_,_,rfl,_⟩:=r;rfl
theorem zOo {ρ:List Addr}{H:Hp}{d e:M.D}{v u:V} (r:zN K ρ H d v) (q:zN K ρ H e u):eqV v u=M.eqF d e:=by
 cases d with
 | non =>
  cases r
  cases e with
  | str _=>obtain⟨rfl,_⟩:=q;rfl
  | ref _=>obtain⟨_,rfl,_⟩:=q;rfl
  | tup _=>obtain⟨_,_,rfl,_⟩:=q;rfl
  | ro _=>obtain⟨_,_,rfl,_⟩:=q;rfl
  | _=>cases q;rfl
 | bl _ =>
  cases r
  cases e with
  | str _=>obtain⟨rfl,_⟩:=q;rfl
  | ref _=>obtain⟨_,rfl,_⟩:=q;rfl
  | tup _=>obtain⟨_,_,rfl,_⟩:=q;rfl
  | ro _=>obtain⟨_,_,rfl,_⟩:=q;rfl
  | _=>cases q;rfl
 | int _ =>
  cases r
  cases e with
  | str _=>obtain⟨rfl,_⟩:=q;rfl
  | ref _=>obtain⟨_,rfl,_⟩:=q;rfl
  | tup _=>obtain⟨_,_,rfl,_⟩:=q;rfl
  | ro _=>obtain⟨_,_,rfl,_⟩:=q;rfl
  | _=>cases q;rfl
 | str x =>
  obtain⟨rfl,_⟩:=r
  cases e with
  | str y=>obtain⟨rfl,_⟩:=q;exact zJA x y
  | ref _=>obtain⟨_,rfl,_⟩:=q;rfl
  | tup _=>obtain⟨_,_,rfl,_⟩:=q;rfl
  | ro _=>obtain⟨_,_,rfl,_⟩:=q;rfl
  | _=>cases q;rfl
 | ty _=>cases r;rfl
 | ref _=>obtain⟨_,rfl,_⟩:=r;rfl
 | tup _=>obtain⟨_,_,rfl,_⟩:=r;rfl
 | ro _=>obtain⟨_,_,rfl,_⟩:=r;rfl
theorem zGW {ρ:List Addr}{H:Hp}:∀ {ds:List M.D}{xs:List V},zP K ρ H ds xs->xs.all y9=ds.all M.flat
 | [],_,r=>by cases r;rfl
 | _::_,_,⟨y,ys,e,r1,r2⟩=>by subst e;rw[List.all_cons,List.all_cons,zHe r1,zGW r2]
theorem zHH {ρ:List Addr}{H:Hp}{x:M.D}{v:V} (rx:zN K ρ H x v):∀ {ds:List M.D}{xs:List V},zP K ρ H ds xs->inV v xs=M.Jd x ds
 | [],_,r=>by cases r;rfl
 | _::_,_,⟨y,ys,e,r1,r2⟩=>by
  subst e
  unfold inV M.Jd
  rw[List.any_cons,List.any_cons,zOo r1 rx]
  have:=zHH rx r2
  unfold inV M.Jd at this
  rw[this]
theorem zEX (a:M.T):∀ b:M.T,M.zC7 a b=true ↔ ∃ i,i+a.length <= b.length/\(b.drop i).take a.length=a
 | []=>by
  simp only[M.zC7,List.isEmpty_iff]
  constructor
  ·rintro rfl;exact⟨0,by simp,by simp⟩
  ·rintro ⟨i,h,e⟩
   simp at h
   exact h.2
 | c::r=>by
  simp only[M.zC7,Bool.or_eq_true,zEX a r]
  constructor
  ·rintro (h | ⟨i,h,e⟩)
   ·have:=List.isPrefixOf_iff_prefix.mp h
    exact⟨0,by simpa using this.length_le,by simpa using (List.prefix_iff_eq_take.mp this).symm⟩
   ·exact⟨i+1,by simp;omega,by simpa using e⟩
  ·rintro ⟨i,h,e⟩
   cases i with
   | zero=>left;exact List.isPrefixOf_iff_prefix.mpr (List.prefix_iff_eq_take.mpr (by simpa using e.symm))
   | succ i=>right;exact⟨i,by simp at h;omega,by simpa using e⟩
theorem zKp (a b:M.T) (i:Nat):StrLaws.At (ofT b) (ofT a) (ofT b).length i↔(i+a.length <= b.length/\(b.drop i).take a.length=a):=by
 unfold StrLaws.At Builtin.Str.subAt
 rw[ji,ji]
 refine and_congr_right fun _=>?_
 rw[beq_iff_eq]
 constructor
 ·intro h
  have:=congrArg Array.toList h
  simpa [ofT,List.extract_eq_take_drop] using this
 ·intro h
  apply Array.ext'
  simpa [ofT,List.extract_eq_take_drop] using h
theorem zOj (a b:M.T):(!(Builtin.Str.occurrences (ofT b) (ofT a) 0 (ofT b).length 1).isEmpty)=M.zC7 a b:=by
 rcases StrLaws.occ_head (ofT b) (ofT a) 1 (by decide) with ⟨e,h⟩ | ⟨i,r,e,h,_⟩
 ·rw[e]
  have:¬ M.zC7 a b=true:=fun q=>by
   obtain⟨i,q⟩:=(zEX a b).mp q
   exact h i ((zKp a b i).mpr q)
  simpa using this
 ·rw[e]
  have:=(zEX a b).mpr ⟨i,(zKp a b i).mp h⟩
  simp[this]
theorem zJK {neg:Bool}{ρ:List Addr}{H:Hp}{S:M.S}{x y:M.D}{X1 Y:V}{Q:VK} (rp:zX K Θ ρ S H) (rx:zN K ρ H x X1) (ry:zN K ρ H y Y) (h:zG K Θ rB ρ H (M.inD x y S) (fun b H'=>Q (.bl (xor neg b)) H')):zHR K neg X1 Y H Q:=by
 have seq:∀ {ds:List M.D}{xs:List V}{a:Addr},(SqL K H a xs\/SqT K H a xs)->zP K ρ H ds xs->zG K Θ rB ρ H (if (M.flat x && ds.all M.flat)=true then M.R.ok (M.Jd x ds) S else .no) (fun b H'=>Q (.bl (xor neg b)) H')->uIn K neg X1 (.ref a) H Q:=fun {ds xs a} hq r h'=>by
  by_cases hc:(M.flat x && ds.all M.flat)=true
  ·rw[if_pos hc] at h'
   rw[Bool.and_eq_true,<- zHe rx,<- zGW r] at hc
   have:=zG.here (b:=M.Jd x ds) h' rp rfl
   rw[<- zHH rx r] at this
   have g:∃ xs,(SqL K H a xs\/SqT K H a xs)/\y9 X1=true/\xs.all y9=true/\Q (.bl (xor neg (inV X1 xs))) H:=⟨xs,hq,hc.1,hc.2,this⟩
   cases X1<;>exact g
  ·rw[if_neg hc] at h';exact h'.elim
 cases y with
 | str b =>
  cases x with
  | str a =>
   obtain⟨rfl,_⟩:=rx
   obtain⟨rfl,_⟩:=ry
   refine .inl ?_
   show Q (.bl (xor neg (!(Builtin.Str.occurrences (ofT b) (ofT a) 0 (ofT b).length 1).isEmpty))) H
   rw[zOj]
   exact zG.here (b:=M.zC7 a b) h rp rfl
  | _=>exact h.elim
 | tup ds =>
  obtain⟨l,xs,rfl,hq,r⟩:=ry
  exact .inl (seq (.inr hq) r h)
 | ro ds =>
  obtain⟨l,xs,rfl,hq,r⟩:=ry
  exact .inl (seq (.inl hq.sq) r h)
 | ref p =>
  obtain⟨a,rfl,ea⟩:=ry
  cases q:S[p]? with
  | none=>simp[M.inD,q] at h;exact h.elim
  | some o =>
   cases o with
   | lst ds =>
    obtain⟨zs,e1,r⟩:=Zn rp ea q
    refine .inl (seq (.inl (SqL.of e1)) r ?_)
    simp only[M.inD,q] at h
    exact h
   | dct kvs =>
    by_cases hk:M.Z4 x=true
    case neg=>simp[M.inD,q,hk] at h;exact h.elim
    simp only[M.inD,q,if_pos hk] at h
    obtain⟨ks,e1,r⟩:=zB7 rp ea q
    obtain⟨k,h1,rfl⟩:=zBx hk rx
    have hv:=r.val h1
    refine .inr ⟨a,Zc ks k,rfl,zBZ.k e1,?_⟩
    have e2:(Zc ks k).isSome=(M.ZM x kvs).isSome:=by
     cases q2:M.ZM x kvs with
     | none=>rw[q2] at hv;rw[hv];rfl
     | some d=>rw[q2] at hv;obtain⟨v,e2,_⟩:=hv;rw[e2];rfl
    rw[e2]
    exact zG.here (b:=(M.ZM x kvs).isSome) h rp rfl
   | fdc kvs =>
    by_cases hk:M.Z4 x=true
    case neg=>simp[M.inD,q,hk] at h;exact h.elim
    simp only[M.inD,q,if_pos hk] at h
    obtain⟨fo,ks,e1,r⟩:=zKo rp ea q
    obtain⟨k,h1,rfl⟩:=zBx hk rx
    have hv:=r.val h1
    refine .inr ⟨a,Zc ks k,rfl,(.inl ⟨ks,k,.inr ⟨fo,e1⟩,rfl,rfl⟩),?_⟩
    have e2:(Zc ks k).isSome=(M.ZM x kvs).isSome:=by
     cases q2:M.ZM x kvs with
     | none=>rw[q2] at hv;rw[hv];rfl
     | some d=>rw[q2] at hv;obtain⟨v,e2,_⟩:=hv;rw[e2];rfl
    rw[e2]
    exact zG.here (b:=(M.ZM x kvs).isSome) h rp rfl
   | ins c fs=>simp[M.inD,q] at h;exact h.elim
 | _=>exact h.elim
theorem zN0:AdC K Θ M.cIn (zHR K false):=by
 intro ρ H S x y X1 Y Q rp rx ry h
 refine zJK rp rx ry ?_
 have h':zG K Θ rB ρ H (M.inD x y S) (fun b H'=>Q (.bl b) H'):=h
 revert h'
 cases M.inD x y S with
 | ok b s=>exact fun h' ρ1 H1 b' p l rp1 e=>by cases e;rw[Bool.false_xor];exact h' ρ1 H1 b p l rp1 rfl
 | exc e s=>exact fun h'=>h'
 | no=>exact fun h'=>h'
theorem zMf:AdC K Θ M.zK5 (zHR K true):=by
 intro ρ H S x y X1 Y Q rp rx ry h
 exact zJK rp rx ry (zG.bind h fun ρ1 H1 b b' S1 p1 l1 rp1 e h1=>by cases e;rw[Bool.true_xor];exact zG.here (b:=!b) h1 rp1 rfl)
theorem zNN {X:Cx}{pos:Pos}{x:Str}{a:Addr}{d:M.D} (h:Jy X.mg x (.ref a)) (hg:Gl X x) (r:∀ ρ H,zN X.K ρ H d (.ref a)) (hd:(x == ("__debug__" : Str))=false:=by decide):ME X Θ (.Name x pos) (M.eC d):=zCi (zH6 h hg hd) r
theorem zKc {X:Cx}{pos:Pos}{x:Str}{a:Addr}{d:M.D} (h:Jy X.mg x (.ref a)) (hg:Gl X x) (r:∀ ρ H,zN X.K ρ H d (.ref a)) (hd:(x == ("__debug__" : Str))=false:=by decide):WE X Θ (.Name x pos) (M.eC d):=by with_unfolding_all exact zNN (X:=X) (pos:=pos) (x:=x) (a:=a) (d:=d) h hg r hd
theorem zP1 {X:Cx}{e:Expr}{m:M.TM} (h:MW X Θ e m):MT X Θ e m:=PW.pt h
theorem zHt {X:Cx}{e:Expr}{m:M.TM} (h:WW X Θ e m):WT X Θ e m:=by with_unfolding_all exact zP1 (X:=X) (e:=e) (m:=m) h
theorem zEe {X:Cx}:Jb X [] (RdT X.K Θ M.Qy):=fun pins s σ H Q I ⟨ρ,σ',S,st,rp,h⟩=>zME pins s σ H Q I (zG.here (b:=true) h rp rfl)
theorem zPS {X:Cx}{c:Expr}{t:M.TM} (h:WT X Θ c t):Jb X [c] (RdT X.K Θ t):=zNf (by with_unfolding_all exact h)
theorem zHC {ρ:List Addr}{H:Hp}:∀ ns:List Int,zP K ρ H (ns.map .int) (ns.map V.int)
 | []=>rfl
 | n::ns=>⟨_,_,rfl,rfl,zHC ns⟩
theorem zPX {f:M.F} (ht:∀ ns:List Int,ns.length <= 63->∃ s,f [.ro (ns.map .int)] []=.ok (.bl true) s) {H:Hp}{a:Addr}{ns:List Int}{E:XK} (hl:ns.length <= 63) (hO:zIJ H) (hS:SqL K H a (ns.map V.int)):SpM K Θ 1 f [.ref a] H (fun v _=>v=.bl true) E:=by
 obtain⟨s,e⟩:=ht ns hl
 refine⟨[],[.ro (ns.map .int)],[],rfl,⟨_,_,rfl,⟨a,ns.map V.int,rfl,?_,zHC ns⟩,rfl⟩,⟨rfl,List.nodup_nil,fun i o q=>by simp at q⟩,?_⟩
 ·rcases hS with (h | h) | h
  ·rcases hO a with z | ⟨o,xs,z⟩
   ·rw[h] at z;cases z
   ·rw[h] at z;cases z
  ·exact .inl h
  ·exact .inr h
 ·rw[e]
  exact fun ρ' H' b _ _ _ r=>r
end
section
variable {P:Program}{w:World}{K:PySem.W.Frag}{mg:Str->Option Value}{base:Heap}{Θ:Tab}
theorem zQN {x qual:Str}{st:Stmt}{f:Addr}{fd:FuncData}{N ps:List Str}{k:Nat}{b:M.SM} (F:Fun K x qual st f fd) (Sc:zy N ps (zK st))
  (hbody:∀ (cdv:Value) (A:Around) (outer:List Env) (s:Shared) (H:Hp) (E:XK),jL k (A.deeper (envOfC qual (zK st) s.heap.objs.size f cdv)) ->
   MSs (zBB CX0 P w K mg base N qual (zK st) f cdv A outer s H E).nox Θ (zi st) b):jU P w K mg base CX0 (k+1) f fd ps (SpM K Θ ps.length (M.fn N.length b)):=by
 refine F.ok (k:=k) Sc (fun vs H Q E h=>?_) (fun cdv A outer s H vs Q E hr h=>?_)
 ·obtain⟨ρ,ds,S,hl,r,_⟩:=h
  rw[<- r.length,hl]
 ·obtain⟨ρ,ds,S,hl,r,rp,h⟩:=h
  refine⟨_,hbody cdv A outer s H E hr,ρ,_,S,zGR r N,rp,?_⟩
  have h':zG K Θ (zN K) ρ H (b (ds.map some++List.replicate (N.length - ds.length) none) S).out Q:=h
  show zx K Θ ρ H (b (ds.map some++List.replicate (N.length - ds.length) none) S) _
  revert h'
  cases b (ds.map some++List.replicate (N.length - ds.length) none) S with
  | rt a s=>exact fun h'=>h'
  | nx a s=>exact fun h' ρ1 H1 σ1 p1 l1 rp1 _=>h' ρ1 H1 .non p1 l1 rp1 rfl
  | bk a s=>exact fun h'=>h'.elim
  | ct a s=>exact fun h'=>h'.elim
  | exc e a s=>exact fun h'=>h'
  | no=>exact fun h'=>h'
theorem qS {x qual:Str}{st:Stmt}{f:Addr}{fd:FuncData}{N ps:List Str}{k:Nat}{b:M.SM} (F:Fun K x qual st f fd) (Sc:zy N ps (zK st))
  (hbody:∀ (cdv:Value) (A:Around) (outer:List Env) (s:Shared) (H:Hp) (E:XK),jL k (A.deeper (envOfC qual (zK st) s.heap.objs.size f cdv)) ->
   WSs (zBB CX0 P w K mg base N qual (zK st) f cdv A outer s H E).nox Θ (zi st) b):jU P w K mg base CX0 (k+1) f fd ps (SpM K Θ ps.length (M.fn N.length b)):=by with_unfolding_all exact zQN (x:=x) (qual:=qual) (st:=st) (f:=f) (fd:=fd) (N:=N) (ps:=ps) (k:=k) (b:=b) F Sc hbody
end
theorem zLS:bootBuiltins "sorted" = some (.builtin "sorted"):=by decide +kernel
theorem zPk:bootBuiltins "min" = some (.builtin "min"):=by decide +kernel
theorem zQy:bootBuiltins "max" = some (.builtin "max"):=by decide +kernel
end L2
namespace L2
open PySem PySem.Spec PyProof.Rows PySem.Builtin.Str
section
variable {K:PySem.W.Frag}{Θ:Tab}
theorem zDK (c:Nat):∀ l:M.T,M.zf c l=TX.qO c l
 | []=>rfl
 | d::r=>by
  unfold M.zf TX.qO
  rw[zDK c r]
  rfl
theorem zFN (c:Nat):∀ (l p:List Nat),p∈TX.qO c l->∀ x∈p,x∈l
 | [],p,hp,x,hx=>by
  simp only[TX.qO,List.mem_cons,List.not_mem_nil,or_false] at hp
  subst hp
  exact absurd hx (by simp)
 | d::r,p,hp,x,hx=>by
  have ih:=zFN c r
  unfold TX.qO at hp
  split at hp
  ·rcases List.mem_cons.mp hp with rfl | hp
   ·cases hx
   ·exact List.mem_cons_of_mem _ (ih p hp x hx)
  ·cases q:TX.qO c r with
   | nil=>exact absurd q (TX.zLH c r)
   | cons a as =>
    rw[q] at hp ih
    rcases List.mem_cons.mp hp with rfl | hp
    ·rcases List.mem_cons.mp hx with rfl | hx
     ·exact List.mem_cons_self
     ·exact List.mem_cons_of_mem _ (ih a List.mem_cons_self x hx)
    ·exact List.mem_cons_of_mem _ (ih p (List.mem_cons_of_mem _ hp) x hx)
theorem zEP {ρ:List Addr}{H:Hp}:∀ (ts:List M.T),(∀ t∈ts,okT t)->zP K ρ H (ts.map .str) ((ts.map ofT).map V.str)
 | [],_=>rfl
 | t::ts,h=>⟨_,_,rfl,⟨rfl,h t List.mem_cons_self⟩,zEP ts fun x hx=>h x (List.mem_cons_of_mem _ hx)⟩
theorem zHL:AdM K Θ M.zDc zL2:=by
 intro ρ H S x xs X Xs Q rp rx rxs h
 unfold M.zDc at h
 split at h
 ·rename_i z c
  obtain⟨rfl,okz⟩:=rx
  obtain⟨Y,r,rfl,⟨rfl,okc⟩,rfl⟩:=rxs
  split at h
  ·rename_i hl
   refine⟨ofT z,ofT [c],rfl,rfl,rfl,by rw[ji,<- Za];exact hl,fun p hp=>?_⟩
   rw[show ofT [c]=⟨#[c]⟩ from rfl,TX.zMt,y6,<- zDK]
   refine h.alloc rp (zEP (M.zf c z) fun t ht=>zAu okz fun d hd=>?_) hp
   rw[zDK] at ht
   exact zFN c z t ht d hd
  ·exact h.elim
 ·exact h.elim
theorem zAA {ρ:List Addr}{H:Hp}{S:M.S}{p:Nat}{X:V}{ds:List M.D} (rp:zX K Θ ρ S H) (rx:zN K ρ H (.ref p) X) (e:S[p]? = some (.lst ds)):∃ a xs,X=.ref a/\ρ[p]? = some a/\H a=some (.lst xs)/\zP K ρ H ds xs:=by
 obtain⟨a,rfl,ha⟩:=rx
 obtain⟨b,hb,xs,hx,r⟩:=rp.obj p _ e
 rw[ha] at hb;cases hb
 exact⟨a,xs,rfl,ha,hx,r⟩
theorem zAt {H:Hp}{a:Addr}{xs:List V} (h:H a=some (.lst xs)):Mut (H a):=by rw[h];trivial
theorem ym:AdM K Θ M.yL zJH:=by
 intro ρ H S x xs X Xs Q rp rx rxs h
 unfold M.yL at h
 split at h
 ·rename_i p y
  obtain⟨Y,r,rfl,ry,rfl⟩:=rxs
  split at h
  ·rename_i ds e
   obtain⟨a,zs,rfl,ha,hx,rz⟩:=zAA rp rx e
   split at h
   ·rename_i hl
    have le:=Le.put (zAt hx) (.lst (zs++[Y]))
    refine⟨a,zs,Y,rfl,rfl,hx,by rw[<- Za,<- rz.length];exact hl,?_⟩
    exact h ρ _ _ (List.prefix_refl _) le (rp.put ha (zAt hx) ⟨_,qD,(rz.mono (List.prefix_refl _) le).app ⟨_,_,rfl,ry.mono (List.prefix_refl _) le,rfl⟩⟩) rfl
   ·exact h.elim
  ·exact h.elim
 ·exact h.elim
theorem zAM:AdM K Θ M.y4 zRN:=by
 intro ρ H S x xs X Xs Q rp rx rxs h
 unfold M.y4 at h
 split at h
 ·rename_i p
  cases rxs
  split at h
  ·rename_i ds e
   obtain⟨a,zs,rfl,ha,hx,rz⟩:=zAA rp rx e
   split at h
   ·rename_i y hy
    rw[List.getLast?_eq_getElem?] at hy
    obtain⟨Y,hY,ry⟩:=rz.get hy
    have le:=Le.put (zAt hx) (.lst zs.dropLast)
    exact⟨a,zs,Y,rfl,rfl,hx,by rw[<- rz.length];exact hY,h ρ _ _ (List.prefix_refl _) le (rp.put ha (zAt hx) ⟨_,qD,rz.dropLast.mono (List.prefix_refl _) le⟩) (ry.mono (List.prefix_refl _) le)⟩
   ·exact h.elim
  ·exact h.elim
 ·exact h.elim
end
end L2
namespace L2
open PySem PySem.Spec PyProof.Rows PySem.Builtin.Str
section
variable {K:PySem.W.Frag}{Θ:Tab}
theorem zIj (x:M.T) (a b:Nat):Txt.replace (ofT x) (ofT [a]) (ofT [b])=ofT (x.map fun c=>if c=a then b else c):=by
 have h:=TX.zGc (ofT x) a b
 have e:∀ s:Str,s=ofT s.cps.toList:=fun s=>by cases s;simp[ofT]
 rw[e (Txt.replace (ofT x) (ofT [a]) (ofT [b]))]
 show ofT (Txt.replace (ofT x) ⟨#[a]⟩ ⟨#[b]⟩).cps.toList=_
 rw[h,y6]
theorem zOY {X:Cx}{o:Expr}{to:TE}{y z:Str}{j k:Nat}{p1 p2 apos cpos:Pos} (ho:PE X o to) (hyz:(y == z)=false) (hbase:attributeBase o "replace" X.env (eval o X.env)=eval o X.env:=by rfl) (hline:(apos.endLine == cpos.line)=true:=by rfl) :
  PE X (.Call (.Attribute o "replace" apos) [.Constant (.str y) j p1,.Constant (.str z) k p2] [] cpos) (fun σ H Q=>to σ H fun x H1=>∃ a,x=.str a/\a.length+(a.length+1) * z.length <= 16777216/\Q (.str (Txt.replace a y z)) H1):=by
 intro pins s σ H Q I h
 refine wpAny_Call_method_late hbase rfl hline rfl (thn (ho pins s σ H _ I h) fun v s1 ⟨x,H1,I1,r1,a,ex,hb,q⟩=>?_)
 subst ex
 obtain⟨h1,h2⟩:=zFT (T := "str") I1 r1 rfl
 obtain⟨t,rfl⟩:=r1
 refine⟨"str","str.replace",PySem.F.plainAttrs_str,PySem.F.slot_str_replace,PySem.F.type_str_replace,h1,h2,?_⟩
 refine Calls.callWith_builtin rfl (Calls.evalArgs_plain ?_)
 show wpAny _ _ (spliced [(false,eval (.Constant (.str y) j p1) X.env),(false,eval (.Constant (.str z) k p2) X.env)]) _ _ s1
 refine Calls.spliced_cons (Calls.Constant_str (Calls.spliced_cons (Calls.Constant_str (Calls.spliced_nil ?_))))
 have hp:=I1.tk
 exact wpAny_with_toks (n:=1) (show 1 <= s1.toks+1+1 by omega) (SC.replace (u:=s1.toks) (v:=s1.toks+1) (Nat.ne_of_gt hp) (Nat.succ_ne_zero _) (Nat.ne_of_lt (Nat.lt_succ_self _)) hyz hb fun t' k hk=>⟨.str _,H1,I1.tok k hk,⟨_,rfl⟩,q⟩)
theorem zOS {X:Cx}{o:Expr}{mo:M.EM}{y z:Str}{a b:Nat}{j k:Nat}{p1 p2 apos cpos:Pos} (ho:ME X Θ o mo) (hy:y=ofT [a]) (hz:z=ofT [b]) (hab:(a == b)=false) (hok:okT [b]) (hbase:attributeBase o "replace" X.env (eval o X.env)=eval o X.env:=by rfl) (hline:(apos.endLine == cpos.line)=true:=by rfl) :
  ME X Θ (.Call (.Attribute o "replace" apos) [.Constant (.str y) j p1,.Constant (.str z) k p2] [] cpos) (M.eM .str M.zCE mo (M.zD (M.eC (.str [a])) (M.zD (M.eC (.str [b])) M.zH))):=by
 have hyz:(y == z)=false:=by
  cases q:y == z with
  | false=>rfl
  | true =>
   have e:=eq_of_beq q
   rw[hy,hz] at e
   have e2:=zDh e
   cases e2
   simp at hab
 refine (zOY ho hyz hbase hline).imp fun σ H Q ⟨ρ,σ',S,st,rp,h⟩=>⟨ρ,σ',S,st,rp,zG.bind h fun ρ1 H1 x X1 S1 p1 l1 rp1 rx h1=>?_⟩
 cases x with
 | str w =>
  obtain⟨rfl,okw⟩:=rx
  have h2:zG X.K Θ (zN X.K) ρ1 H1 (if 2 * w.length+1 <= M.SZ then .ok (.str (w.map fun c=>if c=a then b else c)) S1 else .no) Q:=h1
  by_cases hl:2 * w.length+1 <= M.SZ
  ·rw[if_pos hl] at h2
   refine⟨ofT w,rfl,?_,?_⟩
   ·rw[hz,ji,ji]
    have:M.SZ=16777216:=rfl
    simp only[List.length_cons,List.length_nil]
    omega
   ·rw[hy,hz,zIj]
    refine zG.here h2 rp1 ⟨rfl,List.all_eq_true.mpr fun c hc=>?_⟩
    obtain⟨d,hd,rfl⟩:=List.mem_map.mp hc
    split
    ·exact List.all_eq_true.mp hok b (by simp)
    ·exact List.all_eq_true.mp okw d hd
  ·rw[if_neg hl] at h2;exact h2.elim
 | non=>exact h1.elim
 | bl _=>exact h1.elim
 | int _=>exact h1.elim
 | ty _=>exact h1.elim
 | tup _=>exact h1.elim
 | ro _=>exact h1.elim
 | ref p =>
  have h2:zG X.K Θ (zN X.K) ρ1 H1 (if M.Jv .str (.ref p) S1 then _ else .no) Q:=h1
  have e:M.Jv .str (.ref p) S1=false:=by
   simp only[M.Jv]
   cases S1[p]? with
   | none=>rfl
   | some o=>cases o<;>rfl
  rw[e] at h2
  exact h2.elim
theorem zKm {X:Cx}{o:Expr}{mo:M.EM}{y z:Str}{a b:Nat}{j k:Nat}{p1 p2 apos cpos:Pos} (ho:WE X Θ o mo) (hy:y=ofT [a]) (hz:z=ofT [b]) (hab:(a == b)=false) (hok:okT [b]) (hbase:attributeBase o "replace" X.env (eval o X.env)=eval o X.env:=by rfl) (hline:(apos.endLine == cpos.line)=true:=by rfl) :
  WE X Θ (.Call (.Attribute o "replace" apos) [.Constant (.str y) j p1,.Constant (.str z) k p2] [] cpos) (M.eM .str M.zCE mo (M.zD (M.eC (.str [a])) (M.zD (M.eC (.str [b])) M.zH))):=by with_unfolding_all exact zOS (X:=X) (o:=o) (mo:=mo) (y:=y) (z:=z) (a:=a) (b:=b) (j:=j) (k:=k) (p1:=p1) (p2:=p2) (apos:=apos) (cpos:=cpos) ho hy hz hab hok hbase hline
theorem zG9:AdN K Θ M.zAd (fun xs H Q=>(∃ i,xs=[.int i]/\Q (.int i) H)\/∃ k,xs=[.bl k]/\Q (.int (if k then 1 else 0)) H):=by
 intro ρ H S xs Xs Q rp rxs h
 unfold M.zAd at h
 split at h
 ·obtain⟨Y,r,rfl,ry,rfl⟩:=rxs
  cases ry
  exact .inl ⟨_,rfl,zG.here h rp rfl⟩
 ·obtain⟨Y,r,rfl,ry,rfl⟩:=rxs
  cases ry
  exact .inr ⟨_,rfl,zG.here h rp rfl⟩
 ·exact h.elim
end
end L2
namespace L2
open PySem PySem.Spec PyProof.Rows
section
variable {Θ:Tab}
theorem PS.or {X:Cx}{st:Stmt}{t t':TS} (h:PS X st t) (h':PS X st t'):PS X st (fun D σ H=>t D σ H\/t' D σ H):=fun pins s σ H D I q=>by
 rcases q with q | q
 ·exact h pins s σ H D I q
 ·exact h' pins s σ H D I q
theorem zKu {H:Hp}{a:Addr}{ks:List (Key×V)} (h:H a=some (.dK ks)):Mut (H a):=by rw[h];trivial
theorem zPs {X:Cx}{o i e:Expr}{mo mi me:M.EM}{pos pos':Pos}{n:Nat} (hr:jL n X.A) (ho:ME X Θ o mo) (hi:ME X Θ i mi) (he:ME X Θ e me)
  (ha:∀ v,assign (.Subscript o i pos') X.env v=(do
   let ov <- holding [v] (eval o X.env)
   let iv <- holding [v,ov] (eval i X.env)
   standAt pos'
   holding [v,ov,iv] (setItem ov iv v)
   release [v,ov,iv] []):=by intro _;rfl)
  (hs:swapsWithSole [.Subscript o i pos'] e pos.line X.env=pure false:=by rfl) (hw:swappedStores [.Subscript o i pos'] e X.env=pure none:=by rfl) (h1:(assignEach [.Subscript o i pos'] X.env).map (·.2)=[assign (.Subscript o i pos') X.env]:=by rfl)
  (hs2:swapsWith e (some (.Subscript o i pos')) pos.line X.env=pure false:=by rfl):MS X Θ (.Assign [.Subscript o i pos'] e pos) (M.zDM mo mi me) :=
 (PS.or (zP8 he (zQ8 ho hi zMx ha) hs hw h1) (zPL (by have:=hr.units;omega) ho hi he hs2)).imp fun D σ H ⟨ρ,σ',S,st,rp,h⟩=>by
  have h0:zx X.K Θ ρ H ((me σ' S).stm σ' fun y s=>(mo σ' s).stm σ' fun x s=>(mi σ' s).stm σ' fun k s=>(M.zAL x k y s).stm σ' fun _ s=>.nx σ' s) D:=h
  clear h
  cases hE:me σ' S with
  | no=>rw[hE] at h0;exact h0.elim
  | exc a s=>rw[hE] at h0;exact h0.elim
  | ok y S1 =>
   rw[hE,M.R.stm_ok] at h0
   cases hO:mo σ' S1 with
   | no=>rw[hO] at h0;exact h0.elim
   | exc a s=>rw[hO] at h0;exact h0.elim
   | ok x S2 =>
    rw[hO,M.R.stm_ok] at h0
    cases hI:mi σ' S2 with
    | no=>rw[hI] at h0;exact h0.elim
    | exc a s=>rw[hI] at h0;exact h0.elim
    | ok k S3 =>
     rw[hI,M.R.stm_ok] at h0
     cases x with
     | ref p =>
      cases q:S3[p]? with
      | none=>simp only[M.zAL,q] at h0;exact h0.elim
      | some ob =>
       cases ob with
       | lst xs =>
        cases k with
        | int j =>
         cases hj:M.ixN xs.length j with
         | none=>simp only[M.zAL,q,hj] at h0;exact h0.elim
         | some j' =>
          simp only[M.zAL,q,hj,M.R.stm_ok] at h0
          refine .inl ⟨ρ,σ',S,st,rp,?_⟩
          rw[hE]
          intro ρ1 H1 Y p1 l1 rp1 ry
          refine⟨ρ1,σ',S1,st.mono p1 l1,rp1,?_⟩
          rw[hO]
          intro ρ2 H2 Xv p2 l2 rp2 rx
          refine⟨ρ2,σ',S2,st.mono (p1.trans p2) (l1.trans l2),rp2,?_⟩
          rw[hI]
          intro ρ3 H3 Kv p3 l3 rp3 rk
          obtain⟨a,zs,rfl,ha,hx,rz⟩:=zAA rp3 (rx.mono p3 l3) q
          cases rk
          have le:=Le.put (zAt hx) (.lst (zs.set j' Y))
          refine⟨a,zs,j,j',rfl,rfl,hx,by rw[<- rz.length];exact hj,?_⟩
          exact h0 ρ3 _ σ (p1.trans (p2.trans p3)) (l1.trans (l2.trans (l3.trans le))) (rp3.put ha (zAt hx) ⟨_,qD,zP.set (ry.mono (p2.trans p3) (l2.trans (l3.trans le))) j' (rz.mono (List.prefix_refl _) le)⟩) (st.mono (p1.trans (p2.trans p3)) (l1.trans (l2.trans (l3.trans le))))
        | _=>simp only[M.zAL,q] at h0;exact h0.elim
       | dct kvs =>
        cases hk:(M.Z4 k && decide (kvs.length < M.SZ)) with
        | false=>simp only[M.zAL,q,hk] at h0;exact h0.elim
        | true =>
         have hk2:(if (M.Z4 k && decide (kvs.length < M.SZ))=true then M.R.ok () (S3.set p (.dct (M.zCM k y kvs))) else .no)=M.R.ok () (S3.set p (.dct (M.zCM k y kvs))):=if_pos hk
         simp only[M.zAL,q,hk2,M.R.stm_ok] at h0
         rw[Bool.and_eq_true] at hk
         refine .inr ⟨ρ,σ',S,st,rp,?_⟩
         rw[hE]
         intro ρ1 H1 Y p1 l1 rp1 ry
         refine⟨ρ1,σ',S1,st.mono p1 l1,rp1,?_⟩
         rw[hO]
         intro ρ2 H2 Xv p2 l2 rp2 rx
         refine⟨ρ2,σ',S2,st.mono (p1.trans p2) (l1.trans l2),rp2,?_⟩
         rw[hI]
         intro ρ3 H3 Kv p3 l3 rp3 rk
         obtain⟨a,rfl,ea⟩:=rx.mono p3 l3
         obtain⟨b,e1,ks,e2,r⟩:=rp3.obj _ _ q
         rw[ea] at e1;cases e1
         obtain⟨kk,hkk,rfl⟩:=zBx hk.1 rk
         have le:=Le.put (zKu e2) (.dK (Qu ks kk Y))
         refine⟨a,_,rfl,zHA.k e2 (by rw[<- Paired.length r,<- Za];exact of_decide_eq_true hk.2),?_⟩
         have r':DR X.K ρ3 (upd H3 a (.dK (Qu ks kk Y))) kvs ks:=Paired.mapP r fun a b z=>⟨z.1,z.2.mono (List.prefix_refl _) le⟩
         exact h0 ρ3 _ σ (p1.trans (p2.trans p3)) (l1.trans (l2.trans (l3.trans le))) (rp3.put ea (zKu e2) ⟨_,qD,DR.put r' hkk (ry.mono (p2.trans p3) (l2.trans (l3.trans le)))⟩) (st.mono (p1.trans (p2.trans p3)) (l1.trans (l2.trans (l3.trans le))))
       | fdc _=>simp only[M.zAL,q] at h0;exact h0.elim
       | ins c fs=>simp only[M.zAL,q] at h0;exact h0.elim
     | _=>exact h0.elim
theorem zEC {X:Cx}{o i e:Expr}{mo mi me:M.EM}{pos pos':Pos}{n:Nat} (hr:jL n X.A) (ho:WE X Θ o mo) (hi:WE X Θ i mi) (he:WE X Θ e me)
  (ha:∀ v,assign (.Subscript o i pos') X.env v=(do
   let ov <- holding [v] (eval o X.env)
   let iv <- holding [v,ov] (eval i X.env)
   standAt pos'
   holding [v,ov,iv] (setItem ov iv v)
   release [v,ov,iv] []):=by intro _;rfl)
  (hs:swapsWithSole [.Subscript o i pos'] e pos.line X.env=pure false:=by rfl) (hw:swappedStores [.Subscript o i pos'] e X.env=pure none:=by rfl) (h1:(assignEach [.Subscript o i pos'] X.env).map (·.2)=[assign (.Subscript o i pos') X.env]:=by rfl)
  (hs2:swapsWith e (some (.Subscript o i pos')) pos.line X.env=pure false:=by rfl):WS X Θ (.Assign [.Subscript o i pos'] e pos) (M.zDM mo mi me):=by with_unfolding_all exact zPs (X:=X) (o:=o) (i:=i) (e:=e) (mo:=mo) (mi:=mi) (me:=me) (pos:=pos) (pos':=pos') (n:=n) hr ho hi he ha hs hw h1 hs2
end
end L2
namespace L2
open PySem PySem.Spec PyProof.Rows
section
variable {K:PySem.W.Frag}{Θ:Tab}
theorem zG8:∀ {xs:List V}{us:List Value},xs.length=us.length->(∀ (j:Nat) u,us[j]? = some u->∃ x,xs[j]? = some x/\zg x u)->zU xs us
 | [],[],_,_=>.nil
 | [],_::_,h,_=>by simp at h
 | _::_,[],h,_=>by simp at h
 | x::xs,u::us,h,k=>by
  obtain⟨y,e,r⟩:=k 0 u rfl
  cases e
  exact .cons r (zG8 (by simpa using h) fun j u hu=>by
   obtain⟨y,e,r⟩:=k (j+1) u (by simpa using hu)
   exact⟨y,by simpa using e,r⟩)
theorem zQ2 {P:Program}{w:World}{k:Key}{v:Value} (h:(yI P w).is k v=true):zg (kV k) v:=by
 rcases qx (k:=k) (v:=v) h with ⟨i,t,rfl,rfl⟩ | ⟨x,t,rfl,rfl⟩
 ·exact⟨t,rfl⟩
 ·exact⟨t,rfl⟩
noncomputable def zLj (K:PySem.W.Frag):List V->Hp->VK->Prop:=fun xs H Q=>(∃ p ys,xs=[.ref p]/\(SqL K H p ys\/SqT K H p ys)/\∀ l,H l=none->Q (.ref l) (upd H l (.lst ys))) \/
 ∃ p ks,xs=[.ref p]/\H p=some (.dK ks)/\∀ l,H l=none->Q (.ref l) (upd H l (.lst (ks.map fun kv=>kV kv.1)))
theorem zJ4 {X:Cx}{k:Nat} (hr:jL k X.A):j9 X (.type "list") (zLj X.K):=by
 intro pins s σ H xs us Q I r h
 rcases h with h | ⟨p,ks,rfl,hp,q⟩
 ·exact zHZ pins s σ H xs us Q I r h
 ·obtain⟨u,rfl,ru⟩:=QV r
  cases ru
  obtain⟨z,lo,vs,rv,dd⟩:=zDk I.hok hp
  obtain⟨ep,da⟩:=dd.dictAt
  have hl:=rv.length
  refine wpAny_with_toks (n:=1) I.tk (PySem.W.kdl_call (PySem.W.kdl_dict lo) hr.hd da (by omega) fun h' tk acc c' keep hS it htk=>?_)
  obtain⟨hsz,hit⟩:=it
  refine⟨.ref s.heap.objs.size,_,I.laid (t':=tk) (o:=.lst (ks.map fun kv=>kV kv.1)) keep (Nat.le_refl _) ⟨by rw[List.length_map];exact z,acc.toList,c',zG8 (by simp;omega) fun j u hu=>?_,by simpa using hS⟩ htk,rfl,q _ (I.hok.fresh (Nat.le_refl _))⟩
  obtain⟨k,x,e,hk⟩:=hit j u (by simpa using hu)
  have hj:j < ks.length:=by have:=(List.getElem?_eq_some_iff.mp e).1;omega
  have ek:(ks.map (·.1))[j]? = some k:=by rw[rv.keys,List.getElem?_map,e];rfl
  refine⟨kV k,?_,zQ2 hk⟩
  rw[List.getElem?_map] at ek ⊢
  cases q2:ks[j]? with
  | none=>rw[q2] at ek;cases ek
  | some kv=>rw[q2] at ek;cases ek;rfl
theorem zHF {ρ:List Addr}{H:Hp}:∀ {kvs:List (M.D×M.D)}{ks:List (Key×V)},DR K ρ H kvs ks->zP K ρ H (kvs.map (·.1)) (ks.map fun kv=>kV kv.1)
 | _,_,.nil=>rfl
 | (d,_)::_,(k,_)::_,.cons h t=>by
  refine⟨_,_,rfl,?_,zHF t⟩
  have h1:zAc d k:=h.1
  cases d with
  | int i=>cases h1;rfl
  | str x=>obtain⟨rfl,ok⟩:=h1;exact⟨rfl,ok⟩
  | _=>exact h1.elim
theorem zOW:AdN K Θ M.zJq (zLj K):=by
 intro ρ H S xs Xs Q rp rxs h
 unfold M.zJq at h
 split at h
 ·obtain⟨Y,r,rfl,⟨a,zs,rfl,hq,rz⟩,rfl⟩:=rxs
  exact .inl ⟨a,zs,rfl,.inr hq,fun p hp=>zG.alloc h rp rz hp⟩
 ·obtain⟨Y,r,rfl,⟨a,zs,rfl,hq,rz⟩,rfl⟩:=rxs
  exact .inl ⟨a,zs,rfl,.inl hq.sq,fun p hp=>zG.alloc h rp rz hp⟩
 ·rename_i p
  obtain⟨Y,r,rfl,ry,rfl⟩:=rxs
  split at h
  ·rename_i ds e
   obtain⟨a,zs,rfl,ha,hx,rz⟩:=zAA rp ry e
   exact .inl ⟨a,zs,rfl,.inl (SqL.of hx),fun p hp=>zG.alloc h rp rz hp⟩
  ·rename_i kvs e
   obtain⟨a,rfl,ha⟩:=ry
   obtain⟨ks,e2,r⟩:=zB7 rp ha e
   exact .inr ⟨a,ks,rfl,e2,fun p hp=>zG.alloc h rp (zHF r) hp⟩
  ·exact h.elim
 ·exact h.elim
theorem zLr {ρ:List Addr}{H:Hp}{S:M.S}{kvs:List (M.D×M.D)}{ks:List (Key×V)}{Q:VK} (h:zG K Θ (zN K) ρ H (M.alloc (.dct kvs) S) Q) (rp:zX K Θ ρ S H) (r:DR K ρ H kvs ks) {p:Addr} (hp:H p=none):Q (.ref p) (upd H p (.dK ks)) :=
 h (ρ++[p]) _ _ (List.prefix_append _ _) (Le.new hp _) (rp.alloc hp ⟨ks,qD,Paired.mapP r fun _ _ z=>⟨z.1,z.2.mono (List.prefix_append _ _) (Le.new hp _)⟩⟩) ⟨p,rfl,by rw[<- rp.len];simp⟩
theorem zOK {X:Cx}{pos:Pos}:ME X Θ (.Dict [] [] pos) M.zA5:=zNG.imp fun σ H Q ⟨ρ,σ',S,st,rp,h⟩=>fun p hp=>zLr (kvs:=[]) h rp .nil hp
theorem zDN {X:Cx}{pos:Pos}:WE X Θ (.Dict [] [] pos) M.zA5:=by with_unfolding_all exact zOK (X:=X) (pos:=pos)
theorem zLv {α:Type} (xs:List α):(List.range xs.length).filterMap (xs[·]?)=xs:=by
 induction xs with
 | nil=>rfl
 | cons x xs ih =>
  rw[List.length_cons,List.range_succ_eq_map,List.filterMap_cons,List.filterMap_map]
  simp only[List.getElem?_cons_zero]
  congr 1
theorem zNn (its:List Value):slicePick its.toArray none none (some (-1))=its.reverse.toArray:=by
 unfold slicePick
 have hb:sliceBounds none none (some (-1)) its.toArray.size=((its.length:Int) - 1,-1,-1):=by
  simp[sliceBounds]
 rw[hb]
 have hr:sliceRange ((its.length:Int) - 1) (-1) (-1)=(List.range its.length).reverse:=by
  unfold sliceRange
  have e:(if (-1:Int) > 0 then (if (its.length:Int) - 1 < -1 then (-1 - ((its.length:Int) - 1) + -1 - 1) / -1 else 0) else (if (its.length:Int) - 1 > -1 then ((its.length:Int) - 1 - -1 - -1 - 1) / - -1 else 0)).toNat=its.length:=by
   rw[if_neg (by decide)]
   split
   ·rw[show (- -1:Int)=1 by decide,Int.ediv_one];omega
   ·omega
  dsimp only
  rw[e]
  apply List.ext_getElem
  ·simp
  ·intro i h1 h2
   simp at h1 ⊢
   omega
 dsimp only
 rw[hr,List.filterMap_reverse]
 congr 2
 have:=zLv its
 simpa using this
theorem zPQ {X:Cx}{e st:Expr}{te:TE}{p2 pos:Pos} (he:PE X e te) (hst:PE X st (tC (.int (-1)))):PE X (.Subscript e (.Slice none none (some st) p2) pos) (fun σ H Q=>te σ H fun x H1=>∃ a xs,x=.ref a/\SqL X.K H1 a xs/\∀ p,H1 p=none->Q (.ref p) (upd H1 p (.lst xs.reverse))):=by
 intro pins s σ H Q I h
 refine Subscript_ (thn (he pins s σ H _ I h) fun v s1 ⟨x,H1,I1,r1,q1⟩=>?_)
 obtain⟨a,xs,rfl,hq,q⟩:=q1
 cases r1
 refine wpAny_Slice ?_
 rw[evalPart_none]
 refine wpAny_pure (wpAny_pure ?_)
 rw[evalPart_some]
 refine thn (hst pins s1 σ H1 (fun v H'=>v=.int (-1)/\H'=H1) I1 ⟨rfl,rfl⟩) fun u s2 ⟨y,H2,I2,r2,ey,eh⟩=>?_
 subst ey
 subst eh
 obtain⟨t,rfl⟩:=r2
 have I4:Inv X pins σ H2 { s2 with heap:=s2.heap.push { cls:=.type "slice",data:=.fields #[.none,.none,.int (-1) t] } }:=I2.kept (t':=s2.toks) fun b ob q=>Heap.get?_push_of_some _ q
 obtain⟨its,r,ht,hz⟩:=I4.list hq
 have hlen:=r.length
 show wpAny (model X.prog X.w) X.A (subscriptTail e (.Slice none none (some st) p2) (.ref a) (.ref s2.heap.objs.size)) (EP X pins σ Q) X.xe { s2 with heap:=s2.heap.push { cls:=.type "slice",data:=.fields #[.none,.none,.int (-1) t] } }
 refine tail_any (ops:=[.ref a,.ref s2.heap.objs.size]) ht.isList.typeIs slot_list_getitem.lookup ?_ (by with_unfolding_all rfl)
 refine wpAny_getItem_list_slice ht.isList (Heap.IsSliceOf.new ..) .none .none (.int (-1) t) (by decide) ?_ (by rw[List.size_toArray]<;>omega)
 rw[zNn]
 refine⟨.ref _,_,I4.laid (t':=s2.toks) (o:=.lst xs.reverse) (fun b ob q=>Heap.get?_push_of_some _ q) (Nat.le_refl _) ?_,rfl,q _ (I4.hok.fresh (Nat.le_refl _))⟩
 exact⟨by rw[List.length_reverse];exact hz,_,0,r.reverse,Heap.get?_push_size _ rfl⟩
end
end L2
namespace L2
open PySem PySem.Spec PyProof.Rows
section
variable {P:Program}{w:World}{A:Around}{E:Value->Shared->Prop}{s:Shared}
noncomputable def zST (h:Heap) (z TI TO:Addr) (f0:Value) (b:Bool):Prop:=h.get? z=some { cls:=.type "zip",dict:=none,data:=.fields #[f0,.bool b,.bool false,.ref TI,.ref TO],slots:=#[] }
structure ZSt (z TI TO i1 i2 l1 l2:Addr) (xs ys:Array Value) (i:Nat) (h:Heap):Prop where
 zp:∃ f0 b,zST h z TI TO f0 b/\((i=0/\f0=.none)\/∃ (T:Addr) (o:Obj),f0=rawInt T/\h.get? T=some o)
 ti:IsPair h TI (.ref i1) (.ref i2)
 to:∃ a b,IsPair h TO a b
 n1:h.IsTupleIter i1 l1 i
 n2:h.IsTupleIter i2 l2 i
 t1:h.IsTuple l1 xs
 t2:h.IsTuple l2 ys
structure ZLp (lo z TO i1 i2 S:Addr) (xs ys:List Value) (h0 h:Heap) (ps:List Addr):Prop where
 its:∀ (j:Nat) p,ps[j]? = some p->lo <= p/\∃ x y,xs[j]? = some x/\ys[j]? = some y/\IsPair h p x y
 keep:∀ b o,b≠S->b≠z->b≠TO->b≠i1->b≠i2->h0.get? b=some o->h.get? b=some o
 nd:ps.Nodup
end
end L2
namespace L2
open PySem PySem.Spec PyProof.Rows
inductive zMU:Hp->List (V×V)->List V->Hp->Prop
 | nil (H:Hp):zMU H [] [] H
 | cons {H H':Hp}{a:Addr}{x y:V}{r:List (V×V)}{zs:List V} (h:H a=none) (t:zMU (upd H a (.tup [x,y])) r zs H'):zMU H ((x,y)::r) (.ref a::zs) H'
noncomputable def zNr:List V->Hp->VK->Prop:=fun xs H Q=>∃ i,xs=[.int i]/\i.natAbs.log2 < 1920/\Q (.str (toString i)) H
theorem zK6 {X:Cx}:j9 X (.type "str") zNr:=zHO
theorem zJe (i:Int):(Str.ofString (toString i))=ofT (M.zCC i):=by
 rw[Str.ofString_eq_toList];rfl
theorem zJT (i:Int):okT (M.zCC i):=List.all_eq_true.mpr fun c hc=>by
 obtain⟨d,_,rfl⟩:=List.mem_map.mp hc
 have:=d.valid
 rw[decide_eq_true_iff]
 rcases this with h | h
 ·exact Nat.lt_trans h (by decide)
 ·exact h.2
theorem zPv {K:PySem.W.Frag}{Θ:Tab}:AdN K Θ M.zM1 zNr:=by
 intro ρ H S xs Xs Q rp rxs h
 unfold M.zM1 at h
 split at h
 ·rename_i i
  obtain⟨Y,r,rfl,ry,rfl⟩:=rxs
  cases ry
  by_cases hc:M.ZK i=true
  ·rw[if_pos hc] at h
   unfold M.ZK at hc
   rw[decide_eq_true_iff] at hc
   refine⟨i,rfl,?_,?_⟩
   ·by_cases hz:i.natAbs=0
    ·rw[hz];decide
    ·exact Nat.lt_trans ((Nat.log2_lt hz).mpr (show i.natAbs < 2 ^ 64 from hc)) (by decide)
   ·show Q (.str (Str.ofString (toString i))) H
    rw[zJe]
    exact zG.here h rp ⟨rfl,zJT i⟩
  ·rw[if_neg hc] at h
   exact h.elim
 ·exact h.elim
end L2
namespace L2
open PySem PySem.Spec PyProof.Rows
section
variable {K:PySem.W.Frag}{Θ:Tab}
theorem zM8:Ad2 K Θ M.zBS (fun x y H Q=>match x,y with | .int i,.int j=>Q (.int (i+j)) H | .str a,.str b=>a.length+b.length <= sizeLine/\Q (.str (a++b)) H | _,_=>False):=by
 intro ρ H S x y X Y Q rp rx ry h
 cases x with
 | int i =>
  cases y with
  | int j=>cases rx;cases ry;exact zG.here (b:=V.int (i+j)) h rp rfl
  | _=>exact h.elim
 | str a =>
  cases y with
  | str b =>
   obtain⟨rfl,oa⟩:=rx
   obtain⟨rfl,ob⟩:=ry
   have h':zG K Θ (zN K) ρ H (if a.length+b.length <= M.SZ then M.R.ok (M.D.str (a++b)) S else .no) Q:=h
   by_cases hc:a.length+b.length <= M.SZ
   ·rw[if_pos hc] at h'
    refine⟨by rw[ji,ji,<- Za];exact hc,?_⟩
    rw[zIt]
    exact zG.here h' rp ⟨rfl,zDq oa ob⟩
   ·rw[if_neg hc] at h';exact h'.elim
  | _=>exact h.elim
 | _=>exact h.elim
noncomputable def zNs (K:PySem.W.Frag):List V->Hp->VK->Prop:=fun xs H Q=>∃ p ys,xs=[.ref p]/\((SqL K H p ys/\∀ l,H l=none->Q (.ref l) (upd H l (.tup ys)))\/(SqT K H p ys/\Q (.ref p) H))
theorem zIl {X:Cx}:j9 X (.type "tuple") (zNs X.K):=zGp
theorem zM7:AdN K Θ M.zFK (zNs K):=by
 intro ρ H S xs Xs Q rp rxs h
 unfold M.zFK at h
 split at h
 ·rename_i ds
  obtain⟨Y,r,rfl,ry,rfl⟩:=rxs
  obtain⟨a,zs,rfl,hq,rz⟩:=id ry
  exact⟨a,zs,rfl,.inr ⟨hq,zG.here h rp ry⟩⟩
 ·rename_i p
  obtain⟨Y,r,rfl,ry,rfl⟩:=rxs
  split at h
  ·rename_i ds e
   have e':S[p]? = some (.lst ds):=by
    unfold M.jB at e
    split at e
    ·rename_i ds' e1;cases e;exact e1
    ·cases e
   obtain⟨a,zs,rfl,ha,hx,rz⟩:=zAA rp ry e'
   exact⟨a,zs,rfl,.inl ⟨SqL.of hx,fun l hl=>h ρ _ _ (List.prefix_refl _) (Le.new hl _) (rp.aside hl _) ⟨l,zs,rfl,.inl (.inl qD),rz.mono (List.prefix_refl _) (Le.new hl _)⟩⟩⟩
  ·exact h.elim
 ·exact h.elim
theorem zN6:AdN K Θ M.zJr (fun xs H Q=>∃ i j,xs=[.int i,.int j]/\Q (.int (if j > i then j else i)) H):=by
 intro ρ H S xs Xs Q rp rxs h
 unfold M.zJr at h
 split at h
 ·rename_i i j
  obtain⟨Y,r,rfl,ry,Z,r2,rfl,rz,rfl⟩:=rxs
  cases ry;cases rz
  exact⟨i,j,rfl,zG.here h rp rfl⟩
 ·exact h.elim
end
end L2
namespace L2
open PySem PySem.Spec PyProof.Rows
structure Qh (K:PySem.W.Frag) (Θ:Tab) (c:Nat) (C:Addr) (N:List Str):Prop where
 tab:Θ c=some (C,N)
 cl:Cls K C
 no:∀ f∈N,zAX K C f
 few:N.length < 999
 nd:N.Nodup
theorem zAB {α:Type}{Pr:α->Prop}{a:α}{l:List α} (h:Pr a) (k:∀ x∈l,Pr x):∀ x∈a::l,Pr x:=fun x hx=>(List.mem_cons.mp hx).elim (fun e=>by rw[e];exact h) (k x)
structure Zx (P:Program) (w:World) (K:PySem.W.Frag) (mg:Str->Option Value) (base:Heap) (C:Addr) (m:Str) (k:Nat) (ps:List Str) (sp:Sp):Prop where
 ex:∃ f fd,jU P w K mg base CX0 k f fd ps sp/\Qp K fd ps []/\zJX K C m f
structure zNB (P:Program) (w:World) (K:PySem.W.Frag) (mg:Str->Option Value) (base:Heap) (C:Addr) (x:Str) (k:Nat) (ps:List Str) (sp:Sp):Prop where
 ex:∃ f fd,jU P w K mg base CX0 k f fd ps sp/\Qp K fd ps []/\Mk K C f/\mg x=some (.ref C)
theorem zGV {α:Type} [DecidableEq α]:∀ {l N:List α},l.Nodup->(∀ x∈l,x∈N)->l.length <= N.length
 | [],_,_,_=>Nat.zero_le _
 | a::l,N,h,k=>by
  have ha:=k a List.mem_cons_self
  have hn:=List.nodup_cons.mp h
  have h1:l.length <= (N.erase a).length:=zGV hn.2 fun x hx=>(List.mem_erase_of_ne (show x≠a from fun e=>hn.1 (by rw[<- e];exact hx))).mpr (k x (List.mem_cons_of_mem _ hx))
  rw[List.length_erase_of_mem ha] at h1
  have h2:=List.length_pos_of_mem ha
  rw[List.length_cons]
  omega
theorem zEV (f:Str) (v:V):∀ fs:List (Str×V),∀ g,g∈(yR f v fs).map (·.1)->g=f\/g∈fs.map (·.1)
 | [],g,h=>by
  have h':g∈[f]:=h
  exact .inl (by simpa using h')
 | (k,x)::r,g,h=>by
  rw[show yR f v ((k,x)::r)=(if k=f then (k,v)::r else (k,x)::yR f v r) from rfl] at h
  by_cases hk:k=f
  ·rw[if_pos hk] at h
   exact .inr h
  ·rw[if_neg hk,List.map_cons] at h
   rcases List.mem_cons.mp h with e | h
   ·exact .inr (by rw[e];simp)
   ·rcases zEV f v r g h with e | e
    ·exact .inl e
    ·exact .inr (List.mem_cons_of_mem _ e)
theorem zLt (f:Str) (v:V):∀ fs:List (Str×V),(fs.map (·.1)).Nodup->((yR f v fs).map (·.1)).Nodup
 | [],_=>by show [f].Nodup;simp
 | (k,x)::r,h=>by
  rw[List.map_cons,List.nodup_cons] at h
  rw[show yR f v ((k,x)::r)=(if k=f then (k,v)::r else (k,x)::yR f v r) from rfl]
  by_cases hk:k=f
  ·rw[if_pos hk,List.map_cons,List.nodup_cons];exact h
  ·rw[if_neg hk,List.map_cons,List.nodup_cons]
   refine⟨fun m=>?_,zLt f v r h.2⟩
   rcases zEV f v r k m with e | e
   ·exact hk e
   ·exact h.1 e
theorem zFY {f:Str}:∀ {gs:List (Str×V)},f∉gs.map (·.1)->gs.lookup f=none
 | [],_=>rfl
 | (g,x)::r,h=>by
  rw[List.map_cons,List.mem_cons,not_or] at h
  have hb:(f == g)=false:=beq_eq_false_iff_ne.mpr h.1
  rw[List.lookup_cons,hb]
  exact zFY h.2
section
variable {K:PySem.W.Frag}{Θ:Tab}{ρ:List Addr}{H:Hp}
theorem zDA.few {N:List Str}{fs:List (Option M.D)}{gs:List (Str×V)} (r:zDA K ρ H N fs gs):gs.length <= N.length:=by
 have:=zGV r.nd r.within
 rwa [List.length_map] at this
theorem zDA.put {H':Hp}{N:List Str}{fs:List (Option M.D)}{gs:List (Str×V)}{i:Nat}{f:Str}{d:M.D}{v:V} (r:zDA K ρ H N fs gs) (hN:N.Nodup) (hi:N[i]? = some f) (le:Le H H') (rv:zN K ρ H' d v):zDA K ρ H' N (fs.set i (some d)) (yR f v gs):=by
 refine⟨by rw[List.length_set];exact r.len,zLt f v gs r.nd,fun g hg=>?_,fun j g e hj he=>?_⟩
 ·rcases zEV f v gs g hg with z | z
  ·rw[z];exact List.mem_of_getElem? hi
  ·exact r.within g z
 ·rw[zBe]
  by_cases hij:i=j
  ·subst hij
   rw[hi] at hj;cases hj
   rw[if_pos rfl]
   have hl:i < fs.length:=by rw[r.len];exact (List.getElem?_eq_some_iff.mp hi).1
   rw[List.getElem?_set_self hl] at he
   cases he
   exact⟨v,rfl,rv⟩
  ·rw[List.getElem?_set_ne hij] at he
   have hne:¬ g=f:=fun z=>hij (zCO hN (by rw[hi]) (by rw[hj,z]))
   rw[if_neg hne]
   obtain⟨u,e1,e2⟩:=r.get j g e hj he
   exact⟨u,e1,e2.mono (List.prefix_refl _) le⟩
theorem zFB {S:M.S}{p c:Nat}{a C:Addr}{N:List Str}{fs:List (Option M.D)} (cm:Qh K Θ c C N) (rp:zX K Θ ρ S H) (ha:ρ[p]? = some a) (e:S[p]? = some (.ins c fs)):∃ dx gs,H a=some (.ins C dx gs)/\zDA K ρ H N fs gs:=by
 obtain⟨b,hb,C',dx,gs,N',h1,h2,h3⟩:=rp.obj p _ e
 rw[ha] at hb;cases hb
 rw[cm.tab] at h2;cases h2
 exact⟨dx,gs,h1,h3⟩
theorem zJF {a C dx:Addr}{gs:List (Str×V)} (h:H a=some (.ins C dx gs)):Mut (H a):=by rw[h];trivial
theorem zHh {S:M.S}{c i:Nat}{C:Addr}{N:List Str}{f:Str}{x:M.D}{X1:V}{Q:VK} (cm:Qh K Θ c C N) (hi:N[i]? = some f) (rp:zX K Θ ρ S H) (rx:zN K ρ H x X1) (h:zG K Θ (zN K) ρ H (M.zDT c i x S) Q) :
  ∃ a dx fs v,X1=.ref a/\H a=some (.ins C dx fs)/\fs.lookup f=some v/\Q v H:=by
 unfold M.zDT at h
 split at h
 ·rename_i p
  split at h
  ·rename_i c' fs e
   split at h
   ·rename_i hc
    subst hc
    split at h
    ·rename_i d ed
     obtain⟨a,rfl,ha⟩:=rx
     obtain⟨dx,gs,h1,h3⟩:=zFB cm rp ha e
     obtain⟨v,e1,rv⟩:=h3.get i f d hi ed
     exact⟨a,dx,gs,v,rfl,h1,e1,zG.here h rp rv⟩
    ·exact h.elim
   ·exact h.elim
  ·exact h.elim
 ·exact h.elim
theorem zQU {X:Cx}{c i:Nat}{C:Addr}{N:List Str}{f:Str}{e:Expr}{m:M.EM}{pos:Pos} (cm:Qh X.K Θ c C N) (hi:N[i]? = some f) (he:ME X Θ e m) (hb:attributeBase e f X.env (eval e X.env)=eval e X.env:=by rfl):ME X Θ (.Attribute e f pos) (M.jT c i m) :=
 (zRA he hb).imp fun σ H Q ⟨ρ,σ',S,st,rp,h⟩=>⟨ρ,σ',S,st,rp,zG.bind h fun ρ1 H1 x X1 S1 p1 l1 rp1 rx h1=>by
  obtain⟨a,dx,fs,v,e1,e2,e3,q⟩:=zHh cm hi rp1 rx h1
  exact⟨a,C,dx,fs,v,e1,e2,cm.cl,cm.no f (List.mem_of_getElem? hi),e3,q⟩⟩
theorem jH {X:Cx}{c i:Nat}{C:Addr}{N:List Str}{f:Str}{e:Expr}{m:M.EM}{pos:Pos} (cm:Qh X.K Θ c C N) (hi:N[i]? = some f) (he:WE X Θ e m) (hb:attributeBase e f X.env (eval e X.env)=eval e X.env:=by rfl):WE X Θ (.Attribute e f pos) (M.jT c i m):=by with_unfolding_all exact zQU (X:=X) (c:=c) (i:=i) (C:=C) (N:=N) (f:=f) (e:=e) (m:=m) (pos:=pos) cm hi he hb
theorem zIB {S:M.S}{c i:Nat}{C:Addr}{N:List Str}{f:Str}{x y:M.D}{X1 Y:V}{σ1:M.St}{σ:St}{D:zCj} (cm:Qh K Θ c C N) (hi:N[i]? = some f) (rp:zX K Θ ρ S H) (st:jo K ρ H σ1 σ) (rx:zN K ρ H x X1) (ry:zN K ρ H y Y) (h:zx K Θ ρ H ((M.zAv c i x y S).stm σ1 fun _ s=>.nx σ1 s) D) :
  ∃ a dx fs,X1=.ref a/\H a=some (.ins C dx fs)/\fs.length < 1000/\D.nx σ (upd H a (.ins C dx (yR f Y fs))):=by
 unfold M.zAv at h
 split at h
 ·rename_i p
  split at h
  ·rename_i c' fs e
   split at h
   ·rename_i hc
    subst hc
    obtain⟨a,rfl,ha⟩:=rx
    obtain⟨dx,gs,h1,h3⟩:=zFB cm rp ha e
    have le:=Le.put (zJF h1) (.ins C dx (yR f Y gs))
    refine⟨a,dx,gs,rfl,h1,by have:=h3.few;have:=cm.few;omega,?_⟩
    exact h ρ _ σ (List.prefix_refl _) le (rp.put ha (zJF h1) ⟨C,dx,_,N,qD,cm.tab,h3.put cm.nd hi le (ry.mono (List.prefix_refl _) le)⟩) (st.mono (List.prefix_refl _) le)
   ·exact h.elim
  ·exact h.elim
 ·exact h.elim
theorem zP2 {X:Cx}{c i:Nat}{C:Addr}{N:List Str}{f:Str}{o e:Expr}{mo m:M.EM}{pos pos':Pos} (cm:Qh X.K Θ c C N) (hi:N[i]? = some f) (ho:ME X Θ o mo) (he:ME X Θ e m) (hs:swapsWith e (some (.Attribute o f pos')) pos.line X.env=pure false:=by kernel_rfl):MS X Θ (.Assign [.Attribute o f pos'] e pos) (M.J9 c i mo m) :=
 (zQs ho he hs).imp fun D σ H ⟨ρ,σ',S,st,rp,h⟩=>⟨ρ,σ',S,st,rp,zx.stm h fun ρ1 H1 y Y S1 p1 l1 rp1 ry h1=>⟨ρ1,σ',S1,st.mono p1 l1,rp1,zx.stm h1 fun ρ2 H2 x X1 S2 p2 l2 rp2 rx h2=>by
  obtain⟨a,dx,fs,e1,e2,e3,q⟩:=zIB cm hi rp2 (st.mono (p1.trans p2) (l1.trans l2)) rx (ry.mono p2 l2) h2
  exact⟨a,C,dx,fs,e1,e2,cm.cl,cm.no f (List.mem_of_getElem? hi),e3,q⟩⟩⟩
theorem ZZ {X:Cx}{c i:Nat}{C:Addr}{N:List Str}{f:Str}{o e:Expr}{mo m:M.EM}{pos pos':Pos} (cm:Qh X.K Θ c C N) (hi:N[i]? = some f) (ho:WE X Θ o mo) (he:WE X Θ e m) (hs:swapsWith e (some (.Attribute o f pos')) pos.line X.env=pure false:=by kernel_rfl):WS X Θ (.Assign [.Attribute o f pos'] e pos) (M.J9 c i mo m):=by with_unfolding_all exact zP2 (X:=X) (c:=c) (i:=i) (C:=C) (N:=N) (f:=f) (o:=o) (e:=e) (mo:=mo) (m:=m) (pos:=pos) (pos':=pos') cm hi ho he hs
theorem zKf {X:Cx}{c i:Nat}{C:Addr}{N:List Str}{f:Str}{o e:Expr}{mo m:M.EM}{op:Operator}{g:M.D->M.D->M.S->M.R M.D}{r:R2}{pos pos':Pos} (cm:Qh X.K Θ c C N) (hi:N[i]? = some f) (ho:ME X Θ o mo) (he:ME X Θ e m) (hop:PIp X op r) (ad:Ad2 X.K Θ g r):MS X Θ (.AugAssign (.Attribute o f pos') op e pos) (M.ZL g c i mo m) :=
 (zL7 ho he hop).imp fun D σ H ⟨ρ,σ',S,st,rp,h⟩=>⟨ρ,σ',S,st,rp,zx.stm h fun ρ1 H1 x X1 S1 p1 l1 rp1 rx h1=>by
  have h1':zx X.K Θ ρ1 H1 ((M.zDT c i x S1).stm σ' fun v s=>(m σ' s).stm σ' fun y s=>(g v y s).stm σ' fun z s=>(M.zAv c i x z s).stm σ' fun _ s=>.nx σ' s) D:=h1
  have hp:∃ a dx fs v,X1=.ref a/\H1 a=some (.ins C dx fs)/\fs.lookup f=some v/\∃ ρ2 σ2 S2 d,jo X.K ρ2 H1 σ2 σ/\zX X.K Θ ρ2 S2 H1/\zN X.K ρ2 H1 d v/\zN X.K ρ2 H1 x X1/\zx X.K Θ ρ2 H1 ((m σ2 S2).stm σ2 fun y s=>(g d y s).stm σ2 fun z s=>(M.zAv c i x z s).stm σ2 fun _ s=>.nx σ2 s) D:=by
   have h2:zG X.K Θ (zN X.K) ρ1 H1 (M.zDT c i x S1) (fun v H2=>H2=H1->∃ ρ2 σ2 S2 d,jo X.K ρ2 H1 σ2 σ/\zX X.K Θ ρ2 S2 H1/\zN X.K ρ2 H1 d v/\zN X.K ρ2 H1 x X1/\zx X.K Θ ρ2 H1 ((m σ2 S2).stm σ2 fun y s=>(g d y s).stm σ2 fun z s=>(M.zAv c i x z s).stm σ2 fun _ s=>.nx σ2 s) D) :=
    zx.stm h1' fun ρ2 H2 d v S2 p2 l2 rp2 rv h3 e=>by
     subst e
     exact⟨ρ2,σ',S2,d,st.mono (p1.trans p2) (l1.trans l2),rp2,rv,rx.mono p2 l2,h3⟩
   obtain⟨a,dx,fs,v,e1,e2,e3,q⟩:=zHh cm hi rp1 rx h2
   exact⟨a,dx,fs,v,e1,e2,e3,q rfl⟩
  obtain⟨a,dx,fs,v,e1,e2,e3,ρ2,σ2,S2,d,st2,rp2,rv,rx2,h4⟩:=hp
  refine⟨a,C,dx,fs,v,e1,e2,cm.cl,cm.no f (List.mem_of_getElem? hi),e3,ρ2,σ2,S2,st2,rp2,zx.stm h4 fun ρ3 H3 y Y S3 p3 l3 rp3 ry h5=>ad ρ3 H3 S3 d y v Y _ rp3 (rv.mono p3 l3) ry (zx.stm h5 fun ρ4 H4 z Z S4 p4 l4 rp4 rz h6=>?_)⟩
  obtain⟨a',dx',fs',f1,f2,f3,q⟩:=zIB cm hi rp4 (st2.mono (p3.trans p4) (l3.trans l4)) (rx2.mono (p3.trans p4) (l3.trans l4)) rz h6
  rw[e1] at f1
  cases f1
  exact⟨dx',fs',f2,f3,q⟩⟩
theorem zIZ {X:Cx}{c i:Nat}{C:Addr}{N:List Str}{f:Str}{o e:Expr}{mo m:M.EM}{op:Operator}{g:M.D->M.D->M.S->M.R M.D}{r:R2}{pos pos':Pos} (cm:Qh X.K Θ c C N) (hi:N[i]? = some f) (ho:WE X Θ o mo) (he:WE X Θ e m) (hop:PIp X op r) (ad:Ad2 X.K Θ g r):WS X Θ (.AugAssign (.Attribute o f pos') op e pos) (M.ZL g c i mo m):=by with_unfolding_all exact zKf (X:=X) (c:=c) (i:=i) (C:=C) (N:=N) (f:=f) (o:=o) (e:=e) (mo:=mo) (m:=m) (op:=op) (g:=g) (r:=r) (pos:=pos) (pos':=pos') cm hi ho he hop ad
theorem zD3 {N:List Str}{fs:List (Option M.D)}{gs:List (Str×V)}{m:Str} (r:zDA K ρ H N fs gs) (hm:m∉N):gs.lookup m=none:=zFY fun z=>hm (r.within m z)
theorem zOX {X:Cx}{c k kk n:Nat}{C:Addr}{N ps:List Str}{name:Str}{o e:Expr}{es:List Expr}{mo:M.EM}{m:M.AM}{f:M.F}{pos apos:Pos}{pl:Sem Bool} (cm:Qh X.K Θ c C N) (h:Zx X.prog X.w X.K X.mg X.base C name k ps (SpM X.K Θ (n+1) f)) (hr:jL kk X.A) (hk:k <= kk) (hm:name∉N) (ho:ME X Θ o mo) (ha:MA X Θ (e::es) m) (ar:zAj m n) (hx:ya CX0 X E0:=by exact zAk)
  (he:zo e=true:=by rfl) (hpl:es.all zo=true:=by rfl)
  (ht:eval (.Call (.Attribute o name apos) (e::es) [] pos) X.env=(do
   let ov <- eval o X.env
   standAt apos.atName
   let (f,first) <- holding [ov] (getMethod ov name pl)
   callWith pos f first (backTo pos (starEach (e::es) X.env)) (backToKw pos (keywordEach [] X.env))):=by rfl):ME X Θ (.Call (.Attribute o name apos) (e::es) [] pos) (M.jR c f mo m):=by
 obtain⟨g,fd,F,b,mt⟩:=h.ex
 refine (zOn ho cm.cl mt F (hr.mono hk) b .nil hx ha (qP he) (Ze hpl) ht).imp fun σ H Q ⟨ρ,σ',S,st,rp,h⟩=>⟨ρ,σ',S,st,rp,zG.bind h fun ρ1 H1 x X1 S1 p1 l1 rp1 rx h1=>?_⟩
 cases x with
 | ref p =>
  have h1':zG X.K Θ (zN X.K) ρ1 H1 (match S1[p]? with | some (.ins c' _)=>if c'=c then (m σ' S1).bind fun xs s=>f (.ref p::xs) s else .no | _=>.no) Q:=h1
  cases q:S1[p]? with
  | none=>rw[q] at h1';exact h1'.elim
  | some ob =>
   rw[q] at h1'
   cases ob with
   | ins c' fs =>
    by_cases hc:c'=c
    ·subst hc
     have h2:zG X.K Θ (zN X.K) ρ1 H1 (if c'=c' then (m σ' S1).bind fun xs s=>f (.ref p::xs) s else .no) Q:=h1'
     rw[if_pos rfl] at h2
     obtain⟨a,rfl,ha'⟩:=id rx
     obtain⟨dx,gs,e1,e2⟩:=zFB cm rp1 ha' q
     refine⟨a,dx,gs,rfl,e1,zD3 e2 hm,ρ1,σ',S1,st.mono p1 l1,rp1,?_⟩
     cases hM:m σ' S1 with
     | no=>rw[hM] at h2;exact h2.elim
     | exc a s=>rw[hM] at h2;exact h2.elim
     | ok ds S2 =>
      rw[hM] at h2
      intro ρ2 H2 vs p2 l2 rp2 r2
      rw[List.append_nil]
      exact⟨ρ2,.ref p::ds,S2,by rw[List.length_cons,ar _ _ _ _ hM],⟨_,_,rfl,rx.mono p2 l2,r2⟩,rp2,zG.weak h2 p2 l2⟩
    ·have h2:zG X.K Θ (zN X.K) ρ1 H1 (if c'=c then (m σ' S1).bind fun xs s=>f (.ref p::xs) s else .no) Q:=h1'
     rw[if_neg hc] at h2
     exact h2.elim
   | lst _=>exact h1'.elim
   | dct _=>exact h1'.elim
   | fdc _=>exact h1'.elim
 | _=>exact h1.elim
theorem jJ {X:Cx}{c k kk n:Nat}{C:Addr}{N ps:List Str}{name:Str}{o e:Expr}{es:List Expr}{mo:M.EM}{m:M.AM}{f:M.F}{pos apos:Pos}{pl:Sem Bool} (cm:Qh X.K Θ c C N) (h:Zx X.prog X.w X.K X.mg X.base C name k ps (SpM X.K Θ (n+1) f)) (hr:jL kk X.A) (hk:k <= kk) (hm:name∉N) (ho:WE X Θ o mo) (ha:WA X Θ (e::es) m) (ar:zAj m n) (hx:ya CX0 X E0:=by exact zAk)
  (he:zo e=true:=by rfl) (hpl:es.all zo=true:=by rfl)
  (ht:eval (.Call (.Attribute o name apos) (e::es) [] pos) X.env=(do
   let ov <- eval o X.env
   standAt apos.atName
   let (f,first) <- holding [ov] (getMethod ov name pl)
   callWith pos f first (backTo pos (starEach (e::es) X.env)) (backToKw pos (keywordEach [] X.env))):=by rfl):WE X Θ (.Call (.Attribute o name apos) (e::es) [] pos) (M.jR c f mo m):=by with_unfolding_all exact zOX (X:=X) (c:=c) (k:=k) (kk:=kk) (n:=n) (C:=C) (N:=N) (ps:=ps) (name:=name) (o:=o) (e:=e) (es:=es) (mo:=mo) (m:=m) (f:=f) (pos:=pos) (apos:=apos) (pl:=pl) cm h hr hk hm ho ha ar hx he hpl ht
theorem zMo {X:Cx}{c k kk:Nat}{C:Addr}{N ps:List Str}{name:Str}{o:Expr}{mo:M.EM}{f:M.F}{pos apos:Pos}{pl:Sem Bool} (cm:Qh X.K Θ c C N) (h:Zx X.prog X.w X.K X.mg X.base C name k ps (SpM X.K Θ 1 f)) (hr:jL kk X.A) (hk:k <= kk) (hm:name∉N) (ho:ME X Θ o mo) (hx:ya CX0 X E0:=by exact zAk)
  (ht:eval (.Call (.Attribute o name apos) [] [] pos) X.env=(do
   let ov <- eval o X.env
   standAt apos.atName
   let (f,first) <- holding [ov] (getMethod ov name pl)
   callWith pos f first (backTo pos (starEach [] X.env)) (backToKw pos (keywordEach [] X.env))):=by rfl):ME X Θ (.Call (.Attribute o name apos) [] [] pos) (M.jR c f mo M.zH):=by
 obtain⟨g,fd,F,b,mt⟩:=h.ex
 refine (zNj ho cm.cl mt F (hr.mono hk) b .nil hx ht).imp fun σ H Q ⟨ρ,σ',S,st,rp,h⟩=>⟨ρ,σ',S,st,rp,zG.bind h fun ρ1 H1 x X1 S1 p1 l1 rp1 rx h1=>?_⟩
 cases x with
 | ref p =>
  have h1':zG X.K Θ (zN X.K) ρ1 H1 (match S1[p]? with | some (.ins c' _)=>if c'=c then f [.ref p] S1 else .no | _=>.no) Q:=h1
  cases q:S1[p]? with
  | none=>rw[q] at h1';exact h1'.elim
  | some ob =>
   rw[q] at h1'
   cases ob with
   | ins c' fs =>
    by_cases hc:c'=c
    ·subst hc
     have h2:zG X.K Θ (zN X.K) ρ1 H1 (if c'=c' then f [.ref p] S1 else .no) Q:=h1'
     rw[if_pos rfl] at h2
     obtain⟨a,rfl,ha'⟩:=id rx
     obtain⟨dx,gs,e1,e2⟩:=zFB cm rp1 ha' q
     exact⟨a,dx,gs,rfl,e1,zD3 e2 hm,ρ1,[.ref p],S1,rfl,⟨_,_,rfl,rx,rfl⟩,rp1,h2⟩
    ·have h2:zG X.K Θ (zN X.K) ρ1 H1 (if c'=c then f [.ref p] S1 else .no) Q:=h1'
     rw[if_neg hc] at h2
     exact h2.elim
   | lst _=>exact h1'.elim
   | dct _=>exact h1'.elim
   | fdc _=>exact h1'.elim
 | _=>exact h1.elim
theorem zKZ {X:Cx}{c k kk:Nat}{C:Addr}{N ps:List Str}{name:Str}{o:Expr}{mo:M.EM}{f:M.F}{pos apos:Pos}{pl:Sem Bool} (cm:Qh X.K Θ c C N) (h:Zx X.prog X.w X.K X.mg X.base C name k ps (SpM X.K Θ 1 f)) (hr:jL kk X.A) (hk:k <= kk) (hm:name∉N) (ho:WE X Θ o mo) (hx:ya CX0 X E0:=by exact zAk)
  (ht:eval (.Call (.Attribute o name apos) [] [] pos) X.env=(do
   let ov <- eval o X.env
   standAt apos.atName
   let (f,first) <- holding [ov] (getMethod ov name pl)
   callWith pos f first (backTo pos (starEach [] X.env)) (backToKw pos (keywordEach [] X.env))):=by rfl):WE X Θ (.Call (.Attribute o name apos) [] [] pos) (M.jR c f mo M.zH):=by with_unfolding_all exact zMo (X:=X) (c:=c) (k:=k) (kk:=kk) (C:=C) (N:=N) (ps:=ps) (name:=name) (o:=o) (mo:=mo) (f:=f) (pos:=pos) (apos:=apos) (pl:=pl) cm h hr hk hm ho hx ht
theorem zON {X:Cx}{c k kk n nf:Nat}{C:Addr}{N ps:List Str}{x:Str}{e:Expr}{es:List Expr}{m:M.AM}{f:M.F}{pos p:Pos} (cm:Qh X.K Θ c C N) (h:zNB X.prog X.w X.K X.mg X.base C x k ps (SpM X.K Θ (n+1) f)) (hr:jL kk X.A) (hk:k+1 <= kk) (hn:N.length=nf) (hg:Gl X x) (ha:MA X Θ (e::es) m) (ar:zAj m n) (hx:ya CX0 X E0:=by exact zAk) (hdb:(x == ("__debug__" : Str))=false:=by decide)
  (he:zo e=true:=by rfl) (hpl:es.all zo=true:=by rfl):ME X Θ (.Call (.Name x p) (e::es) [] pos) (M.zE2 c nf f m):=by
 obtain⟨g,fd,F,b,mk,hmg⟩:=h.ex
 refine (zO1 mk F (hr.mono hk) hg hmg b .nil hx ha hdb (qP he) (Ze hpl)).imp fun σ H Q ⟨ρ,σ',S,st,rp,h⟩=>⟨ρ,σ',S,st,rp,?_⟩
 have h':zG X.K Θ (zN X.K) ρ H ((m σ' S).bind fun xs s=>(f (.ref s.length::xs) (s++[.ins c (List.replicate nf none)])).bind fun d s'=>if d=.non then .ok (.ref s.length) s' else .no) Q:=h
 cases hM:m σ' S with
 | no=>rw[hM] at h';exact h'.elim
 | exc a s=>rw[hM] at h';exact h'.elim
 | ok ds S1 =>
  rw[hM,M.R.bind_ok] at h'
  intro ρ1 H1 vs p1 l1 rp1 r1 y dx hy hdx hne
  rw[List.append_nil]
  have l2:Le H1 (upd H1 dx (.own y)):=Le.new hdx _
  have rp2:=rp1.aside hdx (.own y)
  have hy2:upd H1 dx (.own y) y=none:=by rw[jP (Ne.symm hne)];exact hy
  have l3:Le (upd H1 dx (.own y)) (upd (upd H1 dx (.own y)) y (.ins C dx [])):=Le.new hy2 _
  have pre:ρ1 <+: ρ1++[y]:=List.prefix_append _ _
  have rp3:zX X.K Θ (ρ1++[y]) (S1++[.ins c (List.replicate nf none)]) (upd (upd H1 dx (.own y)) y (.ins C dx [])):=by
   refine rp2.alloc hy2 ⟨C,dx,[],N,qD,cm.tab,by rw[List.length_replicate];exact hn.symm,List.nodup_nil,(fun f hf=>nomatch hf),fun i f d _ q=>?_⟩
   rw[List.getElem?_replicate] at q
   split at q<;>cases q
  have hlast:(ρ1++[y])[S1.length]? = some y:=by rw[<- rp1.len];simp
  refine⟨ρ1++[y],.ref S1.length::ds,_,by rw[List.length_cons,ar _ _ _ _ hM],⟨_,_,rfl,⟨y,rfl,hlast⟩,r1.mono pre (l2.trans l3)⟩,rp3,?_⟩
  refine zG.bind (zG.weak h' (p1.trans pre) (l1.trans (l2.trans l3))) fun ρ4 H4 d v S4 p4 l4 rp4 rv h4=>?_
  by_cases hd:d=.non
  ·subst hd
   rw[if_pos rfl] at h4
   cases rv
   exact⟨rfl,zG.here h4 rp4 ⟨y,rfl,zBp p4 hlast⟩⟩
  ·rw[if_neg hd] at h4
   exact h4.elim
theorem zK0 {X:Cx}{c k kk n nf:Nat}{C:Addr}{N ps:List Str}{x:Str}{e:Expr}{es:List Expr}{m:M.AM}{f:M.F}{pos p:Pos} (cm:Qh X.K Θ c C N) (h:zNB X.prog X.w X.K X.mg X.base C x k ps (SpM X.K Θ (n+1) f)) (hr:jL kk X.A) (hk:k+1 <= kk) (hn:N.length=nf) (hg:Gl X x) (ha:WA X Θ (e::es) m) (ar:zAj m n) (hx:ya CX0 X E0:=by exact zAk) (hdb:(x == ("__debug__" : Str))=false:=by decide)
  (he:zo e=true:=by rfl) (hpl:es.all zo=true:=by rfl):WE X Θ (.Call (.Name x p) (e::es) [] pos) (M.zE2 c nf f m):=by with_unfolding_all exact zON (X:=X) (c:=c) (k:=k) (kk:=kk) (n:=n) (nf:=nf) (C:=C) (N:=N) (ps:=ps) (x:=x) (e:=e) (es:=es) (m:=m) (f:=f) (pos:=pos) (p:=p) cm h hr hk hn hg ha ar hx hdb he hpl
end
end L2
namespace L2
open PySem PySem.Spec PyProof.Rows
section
variable {P:Program}{w:World}{A:Around}{E:Value->Shared->Prop}{s:Shared}
theorem zJ8:typeLookup (.type "list_reverseiterator") "__len__" = pure none:=by rw[typeLookup_type,builtinLookup_eq_fast];kernel_rfl
theorem zNX:typeLookup (.type "list_reverseiterator") "__length_hint__" = pure (some (.builtin "list_reverseiterator.__length_hint__")):=by rw[typeLookup_type,builtinLookup_eq_fast];kernel_rfl
theorem zNO {I l:Addr}{i:Int}{R:Bool->Shared->Prop} (h:s.heap.IsRevIter I l i) (q:R false s):wpAny (model P w) A (Builtin.List.listLengthHint (.ref I)) R E s:=by
 unfold Builtin.List.listLengthHint
 refine wpAny_bind (wpAny_specialOf h.typeIs zJ8 ?_)
 show wpAny (model P w) _ (specialOf (Value.ref I) (Str.ofString "__length_hint__") >>= _) _ _ _
 refine wpAny_bind (wpAny_specialOf h.typeIs zNX ?_)
 generalize hid:("list_reverseiterator.__length_hint__" : String)=id0
 wp_delta
 rw[show splitId id0=some ("list_reverseiterator","__length_hint__") from by subst hid;decide +kernel]
 subst hid
 refine wpAny_bind (wpAny_isInstance (T := "list_reverseiterator") (b:=true) h.typeIs (by rw[isSubtype_type];kernel_rfl) ?_)
 refine wpAny_ite_split (fun hab=>absurd hab (by decide)) (fun _=>?_)
 refine wpAny_ite_split (fun _=>?_) (fun hab=>absurd (by decide +kernel) hab)
 refine wpAny_ite_split (fun hab=>absurd hab (by decide +kernel)) (fun _=>?_)
 exact wpAny_pure q
end
theorem zGZ:PySem.Slot "reversed" "__init__" "object.__init__" :=
 .of (owner := "object") (n := "__init__") (by rw[typeLookup_type,builtinLookup_eq_fast];kernel_rfl) (by decide +kernel) (by decide +kernel) (by decide +kernel)
  (by first | exact .inl (by decide +kernel) | exact .inr (by decide +kernel)) (by rw[isSubtype_type];kernel_rfl)
theorem zKI:TypeCalled "reversed" "reversed.__new__" "object.__init__" :=
 ⟨by decide +kernel,by decide +kernel,⟨_,_,PySem.F.mro_reversed⟩,PySem.F.made_reversed,by decide +kernel,PySem.F.sub_reversed_self,zGZ⟩
theorem Zm:PySem.Slot "reversed" "__next__" "reversed.__next__" :=
 .of (owner := "reversed") (n := "__next__") (by rw[typeLookup_type,builtinLookup_eq_fast];kernel_rfl) (by decide +kernel) (by decide +kernel) (by decide +kernel)
  (by first | exact .inl (by decide +kernel) | exact .inr (by decide +kernel)) (by rw[isSubtype_type];kernel_rfl)
theorem zCx:PySem.Slot "reversed" "__iter__" "reversed.__iter__" :=
 .of (owner := "reversed") (n := "__iter__") (by rw[typeLookup_type,builtinLookup_eq_fast];kernel_rfl) (by decide +kernel) (by decide +kernel) (by decide +kernel)
  (by first | exact .inl (by decide +kernel) | exact .inr (by decide +kernel)) (by rw[isSubtype_type];kernel_rfl)
theorem zGF:Manifest.owners.lookup (String.ofList ['d','e','s','r','e','v','e','r'].reverse)=some Manifest.sig_reversed:=by kernel_rfl
theorem zC0 (a:Value):argsOk "reversed.__next__" ⟨[a],[]⟩:=by
 unfold argsOk;rw[signature?_of (id := "reversed.__next__") (n:=['_','_','t','x','e','n','_','_']) (o:=['d','e','s','r','e','v','e','r']) (by kernel_rfl) zGF];kernel_rfl
theorem zGh (a:Value):argsOk "reversed.__iter__" ⟨[a],[]⟩:=by
 unfold argsOk;rw[signature?_of (id := "reversed.__iter__") (n:=['_','_','r','e','t','i','_','_']) (o:=['d','e','s','r','e','v','e','r']) (by kernel_rfl) zGF];kernel_rfl
theorem zBn:entryFor table "reversed.__next__" = some Builtin.«reversed.__next__» := entryFor_of_tree (by kernel_rfl)
theorem zFq:entryFor table "reversed.__iter__" = some Builtin.«dict_keyiterator.__iter__» :=
 entryFor_alias (id' := "dict_keyiterator.__iter__") (by kernel_rfl) (by first | rfl | decide +kernel | (unfold String.splitOn;simp +decide [String.splitOnAux])) (by decide +kernel) (by kernel_rfl)
theorem zJ1:typeLookup (.type "tuple") "__reversed__" = pure none:=by rw[typeLookup_type,builtinLookup_eq_fast];kernel_rfl
noncomputable def zBQ (h:Heap) (a t:Addr) (i:Int):Prop:=h.get? a=some { cls:=.type "reversed",dict:=none,data:=.fields #[.ref t,rawInt i],slots:=#[] }
section
variable {P:Program}{w:World}{A:Around}{E:Value->Shared->Prop}{s:Shared}
theorem zBQ.typeIs {a t:Addr}{i:Int} (x:zBQ s.heap a t i):s.TypeIs (.ref a) "reversed" := ⟨_,x,rfl⟩
theorem zKs (t:Addr) (xs:Array Value):Meets (Builtin.«reversed.__new__» ⟨[.type "reversed",.ref t],[]⟩) (fun _ R s=>IsTup s.heap t xs/\(xs.size:Int) < 2 ^ 63/\R (.ok (.ret (.ref s.heap.objs.size))) { s with heap:=s.heap.push { cls:=.type "reversed",data:=.fields #[.ref t,rawInt ((xs.size:Int) - 1)] },toks:=s.toks+1+1 }) :=
 .of_wp fun prog w A R s h=>by
  obtain⟨ht,hz,h⟩:=h
  unfold Builtin.«reversed.__new__»
  refine wpAny_bind (wpAny_of_eq (newClass_reversed _) ?_)
  try dsimp only
  refine wpAny_bind (wpAny_of_eq (a:=()) (by first | rfl | kernel_rfl) ?_)
  refine wpAny_bind (wpAny_of_eq (a:=()) (by first | rfl | kernel_rfl) ?_)
  try dsimp only
  refine wpAny_bind (wpAny_specialOf ht.typeIs zJ1 ?_)
  try dsimp only
  refine wpAny_bind (wpAny_bind (wpAny_isInstance (T := "tuple") (b:=false) ht.typeIs (by rw[isSubtype_type];kernel_rfl) ?_))
  refine wpAny_ite_split (fun hab=>absurd hab (by decide)) (fun _=>?_)
  refine wpAny_bind (wpAny_specialOf ht.typeIs PySem.F.slot_tuple_getitem.lookup ?_)
  refine wpAny_ite_split (fun _=>?_) (fun hab=>absurd (by decide +kernel) hab)
  refine wpAny_pure ?_
  refine wpAny_ite_split (fun hab=>absurd hab (by decide)) (fun _=>?_)
  refine wpAny_bind (len_tuple ht hz ?_)
  refine wpAny_bind (m:=asInt? _) (wpAny_pure ?_)
  refine wpAny_bind (m:=Builtin.SmallTypes.newRecord _ _) ?_
  show wpAny (model prog w) _ (newObj (.type "reversed") (.fields #[.ref t,rawInt ((xs.size:Int) - 1)])) _ _ _
  exact wpAny_newObj_type (wpAny_pure ⟨_,rfl,h⟩)
theorem zC2 {t:Addr}{xs:Array Value}{Q:Value->Shared->Prop} (ht:IsTup s.heap t xs) (hz:(xs.size:Int) < 2 ^ 63)
  (q:Q (.ref s.heap.objs.size) { s with heap:=s.heap.push { cls:=.type "reversed",data:=.fields #[.ref t,rawInt ((xs.size:Int) - 1)] },toks:=s.toks+1+1 }):wpAny (model P w) A (call (.type "reversed") [.ref t]) Q E s:=by
 refine callType_new zKI (by decide) (PySem.F.typeCall_reversed_1 _) (PySem.F.newCall_reversed_1 _) (fun obj=>PySem.F.args_object_init_2 obj _) PySem.F.entry_reversed_new (zKs t xs) ⟨ht,hz,?_⟩
 exact⟨⟨_,Heap.get?_push_size _ rfl,rfl⟩,q⟩
theorem zNQ {it t:Addr}{i:Nat}{xs:Array Value}{x:Value}{Q:Option Value->Shared->Prop} (hit:zBQ s.heap it t (i:Int)) (ht:IsTup s.heap t xs) (hi:i < 2 ^ 62) (hx:xs[i]? = some x)
  (q:∀ h',zBQ h' it t ((i:Int) - 1)->Heap.SameBut it s.heap h'->Q (some x) { s with heap:=h',toks:=s.toks+1 }):wpAny (model P w) A (pyNext (.ref it)) Q E s:=by
 unfold pyNext
 refine wpAny_bind (wpAny_attempt (wpAny_callSpecial?_slot (name:=Str.ofString "__next__") hit.typeIs Zm
  (wpAny_call_entry Zm hit.typeIs zBn ?_ (zC0 _))))
 unfold Builtin.«reversed.__next__»
 refine wpAny_bind (wpAny_of_eq (a:=(Value.ref it,[])) rfl ?_)
 try dsimp only
 refine wpAny_bind (wpAny_field hit rfl (x:=.ref t) rfl ?_)
 refine wpAny_bind (wpAny_field hit rfl (x:=rawInt (i:Int)) rfl ?_)
 show wpAny (model P w) _ (if (i:Int) < 0 then _ else _) _ _ s
 rw[if_neg (by omega)]
 refine wpAny_bind (wpAny_specialOf ht.typeIs PySem.F.slot_tuple_getitem.lookup ?_)
 refine wpAny_ite_split (fun hab=>absurd hab (by decide)) (fun _=>?_)
 refine wpAny_bind (wpAny_mkInt ?_)
 have lt:i < xs.size:=by
  rcases Nat.lt_or_ge i xs.size with h | h
  ·exact h
  ·rw[Array.getElem?_eq_none h] at hx;cases hx
 refine wpAny_bind (wpAny_attempt (PyProof.Rows.getItem_tuple (s:={ s with toks:=s.toks+1 }) ht (by omega) (by omega) (j:=i) (by unfold seqIndex?;simp;omega) hx ?_))
 refine wpAny_bind (wpAny_field (s:={ s with toks:=s.toks+1 }) hit rfl (x:=rawInt (i:Int)) rfl ?_)
 refine wpAny_bind (wpAny_setField_rec (s:={ s with toks:=s.toks+1 }) hit (by simp) fun h' hz' hs'=>?_)
 exact wpAny_pure ⟨x,rfl,wpAny_pure (q h' hz' hs')⟩
theorem zO4 {it t:Addr}{Q:Option Value->Shared->Prop} (hh:A.handled=none) (hit:zBQ s.heap it t (-1))
  (q:∀ h',Heap.ExtBut it s.heap h'->Q none { s with heap:=h' }):wpAny (model P w) A (pyNext (.ref it)) Q E s:=by
 unfold pyNext
 refine wpAny_bind (wpAny_attempt (wpAny_callSpecial?_slot (name:=Str.ofString "__next__") hit.typeIs Zm
  (wpAny_call_entry Zm hit.typeIs zBn ?_ (zC0 _))))
 unfold Builtin.«reversed.__next__»
 refine wpAny_bind (wpAny_of_eq (a:=(Value.ref it,[])) rfl ?_)
 try dsimp only
 refine wpAny_bind (wpAny_field hit rfl (x:=.ref t) rfl ?_)
 refine wpAny_bind (wpAny_field hit rfl (x:=rawInt (-1)) rfl ?_)
 show wpAny (model P w) _ (if (-1:Int) < 0 then _ else _) _ _ s
 rw[if_pos (by decide)]
 refine wpAny_bind (wpAny_rule ?_)
 refine wpAny_bind ?_
 show wpAny (model P w) _ (setField (.ref it) 1 (rawInt (-1)) >>= fun _=>setField (.ref it) 0 .none) _ _ s
 refine wpAny_bind (wpAny_setField_rec hit (by simp) fun h1 z1 s1=>?_)
 refine wpAny_setField_rec (s:={ s with heap:=h1 }) z1 (by simp) fun h2 z2 s2=>?_
 first
 | show wpAny (model P w) _ (newExc (.type "StopIteration") [] >>= _) _ _ _
 | (refine wpAny_bind ?_;show wpAny (model P w) _ (newExc (.type "StopIteration") [] >>= _) _ _ _)
 refine wpAny_bind ?_
 simp only[newExc,newTuple]
 refine wpAny_bind (wpAny_newObj_type ?_ (by size_fits))
 refine wpAny_bind (m:=firstArgMember _ _) (wpAny_of_eq (a:=Value.none) (by first | rfl | (simp only[firstArgMember];rfl)) ?_)
 refine wpAny_newObj_type ?_ (by size_fits)
 simp only[raiseNew]
 refine wpAny_bind (wpAny_handled ?_)
 first | rw[show A.in1.handled=none from hh] | rw[hh]
 refine wpAny_bind (wpAny_pure (wpAny_throw ?_))
 refine wpAny_bind (wpAny_isInstance (T := "StopIteration") (b:=true) ⟨_,Heap.get?_push_size _ rfl,rfl⟩ isSubtype_stop ?_)
 exact wpAny_pure (q _ (((s1.extBut.trans s2.extBut).push _).push _))
theorem zH2 {it t:Addr}{i:Int}{Q:Value->Shared->Prop} (hit:zBQ s.heap it t i) (h:Q (.ref it) s):wpAny (model P w) A (pyIter (.ref it)) Q E s:=by
 refine wpAny_pyIter_slot hit.typeIs zCx (wpAny_call_entry zCx hit.typeIs zFq ?_ (zGh _))
 show wpAny (model P w) _ (ret (.ref it)) _ _ s
 exact wpAny_pure ⟨_,rfl,"reversed",_,hit.typeIs,Zm.lookup,h⟩
end
theorem zLw {xs:List Value}{acc:Array Value} (h:ItemsOf (fun i v=>xs.toArray[xs.toArray.size - 1 - i]? = some v) acc xs.length):acc=xs.reverse.toArray:=by
 apply Array.toList_inj.mp
 apply List.ext_getElem?
 intro j
 rcases Nat.lt_or_ge j xs.length with hj | hj
 ·have e:acc[j]? = some (acc[j]'(by rw[h.1];exact hj)):=Array.getElem?_eq_getElem _
  have e2:=h.2 j _ e
  rw[Array.getElem?_toList,e,<- e2,List.getElem?_reverse hj]
  simp
 ·rw[List.getElem?_eq_none (by rw[Array.length_toList,h.1];exact hj),List.getElem?_eq_none (by simpa using hj)]
section
variable {Θ:Tab}
theorem zD6:bootBuiltins "reversed" = some (.type "reversed"):=by decide +kernel
end
end L2
namespace L2
open PySem PySem.Spec PyProof.Rows
noncomputable def SIt (b:Bool) (h:Heap) (it a:Addr) (i:Nat):Prop:=match b with | true=>h.IsListIter it a i | false=>h.IsTupleIter it a i
section
variable {P:Program}{w:World}{A:Around}{E:Value->Shared->Prop}{s:Shared}
structure ZAt (b1 b2:Bool) (z TI TO i1 i2 l1 l2:Addr) (i:Nat) (h:Heap):Prop where
 zp:IsZip h z TI TO .none
 ti:IsPair h TI (.ref i1) (.ref i2)
 to:∃ a b,IsPair h TO a b
 n1:SIt b1 h i1 l1 i
 n2:SIt b2 h i2 l2 i
end
section
variable {Θ:Tab}
theorem zGA {S:M.S}{p:Nat}{ds:List M.D} (e:M.jB S p=some ds):S[p]? = some (.lst ds):=by
 unfold M.jB at e
 split at e
 ·rename_i ds' e1;cases e;exact e1
 ·cases e
end
end L2
namespace L2
open PySem PySem.Spec PyProof.Rows
section
variable {P:Program}{w:World}{A:Around}{E:Value->Shared->Prop}{s:Shared}
set_option maxHeartbeats 4000000 in
end
end L2
namespace L2
open PySem PySem.Spec PyProof.Rows
section
variable {K:PySem.W.Frag}{Θ:Tab}{ρ:List Addr}{H H':Hp}
section
variable {a:Addr}{o:Obj}{ks:List (Key×V)} (ha:H a=some (.frz o (.dK ks)))
include ha
end
end
end L2
namespace L2
open PySem PySem.Spec PyProof.Rows
noncomputable def Itv (K:PySem.W.Frag) (a:Addr) (xs:List V):It :=
 ⟨fun i H=>SqT K H a xs/\∃ x,xs.reverse[i]? = some x,fun i H x H'=>H'=H/\xs.reverse[i]? = some x,fun i H=>SqT K H a xs/\xs.length <= i⟩
theorem zNK {P:Program}{w:World}{K:PySem.W.Frag}{tg:Expr} (a it:Addr) (xs:List V) (hz:xs.length < 2 ^ 62):zDS P w K tg (Itv K a xs) [it] it (fun i h=>i <= xs.length/\zBQ h it a ((xs.length:Int) - 1 - (i:Int))) where
 mem:=by simp
 obj:=fun i h st b hb=>by
  have e:b=it:=by simpa using hb
  subst e
  exact⟨_,st.2,fun v z=>nomatch z⟩
 keep:=fun i h h' st k=>⟨st.1,k it (by simp) _ st.2⟩
 item:=by
  intro X hP hw hK hc i pins s σ H E I hf st hg
  subst hP hw hK
  obtain⟨hq,x,hx⟩:=hg
  obtain⟨its,rv,p,_⟩:=I.tuple hq
  have hl:=rv.length
  have hi:i < xs.length:=by have:=(List.getElem?_eq_some_iff.mp hx).1;rwa [List.length_reverse] at this
  have hx2:xs[xs.length - 1 - i]? = some x:=by rw[List.getElem?_reverse hi] at hx;exact hx
  obtain⟨u,hu,ru⟩:=rv.get hx2
  obtain⟨f0,f1,f2,f3,f4,f5⟩:=hf it (by simp)
  have e:(xs.length:Int) - 1 - (i:Int)=((xs.length - 1 - i:Nat):Int):=by omega
  have hit:=st.2
  rw[e] at hit
  refine zNQ hit p (by omega) (x:=u) (by simpa using hu) fun h' hit' sb=>?_
  have e2:((xs.length - 1 - i:Nat):Int) - 1=(xs.length:Int) - 1 - ((i+1:Nat):Int):=by omega
  rw[e2] at hit'
  have I1:Inv X pins σ H { s with heap:=h',toks:=s.toks+1 }:=I.turned (t':=s.toks+1) (fun b o hb e=>sb.extBut b o hb e) f0 f1 f3 f4 f5
  exact⟨u,rfl,zDg (s:={ s with heap:=h',toks:=s.toks+1 }) hit' rfl rfl (by decide) ⟨x,H,I1,ru,⟨rfl,hx⟩,⟨hi,hit'⟩,fun b hb=>(hf b hb).1⟩⟩
 done:=by
  intro X hP hw hK hc i pins s σ H E I hf st hg
  subst hP hw hK
  obtain⟨hq,hx⟩:=hg
  obtain⟨f0,f1,f2,f3,f4,f5⟩:=hf it (by simp)
  have e:(xs.length:Int) - 1 - (i:Int) = -1:=by have:=st.1;omega
  have hit:=st.2
  rw[e] at hit
  exact zO4 (I.ok.hd hc) hit fun h' eb=>⟨rfl,I.turned (t':=s.toks) (fun b o hb e=>eb b o hb e) f0 f1 f3 f4 f5⟩
 self:=fun _ _ _ _ _ st h=>zH2 st.2 h
noncomputable def zSS (K:PySem.W.Frag) (ta:TA):TI:=fun σ H R=>ta σ H fun vs H1=>∃ a xs,vs=[.ref a]/\SqT K H1 a xs/\R (Itv K a xs) H1
theorem zQq {X:Cx}{a:Expr}{ta:TA}{p pos:Pos}{tg:Expr} (hg:Gl X "reversed") (hm:X.mg "reversed" = none) (ha:PA X [a] ta) (hsa:zo a=true):PI X tg (.Call (.Name "reversed" p) [a] [] pos) (zSS X.K ta):=by
 intro pins s σ H R I h
 refine Call_ (zCA I hg hm zD6 (PyProof.Rows.callWith_type1 (thn (ha pos pins s σ H _ I h) fun us s1 ⟨vs,H1,I1,r1,q1⟩=>?_) (qP hsa) (Ze (by simp))))
 obtain⟨a',xs,rfl,hq,q⟩:=q1
 obtain⟨u1,rfl,e1⟩:∃ u1,us=[u1]/\u1=.ref a':=by
  cases r1 with
  | cons c1 t1=>cases t1;exact⟨_,rfl,c1⟩
 subst e1
 obtain⟨its,rv,p,hz⟩:=I1.tuple hq
 have hl:=rv.length
 rw[sizeLine_eq] at hz
 refine zC2 p (by simp;omega) ?_
 have g:zBQ (s1.heap.push { cls:=.type "reversed",data:=.fields #[.ref a',rawInt ((its.toArray.size:Int) - 1)] }) s1.heap.objs.size a' ((its.toArray.size:Int) - 1):=Heap.get?_push_size _ rfl
 refine zH2 g ⟨s1.heap.objs.size,[s1.heap.objs.size],_,_,H1,rfl,I1.kept (t':=s1.toks+1+1) fun b o e=>Heap.get?_push_of_some _ e,zNK a' _ xs (by rw[hl];omega),⟨Nat.zero_le _,?_⟩,fun b hb=>?_,q⟩
 ·have e:((its.toArray.size:Int) - 1)=(xs.length:Int) - 1 - ((0:Nat):Int):=by rw[List.size_toArray,hl];omega
  rw[<- e]
  exact g
 ·have e:b=s1.heap.objs.size:=by simpa using hb
  subst e
  exact I1.fpOk (Nat.le_refl _) (I1.hok.fresh (Nat.le_refl _))
section
variable {Θ:Tab}
theorem zOC {K:PySem.W.Frag}{ρ:List Addr}{H:Hp}{a:Addr}{ds:List M.D}{xs:List V} (hq:SqT K H a xs) (r:zP K ρ H ds xs):ItR K Θ ρ H (Itv K a xs) ds.reverse []:=by
 have rr:=r.rev
 refine⟨fun j ρ' S' H' p l rp g hj=>?_,fun j ρ' S' H' v H2 p l rp g hj y=>?_,fun ρ' S' H' p l rp g=>?_⟩
 ·obtain⟨v,e1,_⟩:=rr.get (i:=j) (d:=ds.reverse[j]) (List.getElem?_eq_getElem hj)
  exact⟨l.sqT hq,v,e1⟩
 ·obtain⟨v',e1,rv⟩:=(rr.mono p l).get (i:=j) (d:=ds.reverse[j]) (List.getElem?_eq_getElem hj)
  obtain⟨rfl,y2⟩:=y
  rw[e1] at y2;cases y2
  exact⟨ds.reverse[j],List.getElem?_eq_getElem hj,rv,Le.refl _,rp⟩
 ·exact⟨l.sqT hq,by rw[List.length_reverse,r.length];exact Nat.le_refl _⟩
theorem zIq {X:Cx}{tg e:Expr}{m:M.EM}{p pos:Pos} (hg:Gl X "reversed") (hm:X.mg "reversed" = none) (he:ME X Θ e m) (hs:zo e=true:=by rfl):MI X Θ tg (.Call (.Name "reversed" p) [e] [] pos) (M.zG5 m) :=
 (zQq hg hm (zFj he zHE hs) hs).imp fun σ H R ⟨ρ,σ',S,st,rp,h⟩=>⟨ρ,σ',S,st,rp,by
  have h':zG X.K Θ _ ρ H (((m σ' S).bind fun x s=>match x with
   | .tup ds=>M.R.ok (ds.reverse,([]:M.Gd)) s
   | _=>.no).bind fun p s=>if M.zl p.2 s then .ok p s else .no) R:=h
  show zG X.K Θ _ ρ H ((m σ' S).bind fun x s=>(M.R.ok [] s).bind fun xs s=>.ok (x::xs) s) _
  cases hm:m σ' S with
  | no=>rw[hm] at h';exact h'.elim
  | exc a s=>rw[hm] at h';exact h'.elim
  | ok d S1 =>
   rw[hm] at h'
   intro ρ1 H1 vs p l rp1 rv
   obtain⟨v,ys,rfl,rv,hy⟩:=rv
   cases hy
   cases d with
   | tup ds =>
    obtain⟨a,xs,rfl,hq,r⟩:=rv
    exact⟨a,xs,rfl,hq,h' ρ1 H1 _ p l rp1 (zOC hq r)⟩
   | _=>exact h'.elim⟩
theorem zGu {X:Cx}{tg e:Expr}{m:M.EM}{p pos:Pos} (hg:Gl X "reversed") (hm:X.mg "reversed" = none) (he:WE X Θ e m) (hs:zo e=true:=by rfl):WI X Θ tg (.Call (.Name "reversed" p) [e] [] pos) (M.zG5 m):=by with_unfolding_all exact zIq (X:=X) (tg:=tg) (e:=e) (m:=m) (p:=p) (pos:=pos) hg hm he hs
end
theorem zEl:∀ {us:List Value}{ys:List Str},StrsAre us ys->zU (ys.map V.str) us
 | _,_,.nil=>.nil
 | _,_,.cons x t r=>.cons ⟨t,rfl⟩ (zEl r)
noncomputable def zN4 (K:PySem.W.Frag):List V->Hp->VK->Prop:=fun xs H Q=>∃ p ys,xs=[.ref p]/\SqL K H p (ys.map V.str)/\ys.length <= 16777216/\∀ q ys',H q=none->ys'.Perm ys->sortedS ys'=true->Q (.ref q) (upd H q (.lst (ys'.map V.str)))
theorem zII {X:Cx}{k:Nat} (hr:jL k X.A):j9 X (.builtin "sorted") (zN4 X.K):=by
 intro pins s σ H xs us Q I r h
 obtain⟨p,ys,rfl,hq,h64,q⟩:=h
 obtain⟨u,rfl,ru⟩:=QV r
 cases ru
 obtain⟨its,rv,pl,hz⟩:=I.list hq
 have hlen:its.length=ys.length:=by have:=rv.length;simp at this;omega
 refine TS.sorted_any pl.isList (zAn rv) (by omega) fun out ys' a1 a2 a3=>?_
 obtain⟨e,he⟩:=sortedAll_at s.heap its out
 have hl':=a2.length_eq
 refine⟨.ref (s.heap.objs.size+1),_,I.laid (t':=s.toks) (o:=.lst (ys'.map V.str)) (fun b ob q=>sortedAll_old q) (Nat.le_succ _) ⟨by rw[List.length_map,sizeLine_eq];omega,out.toList,e,zEl a1,?_⟩,rfl,q _ _ (I.hok.fresh (Nat.le_succ _)) a2 a3⟩
 simpa [seqObj] using he
theorem zQ4 (a:M.T):¬ a < a:=fun h=>List.lt_irrefl a h
theorem zGU {a b c:M.T} (h1:¬ b < a) (h2:¬ c < b):¬ c < a:=by
 rw[List.not_lt] at h1 h2 ⊢
 exact List.le_trans h1 h2
theorem zNe {a b:M.T} (h1:¬ b < a) (h2:¬ a < b):a=b:=by
 rw[List.not_lt] at h1 h2
 exact List.le_antisymm h1 h2
theorem zEb (x:M.T):∀ ts:List M.T,(M.qu.insT' x ts).Perm (x::ts)
 | []=>.refl _
 | y::r=>by
  unfold M.qu.insT'
  split
  ·exact ((zEb x r).cons y).trans (.swap x y r)
  ·exact .refl _
theorem zDB:∀ ts:List M.T,(M.qu ts).Perm ts
 | []=>.refl _
 | x::r=>(zEb x _).trans ((zDB r).cons x)
theorem zIM (x:M.T):∀ ts:List M.T,ts.Pairwise (fun a b=>¬ b < a)->(M.qu.insT' x ts).Pairwise (fun a b=>¬ b < a)
 | [],_=>by unfold M.qu.insT';simp
 | y::r,h=>by
  rw[List.pairwise_cons] at h
  unfold M.qu.insT'
  split
  ·rename_i hy
   rw[List.pairwise_cons]
   refine⟨fun b hb=>?_,zIM x r h.2⟩
   rcases List.mem_cons.mp ((zEb x r).mem_iff.mp hb) with rfl | hb
   ·exact fun z=>zQ4 _ (List.lt_trans z hy)
   ·exact h.1 b hb
  ·rename_i hy
   rw[List.pairwise_cons]
   refine⟨fun b hb=>?_,List.pairwise_cons.mpr h⟩
   rcases List.mem_cons.mp hb with rfl | hb
   ·exact hy
   ·exact zGU hy (h.1 b hb)
theorem zGY:∀ ts:List M.T,(M.qu ts).Pairwise (fun a b=>¬ b < a)
 | []=>.nil
 | x::r=>zIM x _ (zGY r)
theorem zDz:∀ (p:Str) (l:List Str),risingS p l=true->(p::l).Pairwise (fun a b=>¬ b.cps.toList < a.cps.toList)
 | p,[],_=>by simp
 | p,x::r,h=>by
  unfold risingS at h
  rw[Bool.and_eq_true,Bool.not_eq_true',ltCps_eq,decide_eq_false_iff_not] at h
  have ih:=zDz x r h.2
  rw[List.pairwise_cons]
  refine⟨fun b hb=>?_,ih⟩
  rcases List.mem_cons.mp hb with rfl | hb
  ·exact h.1
  ·exact zGU h.1 ((List.pairwise_cons.mp ih).1 b hb)
theorem zKY {l:List Str} (h:sortedS l=true):l.Pairwise (fun a b=>¬ b.cps.toList < a.cps.toList):=by
 cases l with
 | nil=>exact .nil
 | cons x r=>exact zDz x r h
theorem zKC {ts:List M.T}{ys:List Str} (hp:ys.Perm (ts.map ofT)) (hs:sortedS ys=true):ys=(M.qu ts).map ofT:=by
 refine List.Perm.eq_of_pairwise (le:=fun a b=>¬ b.cps.toList < a.cps.toList) (fun a b _ hb h1 h2=>?_) (zKY hs) ?_ (hp.trans ((zDB ts).map ofT).symm)
 ·have e:=zNe h1 h2
  cases a with
  | mk ca=>cases b with
   | mk cb=>exact congrArg Str.mk (Array.toList_inj.mp e)
 ·rw[List.pairwise_map]
  refine (zGY ts).imp fun {a b} h=>?_
  rw[y6,y6]
  exact h
section
variable {K:PySem.W.Frag}{Θ:Tab}
theorem zKl:AdN K Θ M.zFx (zN4 K):=by
 intro ρ H S xs Xs Q rp rxs h
 unfold M.zFx at h
 split at h
 ·rename_i p
  obtain⟨Y,r,rfl,ry,rfl⟩:=rxs
  split at h
  ·rename_i ds e
   obtain⟨a,zs,rfl,ha,hx,rz⟩:=zAA rp ry (zGA e)
   unfold M.zFv at h
   split at h
   ·rename_i ts et
    obtain⟨rfl,hok⟩:=zBT et rz
    split at h
    ·rename_i h64
     refine⟨a,ts.map ofT,rfl,SqL.of hx,by rw[List.length_map];exact h64,fun q ys' hq hp hs=>?_⟩
     rw[zKC hp hs]
     exact h.alloc rp (zEP (M.qu ts) fun t ht=>hok t ((zDB ts).mem_iff.mp ht)) hq
    ·exact h.elim
   ·exact h.elim
  ·exact h.elim
 ·exact h.elim
end
theorem zPt (x:M.T) (u:Tok):Txt.sliceBy (ofT x) none none (-1,u)=ofT x.reverse:=by
 have h:=step_rev_list (ofT x) u
 have hl:(ofT x).length=x.length:=ji x
 have e:(Txt.sliceBy (ofT x) none none (-1,u)).cps.toList=x.reverse:=by
  rw[h,hl]
  refine List.ext_getElem (by simp) fun i h1 h2=>?_
  rw[List.getElem_map,List.getElem_range,List.getElem_reverse]
  have hi:i < x.length:=by simpa using h2
  simp[ofT,Array.getD,show x.length - 1 - i < x.length by omega]
 cases hq:Txt.sliceBy (ofT x) none none (-1,u) with
 | mk c =>
  rw[hq] at e
  exact congrArg Str.mk (Array.toList_inj.mp e)
theorem zOb {X:Cx}{e st:Expr}{te:TE}{p2 pos:Pos} (he:PE X e te) (hst:PE X st (tC (.int (-1)))):PE X (.Subscript e (.Slice none none (some st) p2) pos) (fun σ H Q=>te σ H fun x H1=>∃ z:M.T,x=.str (ofT z)/\(ofT z).length <= sizeLine/\Q (.str (ofT z.reverse)) H1):=by
 intro pins s σ H Q I h
 refine Subscript_ (thn (he pins s σ H _ I h) fun v s1 ⟨x,H1,I1,r1,q1⟩=>?_)
 obtain⟨z,rfl,hz,q⟩:=q1
 obtain⟨tx,rfl⟩:=r1
 refine wpAny_Slice ?_
 rw[evalPart_none]
 refine wpAny_pure (wpAny_pure ?_)
 rw[evalPart_some]
 refine thn (hst pins s1 σ H1 (fun v H'=>v=.int (-1)/\H'=H1) I1 ⟨rfl,rfl⟩) fun u s2 ⟨y,H2,I2,r2,ey,eh⟩=>?_
 subst ey
 subst eh
 obtain⟨t,rfl⟩:=r2
 have I4:Inv X pins σ H2 { s2 with heap:=s2.heap.push { cls:=.type "slice",data:=.fields #[.none,.none,.int (-1) t] } }:=I2.kept (t':=s2.toks) fun b ob q=>Heap.get?_push_of_some _ q
 show wpAny (model X.prog X.w) X.A (subscriptTail e (.Slice none none (some st) p2) (.str (ofT z) tx) (.ref s2.heap.objs.size)) (EP X pins σ Q) X.xe { s2 with heap:=s2.heap.push { cls:=.type "slice",data:=.fields #[.none,.none,.int (-1) t] } }
 refine wpAny_with_toks (n:=1) I4.tk ?_
 refine tail_any (ops:=[.ref s2.heap.objs.size,.str (ofT z) tx]) (typeIs_str _ _ _) F.slot_str_getitem.lookup ?_ (by with_unfolding_all rfl)
 refine wpAny_getItem_str_slice (l:=none) (u:=none) (st:=some (-1,t)) ⟨_,Heap.get?_push_size _ rfl,rfl,rfl⟩ rfl (post_val_or_str ⟨Nat.le_trans (Txt.sliceBy_le (ofT z) none none (-1,t) (show (-1:Int)≠0 by decide)) hz,fun t' c hc=>⟨.str (ofT z.reverse),H2,I4.tok c hc,⟨t',?_⟩,q⟩⟩)
 exact congrArg (fun y=>Value.str y t') (zPt z t)
section
variable {X:Cx}{Θ:Tab}
theorem PE.or {e:Expr}{t t':TE} (h:PE X e t) (h':PE X e t'):PE X e (fun σ H Q=>t σ H Q\/t' σ H Q):=fun pins s σ H Q I q=>by
 rcases q with q | q
 ·exact h pins s σ H Q I q
 ·exact h' pins s σ H Q I q
theorem zRT {e:Expr}{m:M.EM}{j:Nat}{p1 p2 p3 pos:Pos} (he:ME X Θ e m):ME X Θ (.Subscript e (.Slice none none (some (.UnaryOp .USub (.Constant (.int 1) j p1) p2)) p3) pos) (M.eUn M.zEQ m) :=
 (PE.or (zPQ he ((zKD zHm zHi).imp fun σ H Q h=>⟨1,rfl,h⟩)) (zOb he ((zKD zHm zHi).imp fun σ H Q h=>⟨1,rfl,h⟩))).imp fun σ H Q ⟨ρ,σ',S,st,rp,h⟩=>by
  have h':zG X.K Θ (zN X.K) ρ H ((m σ' S).bind M.zEQ) Q:=h
  cases hm:m σ' S with
  | no=>rw[hm] at h';exact h'.elim
  | exc a s=>rw[hm] at h';exact h'.elim
  | ok d S1 =>
   rw[hm] at h'
   have go:∀ {Q':VK},(∀ ρ1 H1 v,ρ <+: ρ1->Le H H1->zX X.K Θ ρ1 S1 H1->zN X.K ρ1 H1 d v->Q' v H1)->RdE X.K Θ m σ H Q':=fun q=>⟨ρ,σ',S,st,rp,by rw[hm];exact q⟩
   cases d with
   | ref p =>
    refine .inl (go fun ρ1 H1 v p1 l1 rp1 rx=>?_)
    have h2:zG X.K Θ (zN X.K) ρ H (match M.jB S1 p with | some xs=>M.alloc (.lst xs.reverse) S1 | none=>.no) Q:=h'
    cases e:M.jB S1 p with
    | none=>rw[e] at h2;exact h2.elim
    | some ds =>
     rw[e] at h2
     obtain⟨a,zs,rfl,ha,hx,rz⟩:=zAA rp1 rx (zGA e)
     exact⟨a,zs,rfl,SqL.of hx,fun p hp=>zG.alloc (zG.weak h2 p1 l1) rp1 rz.rev hp⟩
   | str z =>
    refine .inr (go fun ρ1 H1 v p1 l1 rp1 rx=>?_)
    obtain⟨rfl,ok⟩:=rx
    have h2:zG X.K Θ (zN X.K) ρ H (if z.length <= M.SZ then M.R.ok (.str z.reverse) S1 else .no) Q:=h'
    by_cases hz:z.length <= M.SZ
    ·rw[if_pos hz] at h2
     exact⟨z,rfl,by rw[ji,<- Za];exact hz,h2 ρ1 H1 _ p1 l1 rp1 ⟨rfl,zAu ok fun c hc=>List.mem_reverse.mp hc⟩⟩
    ·rw[if_neg hz] at h2
     exact h2.elim
   | _=>exact h'.elim
theorem zHB {e:Expr}{m:M.EM}{j:Nat}{p1 p2 p3 pos:Pos} (he:WE X Θ e m):WE X Θ (.Subscript e (.Slice none none (some (.UnaryOp .USub (.Constant (.int 1) j p1) p2)) p3) pos) (M.eUn M.zEQ m):=by with_unfolding_all exact zRT (e:=e) (m:=m) (j:=j) (p1:=p1) (p2:=p2) (p3:=p3) (pos:=pos) he
end
end L2
namespace L2
open PySem PySem.Spec PyProof.Rows PySem.Builtin.Str
section
variable {P:Program}{w:World}{A:Around}{E:Value->Shared->Prop}{s:Shared}
theorem zIS {I l:Addr}{its:Array Value}{Q:List Value->Shared->Prop} (hh:A.handled=none) (hne:l≠I) (lI:I < s.heap.objs.size) (ll:l < s.heap.objs.size) (hit:s.heap.IsRevIter I l ((its.size:Int) - 1)) (hl:s.heap.IsList l its) (hn:its.size <= sizeLine)
  (q:∀ h' tk acc,s.toks <= tk->(∀ b o,b≠I->s.heap.get? b=some o->h'.get? b=some o)->ItemsOf (fun i v=>its[its.size - 1 - i]? = some v) acc its.size->Q acc.toList { s with heap:=h',toks:=tk }):wpAny (model P w) A (collect (.ref I)) Q E s:=by
 have W:=Walks.listRev (prog:=P) (w:=w) (A:=A.in1) hh I l hne its
 have hSf:s.heap.objs.size∉[I,l]:=fun hm=>by
  rcases List.mem_cons.mp hm with e | hm
  ·exact Nat.lt_irrefl _ (e ▸ lI)
  ·exact Nat.lt_irrefl _ (List.mem_singleton.mp hm ▸ ll)
 have hSI:s.heap.objs.size≠I:=Nat.ne_of_gt lI
 unfold collect
 refine wpAny_bind (wpAny_runValue (codeAny_builtin PySem.F.entry_proto_collect ?_))
 rw[Around.under_plainId PySem.F.plain_proto_collect _]
 show wpAny _ A.in1 (newList [] >>= fun l=>again (.builtin "list.__iadd__" ⟨[l,.ref I],[]⟩)) _ _ s
 refine wpAny_bind (wpAny_newObj_type ?_)
 refine wpAny_pure ⟨plainId_quiet PySem.F.plain_list_iadd _,codeAny_builtin PySem.F.entry_list_iadd ?_⟩
 rw[Around.under_plainId PySem.F.plain_list_iadd _]
 have st0:(0:Nat) <= its.size/\s.heap.IsRevIter I l ((its.size:Int) - 1 - ((0:Nat):Int))/\s.heap.IsList l its:=⟨Nat.zero_le _,by simpa using hit,hl⟩
 have st1:=W.frame 0 s.heap (s.heap.push { cls:=.type "list",data:=.seq ([]:List Value).toArray }) st0 fun b _ o e=>Heap.get?_push_of_some _ e
 have hS₁:(s.heap.push { cls:=.type "list",data:=.seq ([]:List Value).toArray }).get? s.heap.objs.size=some { cls:=.type "list",data:=.seq ([]:List Value).toArray }:=Heap.get?_push_size _ rfl
 have h1:Builtin.List.listSameRef (.ref s.heap.objs.size) (.ref I)=false:=by simp[Builtin.List.listSameRef,hSI]
 have t1:(Value.type "list_reverseiterator" == Value.type "list")=false:=by decide
 have t2:(Value.type "list_reverseiterator" == Value.type "tuple")=false:=by decide
 show wpAny _ A.in1 (Builtin.List.listExtendWith (.ref s.heap.objs.size) (.ref I) (.ref s.heap.objs.size)) _ _ _
 unfold Builtin.List.listExtendWith
 refine wpAny_bind (wpAny_typeOf (Heap.IsRevIter.typeIs st1.2.1) ?_)
 simp only[h1,t1,t2,Bool.or_false,Bool.false_eq_true,if_false]
 refine wpAny_bind (W.self 0 _ _ _ st1 ?_)
 refine wpAny_bind (wpAny_holding (zNO st1.2.1 ?_))
 rw[if_neg (by decide)]
 refine wpAny_pure ⟨plainId_quiet PySem.F.plain_extend_loop _,codeAny_extend_loopS W.toS hn _ hSf _ its.size 0 _ _ _ rfl (Nat.zero_le _) st1 hS₁ (ItemsOf.nil _) fun s' acc' c' hm hS' hacc=>?_⟩
 show wpAny _ A (load s.heap.objs.size >>= _) _ _ s'
 refine wpAny_bind (wpAny_load hS' (wpAny_pure ?_))
 rw[Moved.eq_with hm]
 refine q s'.heap s'.toks acc' hm.toks (fun b o hb e=>hm.heap b o (fun hmem=>?_) (Heap.get?_push_of_some _ e)) hacc
 rcases List.mem_cons.mp hmem with e' | hmem
 ·exact Nat.ne_of_lt (Heap.lt_size e) e'
 ·exact hb (List.mem_singleton.mp hmem)
theorem zNb {I l:Addr}{its:List Value}{ys:List Str}{x:Str}{t:Tok}{Q:Value->Shared->Prop} (hh:A.handled=none) (hne:l≠I) (lI:I < s.heap.objs.size) (ll:l < s.heap.objs.size) (hit:s.heap.IsRevIter I l ((its.toArray.size:Int) - 1)) (hl:s.heap.IsList l its.toArray) (hs:StrsAre its ys) (hn:its.length <= sizeLine) (hz:(ys.map (·.length)).sum+ys.length * x.length <= 16777216)
  (q:∀ h' t' tk,(∀ b o,b≠I->s.heap.get? b=some o->h'.get? b=some o)->Q (.str (Txt.join x ys.reverse) t') { s with heap:=h',toks:=tk }):wpAny (model P w) A (call (.builtin "str.join") [.str x t,.ref I]) Q E s:=by
 refine wpAny_call (codeAny_call_builtin PySem.F.slot_str_join.plain PySem.F.entry_str_join (PySem.F.slot_str_join.check _ _ _ _ _ _ _ _ (typeIs_str _ _ _) (PySem.F.args_str_join_2 _ _) ?_))
 rw[join_tree_other]
 refine wpAny_bind (wpAny_typeOf (Heap.IsRevIter.typeIs hit) ?_)
 show wpAny _ A.in1 ((pyIter (.ref I)).tryCatch _ >>= fun it=>collect it >>= fun items=>joinTail x items) _ _ s
 refine wpAny_bind (wpAny_tryCatch (wpAny_pyIter_revIter hit ?_))
 refine wpAny_bind (zIS (A:=A.in1) hh hne lI ll hit hl (by rw[List.size_toArray];exact hn) fun h' tk acc htk kk hacc=>?_)
 have ea:acc=its.reverse.toArray:=zLw (by simpa using hacc)
 obtain⟨lv,hv,ht⟩:=strsAre_values hs
 have el:acc.toList=strValues lv.reverse:=by
  rw[ea]
  show its.reverse=_
  rw[hv];unfold strValues;rw[List.map_reverse]
 rw[el]
 have em:lv.reverse.map (·.1)=ys.reverse:=by rw[<- ht,List.map_reverse]
 have hok:JoinOk x (lv.reverse.map (·.1))=true:=by
  rw[em]
  refine joinOk_of ?_
  rw[List.map_reverse,List.sum_reverse,List.length_reverse]
  exact hz
 unfold JoinOk at hok
 rw[Bool.not_eq_true'] at hok
 have g:Gives (joinTail x (strValues lv.reverse)) (joinMade x lv.reverse):=by
  have g0:=gives_joinTail x lv.reverse hok
  generalize lv.reverse=l at *
  cases l with
  | nil=>exact g0
  | cons p r=>cases r with
   | nil=>exact g0
   | cons q r'=>exact g0
 refine g P w A (wants Q E) _ (post_join lv.reverse ⟨joinFit_length hok,fun t' k=>?_⟩)
 rw[em]
 exact q h' t' k kk
end
section
variable {X:Cx}{Θ:Tab}{k:Nat}
noncomputable def zNh (K:PySem.W.Frag) (x:Str):V->Hp->VK->Prop:=fun v H Q=>∃ p,∃ ys:List Str,v=.ref p/\SqL K H p (ys.map V.str)/\(ys.map (·.length)).sum+ys.length * x.length <= 16777216/\Q (.str (Txt.join x ys.reverse)) H
theorem zKE {z:Str}{j:Nat}{p pz pos2 apos cpos:Pos}{a:Expr}{ta:TE} (hr:jL k X.A) (hgz:Gl X "reversed") (hmz:X.mg "reversed" = none) (ha:PE X a ta) (hsa:zo a=true:=by rfl) (hline:(apos.endLine == cpos.line)=true:=by rfl) :
  PE X (.Call (.Attribute (.Constant (.str z) j p) "join" apos) [.Call (.Name "reversed" pz) [a] [] pos2] [] cpos) (fun σ H Q=>ta σ H fun v H1=>zNh X.K z v H1 Q):=by
 intro pins s σ H Q I h
 refine wpAny_Call_method_late rfl rfl hline rfl (Calls.Constant_str ?_)
 have I0:Inv X pins σ H { s with toks:=s.toks+1 }:=I.tok _
 obtain⟨h1,h2⟩:=zFT (T := "str") I0 (show zg (.str z) (.str z s.toks) from ⟨_,rfl⟩) rfl
 refine⟨"str","str.join",PySem.F.plainAttrs_str,PySem.F.slot_str_join,PySem.F.type_str_join,h1,h2,?_⟩
 refine Calls.callWith_builtin rfl (Calls.evalArgs_plain ?_)
 show wpAny _ _ (spliced [(false,eval (.Call (.Name "reversed" pz) [a] [] pos2) X.env)]) _ _ _
 refine Calls.spliced_cons ?_
 refine Call_ (zCA I0 hgz hmz zD6 (PyProof.Rows.callWith_type1 ?_ (qP hsa) (Ze (by simp))))
 rw[qP (e:=a) (es:=[]) hsa]
 refine Calls.spliced_cons (thn (ha pins _ σ H _ I0 h) fun u s1 ⟨v,H1,I1,r1,q1⟩=>Calls.spliced_nil ?_)
 obtain⟨l,ys,rfl,hq,hz,q⟩:=q1
 cases r1
 obtain⟨its,rv,pl,hzl⟩:=I1.list hq
 have hl:=rv.length
 have ll:l < s1.heap.objs.size:=by obtain⟨o,e,_⟩:=pl.isList;exact Heap.lt_size e
 refine call_reversed_list pl.isList ?_
 have g:(s1.heap.push (revObj l ((its.toArray.size:Int) - 1))).IsRevIter s1.heap.objs.size l ((its.toArray.size:Int) - 1):=⟨_,Heap.get?_push_size _ rfl,rfl,rfl⟩
 have n1:(s1.heap.push (revObj l ((its.toArray.size:Int) - 1))).objs.size=s1.heap.objs.size+1:=Heap.size_push ..
 refine Calls.spliced_nil ?_
 refine wpAny_with_toks (n:=1) (show 1 <= _ from I1.tk) (zNb (I:=s1.heap.objs.size) (l:=l) (its:=its) (ys:=ys) hr.hd (Nat.ne_of_lt ll) (by show s1.heap.objs.size < (s1.heap.push _).objs.size;rw[n1];exact Nat.lt_succ_self _) (by show l < (s1.heap.push _).objs.size;rw[n1];exact Nat.lt_succ_of_lt ll) g (pl.isList.push _) (zAn rv) (by rw[<- hl];exact hzl) hz fun h' t' tk kk htk=>?_)
 exact⟨.str (Txt.join z ys.reverse),H1,I1.kept (t':=tk) (fun b o e=>kk b o (Nat.ne_of_lt (Heap.lt_size e)) (Heap.get?_push_of_some _ e)) htk,⟨_,rfl⟩,q⟩
theorem zJz {y:M.T}{z:Str}{j:Nat}{p pz pos2 apos cpos:Pos}{a:Expr}{m:M.EM} (hzy:z=ofT y) (hy:okT y) (hr:jL k X.A) (hgz:Gl X "reversed") (hmz:X.mg "reversed" = none) (ha:ME X Θ a m) (hsa:zo a=true:=by rfl) (hline:(apos.endLine == cpos.line)=true:=by rfl) :
  ME X Θ (.Call (.Attribute (.Constant (.str z) j p) "join" apos) [.Call (.Name "reversed" pz) [a] [] pos2] [] cpos) (M.eUn (M.zB8 y) m) :=
 (zKE hr hgz hmz ha hsa hline).imp fun σ H Q ⟨ρ,σ',S,st,rp,h⟩=>⟨ρ,σ',S,st,rp,zG.bind h fun ρ1 H1 x X1 S1 p1 l1 rp1 rx h1=>by
  subst hzy
  cases x with
  | ref i =>
   obtain⟨ad,rfl,ea⟩:=rx
   have h2:zG X.K Θ (zN X.K) ρ1 H1 (match M.jB S1 i with | some xs=>M.Zd y xs.reverse S1 | none=>.no) Q:=h1
   cases q:S1[i]? with
   | none=>simp[M.jB,q] at h2;exact h2.elim
   | some o =>
    cases o with
    | lst ds =>
     simp only[M.jB,q] at h2
     obtain⟨zs,e1,r⟩:=Zn rp1 ea q
     cases e:M.QS ds.reverse with
     | none=>simp only[M.Zd,e] at h2;exact h2.elim
     | some ts =>
      obtain⟨ez,ok⟩:=zBT e r.rev
      have ez2:zs=(ts.reverse.map ofT).map V.str:=by
       have:=congrArg List.reverse ez
       rw[List.reverse_reverse] at this
       rw[this,List.map_reverse,List.map_reverse]
      by_cases hz:(ts.map List.length).sum+ts.length * y.length <= M.SZ
      ·simp only[M.Zd,e,if_pos hz] at h2
       refine⟨ad,ts.reverse.map ofT,rfl,SqL.of (by rw[<- ez2];exact e1),?_,?_⟩
       ·rw[zJQ,List.length_map,ji,List.map_reverse,List.sum_reverse,List.length_reverse];exact hz
       ·rw[<- List.map_reverse,List.reverse_reverse,zI1];exact zG.here h2 rp1 ⟨rfl,zEN hy ok⟩
      ·simp only[M.Zd,e,if_neg hz] at h2;exact h2.elim
    | dct kvs=>simp[M.jB,q] at h2;exact h2.elim
    | fdc _=>simp[M.jB,q] at h2;exact h2.elim
    | ins c fs=>simp[M.jB,q] at h2;exact h2.elim
  | non=>exact h1.elim
  | bl _=>exact h1.elim
  | int _=>exact h1.elim
  | str _=>exact h1.elim
  | tup _=>exact h1.elim
  | ro _=>exact h1.elim
  | ty _=>exact h1.elim⟩
theorem zG7 {y:M.T}{z:Str}{j:Nat}{p pz pos2 apos cpos:Pos}{a:Expr}{m:M.EM} (hzy:z=ofT y) (hy:okT y) (hr:jL k X.A) (hgz:Gl X "reversed") (hmz:X.mg "reversed" = none) (ha:WE X Θ a m) (hsa:zo a=true:=by rfl) (hline:(apos.endLine == cpos.line)=true:=by rfl) :
  WE X Θ (.Call (.Attribute (.Constant (.str z) j p) "join" apos) [.Call (.Name "reversed" pz) [a] [] pos2] [] cpos) (M.eUn (M.zB8 y) m):=by with_unfolding_all exact zJz (y:=y) (z:=z) (j:=j) (p:=p) (pz:=pz) (pos2:=pos2) (apos:=apos) (cpos:=cpos) (a:=a) (m:=m) hzy hy hr hgz hmz ha hsa hline
end
theorem zOZ {K:PySem.W.Frag}{Θ:Tab}:AdN K Θ M.zG0 (fun xs H Q=>∃ i j,xs=[.int i,.int j]/\Q (.int (if j < i then j else i)) H):=by
 intro ρ H S xs Xs Q rp rxs h
 unfold M.zG0 at h
 split at h
 ·rename_i i j
  obtain⟨Y,r,rfl,ry,Z,r2,rfl,rz,rfl⟩:=rxs
  cases ry;cases rz
  exact⟨i,j,rfl,zG.here h rp rfl⟩
 ·exact h.elim
end L2
set_option maxHeartbeats 4000000
namespace M
noncomputable section
noncomputable def JT:SM :=
  (jn (eOp ZB (eOp ZA (eOp jO (zC 0) (eOp ZA (eC (.int 7919)) (zC 1))) (eC (.int 48271))) (eC (.int 2147483647))))
noncomputable def zDG:F:=fn 2 JT
noncomputable def mix (c k:Int):Int:=(c+7919 * k) * 48271 % 2147483647
noncomputable def QC:F
 | [.int c,.int k],s=>.ok (.int (mix c k)) s
 | _,_=>.no
theorem zGq:jc 2 zDG QC:=jc.pure fun ds S hl c ca=>by
 match ds,hl with
 | [a,b],_ =>
  cases a with
  | int c =>
   cases b with
   | int k =>
    have h1:ZK 7919=true:=by decide
    have h2:ZK 48271=true:=by decide
    exact .inr ⟨_,[],rfl,by simp[zDG,JT,h1,h2,mix],rfl⟩
   | _=>exact .inl rfl
  | _=>exact .inl rfl
noncomputable def ZQ:SM :=
  (zO (sIf (jM cLt (zC 1) (zS ZC (zD (zC 0) zH)))
  (jn (zS QC (zD (eOp zY (zC 0) (zC 1)) (zD (zC 1) zH))))
  ql)
  (jn (eC (.int 0))))
noncomputable def Jx:F:=fn 2 ZQ
noncomputable def zDp (xs:List D) (k:Int):Option Int:=if k < xs.length then (match xs.getD k.toNat .non with | .int i=>some (mix i k) | _=>none) else some 0
noncomputable def zc:F
 | [.ro xs,.int k],s=>if 0 <= k then (match zDp xs k with | some i=>.ok (.int i) s | none=>.no) else .no
 | _,_=>.no
theorem zEm:jc 2 Jx zc:=jc.pure fun ds S hl c ca=>by
 match ds,hl with
 | [a,b],_ =>
  cases a with
  | ro xs =>
   cases b with
   | int k =>
    by_cases h0:0 <= k
    ·have s1:ZK 48271=true:=by decide
     have s2:ZK 7919=true:=by decide
     by_cases h:k < (xs.length:Int)
     ·have ea:=zJE h0 h (D.non)
      cases hd:xs.getD k.toNat .non with
      | int i =>
       have hc:zDp xs k=some (mix i k):=by unfold zDp;rw[if_pos h,hd]
       exact .inr ⟨_,[],by simp[zc,h0,hc];rfl,by simp[Jx,ZQ,h,ea,-List.getD_eq_getElem?_getD,hd,QC],rfl⟩
      | _=>exact .inl (by simp[zc,h0,zDp,h,-List.getD_eq_getElem?_getD,hd])
     ·exact .inr ⟨.int 0,[],by simp[zc,h0,zDp,h],by simp[Jx,ZQ,h],rfl⟩
    ·exact .inl (by simp[zc,h0])
   | _=>exact .inl rfl
  | _=>exact .inl rfl
theorem zRQ (c k:Int):0 <= mix c k/\mix c k < 2147483647:=⟨Int.emod_nonneg _ (by decide),Int.emod_lt_of_pos _ (by decide)⟩
noncomputable def QW (ns:List Int) (k:Nat):Int:=if k < ns.length then mix (ns.getD k 0) k else 0
theorem zMV (ns:List Int) (k:Nat):0 <= QW ns k/\QW ns k < 2147483647:=by
 unfold QW
 split
 ·exact zRQ _ _
 ·decide
theorem zF4 (ns:List Int) (k:Nat) (s:M.S):zc [.ro (ns.map .int),.int (k:Int)] s=.ok (.int (QW ns k)) s:=by
 have h0:(0:Int) <= (k:Int):=by omega
 simp only[zc,h0,if_true]
 unfold zDp QW
 by_cases h:k < ns.length
 ·have h':(k:Int) < ((ns.map D.int).length:Int):=by rw[List.length_map];omega
  rw[if_pos h',if_pos h]
  have:(ns.map D.int).getD (k:Int).toNat .non=.int (ns.getD k 0):=by
   rw[Int.toNat_natCast,List.getD_eq_getElem?_getD,List.getElem?_map,List.getD_eq_getElem?_getD,List.getElem?_eq_getElem h]
   rfl
  rw[this]
 ·have h':¬ (k:Int) < ((ns.map D.int).length:Int):=by rw[List.length_map];omega
  rw[if_neg h',if_neg h]
noncomputable def ye:SM :=
  (J9 4 0 (zC 0) (zC 2))
noncomputable def yg:SM :=
  (J9 4 1 (zC 0) (zC 3))
noncomputable def yf:SM :=
  (J9 4 2 (zC 0) zA5)
noncomputable def yb:SM :=
  (J9 4 3 (zC 0) (eC (.int 0)))
noncomputable def yk:SM :=
  (J9 4 4 (zC 0) (Zi zH))
noncomputable def yj:SM :=
  (J9 4 5 (zC 0) (Zi (zD (jS (zD (eC (.str [112,97,114,116])) (zD (zC 1) (zD (eC .non) zH)))) zH)))
noncomputable def yi:SM :=
  (J9 4 6 (zC 0) (eC .non))
noncomputable def ZF:SM:=(zO ye (zO yg (zO yf (zO yb (zO yk (zO yj yi))))))
noncomputable def zAW:F:=fn 4 ZF
noncomputable abbrev yS:F:=zAW
noncomputable abbrev Qr:T:=[116,101,120,116]
noncomputable abbrev zJv:T:=[97,115,107,115]
noncomputable abbrev zv:T:=[102,97,105,108,115]
noncomputable abbrev qW:T:=[116,111,111,32,108,111,110,103]
noncomputable abbrev Z3:T:=[116,111,111,32,109,117,99,104]
noncomputable abbrev tNo:T:=[110,111,32,110,97,109,101]
noncomputable abbrev Z2:T:=[106,111,105,110]
noncomputable abbrev tIf:T:=[105,102]
noncomputable abbrev Jc:T:=[101,97,99,104]
noncomputable abbrev zPr:T:=[114,111,117,110,100]
noncomputable abbrev tOf:T:=[111,102]
noncomputable abbrev zDt:T:=[102,97,105,108]
noncomputable abbrev zCZ:T:=[98,97,99,107]
noncomputable abbrev Z8:T:=[102,105,114,115,116]
noncomputable abbrev zNw:T:=[114,101,115,116]
noncomputable abbrev zKh:T:=[99,111,117,110,116]
noncomputable abbrev zRq:T:=[115,111,114,116,101,100]
noncomputable def W5 (w:T):Prop:=w=zCZ\/w=Z8\/w=zNw\/w=zKh\/w=zRq
noncomputable def W7 (w:T):Prop:=w=tOf\/w=zDt\/W5 w
noncomputable def zn (r:T×T):D:=.tup [.str r.1,.str r.2]
noncomputable def zCL (kvs:List (T×T)) (x:T):Option T:=kvs.lookup x
noncomputable def pd (p:T×T):D×D:=(.str p.1,.str p.2)
theorem zF0 (x:T):∀ kvs:List (T×T),ZM (.str x) (kvs.map pd)=(zCL kvs x).map .str
 | []=>rfl
 | (k,v)::kvs=>by
  have ih:=zF0 x kvs
  unfold ZM zCL at *
  rw[List.map_cons,List.lookup_cons,List.lookup_cons]
  show (match D.str x == D.str k with | true=>_ | false=>_)=_
  by_cases e:x=k
  ·subst e;simp[pd]
  ·have h1:(D.str x == D.str k)=false:=by simpa using e
   have h2:(x == k)=false:=by simpa using e
   rw[h1,h2]
   exact ih
theorem zO5 {ans:List (T×T)}{x v:T} (h:zCL ans x=some v):(x,v)∈ans:=by
 obtain⟨l1,l2,e,_⟩:=List.lookup_eq_some_iff.mp h
 rw[e];simp
theorem at0 (x:D) (r:List D):atI (x::r) 0=some x:=by simp[atI,ixN]
theorem at1 (x y:D) (r:List D):atI (x::y::r) 1=some y:=by
 unfold atI ixN
 rw[if_pos (by decide),if_pos (by simp only[List.length_cons];omega)]
 rfl
theorem zLJ {S:M.S}{a:Nat}{ans:List (T×T)} (ha:S[a]? = some (.dct (ans.map pd))) (x:T):inD (.str x) (.ref a) S=.ok (zCL ans x).isSome S:=by
 simp only[inD,ha]
 rw[if_pos (show Z4 (.str x)=true from rfl),zF0,Option.isSome_map]
theorem zRL {S:M.S}{a:Nat}{ans:List (T×T)} (ha:S[a]? = some (.dct (ans.map pd))) {x v:T} (h:zCL ans x=some v):zY (.ref a) (.str x) S=.ok (.str v) S:=by
 have hd:ZM (.str x) (ans.map pd)=some (.str v):=by rw[zF0,h];rfl
 simp only[zY,ha,hd]
 rfl
noncomputable def zFo (u:List T) (n:T):List T:=u++(if u.contains n=true then [] else [n])
theorem zMG (u:List T) (n:T):(zFo u n).length <= u.length+1:=by
 unfold zFo
 split<;>simp
noncomputable def usD (used:List T):List (D×D):=used.map fun x=>(D.str x,D.bl true)
theorem zJC (used:List T):(usD used).map (fun p:D×D=>p.1)=used.map D.str:=by unfold usD;rw[List.map_map];rfl
theorem zQd (t:T) (used:List T):zCM (.str t) (.bl true) (usD used)=usD (zFo used t):=by
 have ha:((usD used).any fun p=>decide (p.1=.str t))=used.contains t:=by
  unfold usD
  rw[List.any_map,List.contains_eq_any_beq]
  congr 1
  funext x
  simp only[Function.comp]
  by_cases h:x=t
  ·subst h;simp
  ·have h2:(t == x)=false:=by simpa using fun z:t=x=>h z.symm
   rw[h2];simp[h]
 unfold zCM zFo
 rw[ha]
 by_cases h:used.contains t=true
 ·rw[if_pos h,if_pos h,List.append_nil]
  unfold usD
  rw[List.map_map]
  refine List.map_congr_left fun x hx=>?_
  simp only[Function.comp]
  split<;>rfl
 ·rw[if_neg h,if_neg h]
  unfold usD
  rw[List.map_append]
  rfl
inductive Tr where
 | txt (t:T) | line | it | stem | thing (n:T) | kin (n:T) | join (ts:List Tr) | ife (a b x y:Tr) | each (a b:Tr) | one (w:T) (a:Tr)
noncomputable def Tr.d:Tr->D
 | .txt t=>.tup [.str [116,101,120,116],.str t]
 | .line=>.tup [.str [108,105,110,101]]
 | .it=>.tup [.str [105,116]]
 | .stem=>.tup [.str [115,116,101,109]]
 | .thing n=>.tup [.str [116,104,105,110,103],.str n]
 | .kin n=>.tup [.str [107,105,110],.str n]
 | .join ts=>.tup (.str [106,111,105,110]::ds ts)
 | .ife a b x y=>.tup [.str [105,102],a.d,b.d,x.d,y.d]
 | .each a b=>.tup [.str [101,97,99,104],a.d,b.d]
 | .one w a=>.tup [.str w,a.d]
where ds:List Tr->List D
 | []=>[]
 | t::ts=>t.d::ds ts
theorem Tr.ds_map:∀ ts:List Tr,Tr.d.ds ts=ts.map Tr.d
 | []=>rfl
 | t::ts=>by rw[Tr.d.ds,Tr.ds_map ts];rfl
theorem Tr.d_join (ts:List Tr):(Tr.join ts).d=.tup (.str Z2::ts.map Tr.d):=by
 rw[Tr.d,Tr.ds_map]
inductive Out where
 | tx (t:T) | en (r:T×T)
noncomputable abbrev Ct:=Nat×List T
noncomputable def zER (ans:List (T×T)) (n:T) (c:Ct):Out×Ct:=match zCL ans n with
 | some v=>(.tx v,(c.1,zFo c.2 n))
 | none=>(.en (zJv,n),c)
noncomputable def Qz:Out×Ct->Out×Ct
 | (.tx t,c)=>if 900 < t.length then (.en (zv,qW),c) else (.tx t,c)
 | r=>r
noncomputable def evs (f:Tr->Ct->Out×Ct):List Tr->T->Ct->Out×Ct
 | [],t,c=>(.tx t,c)
 | a::r,t,c=>match f a c with
  | (.en e,c)=>(.en e,c)
  | (.tx x,c)=>evs f r (t++x) c
noncomputable def evw (f:T->Ct->Out×Ct):List T->T->Ct->Out×Ct
 | [],t,c=>(.tx t,c)
 | w::r,t,c=>match f w c with
  | (.en e,c)=>(.en e,c)
  | (.tx x,c)=>if 900 < (t++x).length then (.en (zv,qW),c) else evw f r (t++x) c
noncomputable def Wk (S:M.S) (st:D) (a:Nat) (us:List (D×D)) (k:Int) (tx td:List D) (en:D) (g:M.S):M.S :=
 S++(.ins 4 [some st,some (.ref a),some (.ref (S.length+1)),some (.int k),some (.ref (S.length+2)),some (.ref (S.length+3)),some en]::.dct us::.lst tx::.lst td::g)
section
variable {S:M.S}{st:D}{a:Nat}{us us':List (D×D)}{k k':Int}{tx tx' td td':List D}{en en':D}{g:M.S}
theorem wk0:(Wk S st a us k tx td en g)[S.length]? = some (.ins 4 [some st,some (.ref a),some (.ref (S.length+1)),some (.int k),some (.ref (S.length+2)),some (.ref (S.length+3)),some en]):=by simp[Wk]
theorem wk1:(Wk S st a us k tx td en g)[S.length+1]? = some (.dct us):=by simp[Wk]
theorem wk2:(Wk S st a us k tx td en g)[S.length+2]? = some (.lst tx):=by simp[Wk]
theorem wk3:(Wk S st a us k tx td en g)[S.length+3]? = some (.lst td):=by simp[Wk]
theorem wkO {p:Nat}{o:O} (h:S[p]? = some o):(Wk S st a us k tx td en g)[p]? = some o:=zBr h _
theorem ws0:(Wk S st a us k tx td en g).set S.length (.ins 4 [some st,some (.ref a),some (.ref (S.length+1)),some (.int k'),some (.ref (S.length+2)),some (.ref (S.length+3)),some en'])=Wk S st a us k' tx td en' g:=by
 unfold Wk;rw[List.set_append_right _ _ (Nat.le_refl _),Nat.sub_self];rfl
theorem ws1:(Wk S st a us k tx td en g).set (S.length+1) (.dct us')=Wk S st a us' k tx td en g:=by
 unfold Wk;rw[List.set_append_right _ _ (by omega),show S.length+1 - S.length=1 by omega];rfl
theorem ws2:(Wk S st a us k tx td en g).set (S.length+2) (.lst tx')=Wk S st a us k tx' td en g:=by
 unfold Wk;rw[List.set_append_right _ _ (by omega),show S.length+2 - S.length=2 by omega];rfl
theorem ws3:(Wk S st a us k tx td en g).set (S.length+3) (.lst td')=Wk S st a us k tx td' en g:=by
 unfold Wk;rw[List.set_append_right _ _ (by omega),show S.length+3 - S.length=3 by omega];rfl
theorem zG4 (h:M.S):Wk S st a us k tx td en g++h=Wk S st a us k tx td en (g++h):=by simp[Wk]
end
theorem zOJ (S:M.S) (tree:D) (st:D) (a:Nat):yS [.ref S.length,tree,st,.ref a] (S++[.ins 4 (List.replicate 7 none)])=.ok .non (Wk S st a [] 0 [] [.tup [.str [112,97,114,116],tree,.non]] .non []):=by
 have z3:(3:Nat) <= SZ:=by decide
 have z1:(1:Nat) <= SZ:=by decide
 have z0:(0:Nat) <= SZ:=by decide
 simp[zAW,ZF,ye,yg,yf,yb,yk,yj,yi,z3,z1,z0,Wk,RS.out]
noncomputable def Qb:SM :=
  (J9 4 6 (zC 0) (jS (zD (eC (.str [102,97,105,108,115])) (zD (zC 1) zH))))
noncomputable def yv:F:=fn 2 Qb
noncomputable abbrev yM:F:=yv
section
variable {S:M.S}{st:D}{a:Nat}{us:List (D×D)}{k:Int}{tx td:List D}{en:D}{g:M.S}
theorem zDo (w:T):yM [.ref S.length,.str w] (Wk S st a us k tx td en g)=.ok .non (Wk S st a us k tx td (zn (zv,w)) g):=by
 have z2:(2:Nat) <= SZ:=by decide
 simp[yv,Qb,wk0,z2,ws0,zn,RS.out]
end
noncomputable def yZ:SM :=
  (sIf (jM cGt (zS ZC (zD (zC 1) zH)) (eC (.int 900)))
  (z9 (jR 4 yM (zC 0) (zD (eC (.str [116,111,111,32,108,111,110,103])) zH)))
  (z9 (eM .list yL (jT 4 4 (zC 0)) (zD (zC 1) zH))))
noncomputable def qd:F:=fn 2 yZ
noncomputable abbrev zr:F:=qd
section
variable {S:M.S}{st:D}{a:Nat}{us:List (D×D)}{k:Int}{tx td:List D}{en:D}{g:M.S}
theorem zB2 (t:T) (ht:t.length <= 900) (hx:tx.length <= 5000):zr [.ref S.length,.str t] (Wk S st a us k tx td en g)=.ok .non (Wk S st a us k (tx++[.str t]) td en g):=by
 have z1:t.length <= SZ:=by unfold SZ;omega
 have z2:tx.length < SZ:=by unfold SZ;omega
 have h:¬ (900:Int) < (t.length:Int):=by omega
 simp[qd,yZ,z1,h,ht,wk0,wk2,z2,ws2,RS.out]
theorem zBR (t:T) (ht:900 < t.length) (hz:t.length <= 100000):zr [.ref S.length,.str t] (Wk S st a us k tx td en g)=.ok .non (Wk S st a us k tx td (zn (zv,qW)) g):=by
 have z1:t.length <= SZ:=by unfold SZ;omega
 have h:(900:Int) < (t.length:Int):=by omega
 have hf:=zDo (S:=S) (st:=st) (a:=a) (us:=us) (k:=k) (tx:=tx) (td:=td) (en:=en) (g:=g) qW
 simp[qd,yZ,z1,h,wk0,-yv,hf,RS.out]
end
noncomputable def jt:SM :=
  (sIf (jM cEq (eOp zY (zC 1) (eC (.int 0))) (eC (.str [116,101,120,116])))
  (jn (eOp zY (zC 1) (eC (.int 1))))
  ql)
noncomputable def qJ:SM :=
  (sIf (jM cEq (eOp zY (zC 1) (eC (.int 0))) (eC (.str [108,105,110,101])))
  (jn (eC (.str [10])))
  ql)
noncomputable def qp:SM :=
  (sIf (jM cEq (eOp zY (zC 1) (eC (.int 0))) (eC (.str [105,116])))
  (jn (zC 2))
  ql)
noncomputable def yV:SM :=
  (jn (jT 4 0 (zC 0)))
noncomputable def qE:SM:=(zO jt (zO qJ (zO qp yV)))
noncomputable def qg:F:=fn 3 qE
noncomputable abbrev je:F:=qg
section
variable {S:M.S}{st:D}{a:Nat}{us:List (D×D)}{k:Int}{tx td:List D}{en:D}{g:M.S}
theorem zOh (t:T) (i:D):je [.ref S.length,(Tr.txt t).d,i] (Wk S st a us k tx td en g)=.ok (.str t) (Wk S st a us k tx td en g):=by
 simp[qg,qE,jt,Tr.d,at0,at1,RS.out]
theorem zNW (i:D):je [.ref S.length,Tr.line.d,i] (Wk S st a us k tx td en g)=.ok (.str [10]) (Wk S st a us k tx td en g):=by
 simp[qg,qE,jt,qJ,Tr.d,at0,RS.out]
theorem zQz (i:D):je [.ref S.length,Tr.it.d,i] (Wk S st a us k tx td en g)=.ok i (Wk S st a us k tx td en g):=by
 simp[qg,qE,jt,qJ,qp,Tr.d,at0,RS.out]
theorem zMX (i:D):je [.ref S.length,Tr.stem.d,i] (Wk S st a us k tx td en g)=.ok st (Wk S st a us k tx td en g):=by
 simp[qg,qE,jt,qJ,qp,yV,Tr.d,at0,wk0,RS.out]
end
noncomputable def qQ:SM :=
  (sIf (jM cIn (zC 1) (jT 4 1 (zC 0)))
  (zO (zDM (jT 4 2 (zC 0)) (zC 1) (eC (.bl true)))
  (z9 (jR 4 zr (zC 0) (zD (eOp zY (jT 4 1 (zC 0)) (zC 1)) zH))))
  (J9 4 6 (zC 0) (jS (zD (eC (.str [97,115,107,115])) (zD (zC 1) zH)))))
noncomputable def jr:F:=fn 2 qQ
noncomputable abbrev zk:F:=jr
section
variable {S:M.S}{st:D}{a:Nat}{us:List (D×D)}{k:Int}{tx td:List D}{en:D}{g:M.S}{ans:List (T×T)}
theorem zNJ (ha:S[a]? = some (.dct (ans.map pd))) {x v:T} (h:zCL ans x=some v) (hv:v.length <= 900) (hx:tx.length <= 5000) (hu:us.length <= 5000):zk [.ref S.length,.str x] (Wk S st a us k tx td en g)=.ok .non (Wk S st a (zCM (.str x) (.bl true) us) k (tx++[.str v]) td en g):=by
 have hi:=zLJ (wkO (st:=st) (a:=a) (us:=us) (k:=k) (tx:=tx) (td:=td) (en:=en) (g:=g) ha) x
 rw[h] at hi
 have hg:=fun us=>zRL (wkO (st:=st) (a:=a) (us:=us) (k:=k) (tx:=tx) (td:=td) (en:=en) (g:=g) ha) h
 have z:us.length < SZ:=by unfold SZ;omega
 have hc:=zB2 (S:=S) (st:=st) (a:=a) (us:=zCM (.str x) (.bl true) us) (k:=k) (tx:=tx) (td:=td) (en:=en) (g:=g) v hv hx
 simp[jr,qQ,wk0,wk1,-inD,hi,-zY,hg,Z4,z,ws1,-qd,hc,RS.out]
theorem zNA (ha:S[a]? = some (.dct (ans.map pd))) {x:T} (h:zCL ans x=none):zk [.ref S.length,.str x] (Wk S st a us k tx td en g)=.ok .non (Wk S st a us k tx td (zn (zJv,x)) g):=by
 have hi:=zLJ (wkO (st:=st) (a:=a) (us:=us) (k:=k) (tx:=tx) (td:=td) (en:=en) (g:=g) ha) x
 rw[h] at hi
 have z2:(2:Nat) <= SZ:=by decide
 simp[jr,qQ,wk0,-inD,hi,z2,ws0,zn,RS.out]
end
noncomputable def Zw:SM :=
  (ZJ (zG5 (zC 1)) (jW 3)
  (z9 (eM .list yL (jT 4 5 (zC 0)) (zD (jS (zD (eC (.str [112,97,114,116])) (zD (zC 3) (zD (zC 2) zH)))) zH))))
noncomputable def yF:F:=fn 4 Zw
noncomputable abbrev qC:F:=yF
section
variable {S:M.S}{st:D}{a:Nat}{us:List (D×D)}{k:Int}{tx td:List D}{en:D}{g:M.S}
noncomputable def ptD (i p:D):D:=.tup [.str [112,97,114,116],p,i]
noncomputable abbrev zF3:SM:=(z9 (eM .list yL (jT 4 5 (zC 0)) (zD (jS (zD (eC (.str [112,97,114,116])) (zD (zC 3) (zD (zC 2) zH)))) zH)))
theorem zIK (w1:Option D) (i:D):∀ (ps:List D) (td:List D) (v:Option D),td.length+ps.length <= 5000->∃ v',yQ [] (yy (jW 3) zF3) ps [some (.ref S.length),w1,some i,v] (Wk S st a us k tx td en g)=.nx [some (.ref S.length),w1,some i,v'] (Wk S st a us k tx (td++ps.map (ptD i)) en g)
 | [],td,v,_=>⟨v,by simp[yQ]⟩
 | p::ps,td,v,h=>by
  rw[List.length_cons] at h
  have z:td.length < SZ:=by unfold SZ;omega
  have z3:(3:Nat) <= SZ:=by decide
  have hg:∀ s,zl [] s=true:=fun _=>rfl
  obtain⟨v',e⟩:=zIK w1 i ps (td++[ptD i p]) (some p) (by simp;omega)
  refine⟨v',?_⟩
  have e1:yy (jW 3) zF3 p [some (.ref S.length),w1,some i,v] (Wk S st a us k tx td en g)=.nx [some (.ref S.length),w1,some i,some p] (Wk S st a us k tx (td++[ptD i p]) en g):=by
   simp[wk0,wk3,z,z3,ws3,ptD]
  rw[yQ,e1]
  dsimp only
  rw[if_pos (hg _),e]
  simp
theorem zE3 (i:D) (ps:List D) (h:td.length+ps.length <= 5000):qC [.ref S.length,.tup ps,i] (Wk S st a us k tx td en g)=.ok .non (Wk S st a us k tx (td++ps.reverse.map (ptD i)) en g):=by
 have hg:∀ s,zl [] s=true:=fun _=>rfl
 obtain⟨v',e⟩:=zIK (S:=S) (st:=st) (a:=a) (us:=us) (k:=k) (tx:=tx) (en:=en) (g:=g) (some (.tup ps)) i ps.reverse td none (by rw[List.length_reverse];exact h)
 show (ZJ (zG5 (zC 1)) (jW 3) zF3 [some (.ref S.length),some (.tup ps),some i,none] (Wk S st a us k tx td en g)).out=_
 simp only[ZJ,zG5,zC,List.getElem?_cons_zero,List.getElem?_cons_succ,R.bind_ok,R.stm_ok,hg,if_true,e]
 rfl
end
noncomputable def jv:SM :=
  (zO (zh 3 (eOp zY (zC 1) (eC (.int 0))))
  (sIf (jM cEq (zC 3) (eC (.str [106,111,105,110])))
  (zO (z9 (eM .list yL (jT 4 5 (zC 0)) (zD (jS (zD (eC (.str [106,111,105,110])) (zD (eOp zAo (zS ZC (zD (zC 1) zH)) (eC (.int 1))) zH))) zH)))
  (z9 (jR 4 qC (zC 0) (zD (eSl (zC 1) (JP (eC (.int 1))) zCJ) (zD (zC 2) zH)))))
  (sIf (jM cEq (zC 3) (eC (.str [105,102])))
  (zO (z9 (eM .list yL (jT 4 5 (zC 0)) (zD (jS (zD (eC (.str [105,102])) (zD (zC 1) (zD (zC 2) zH)))) zH)))
  (z9 (jR 4 qC (zC 0) (zD (eSl (zC 1) (JP (eC (.int 1))) (JP (eC (.int 3)))) (zD (zC 2) zH)))))
  (sIf (jM cEq (zC 3) (eC (.str [101,97,99,104])))
  (zO (z9 (eM .list yL (jT 4 5 (zC 0)) (zD (jS (zD (eC (.str [101,97,99,104])) (zD (eOp zY (zC 1) (eC (.int 2))) zH))) zH)))
  (z9 (jR 4 qC (zC 0) (zD (eSl (zC 1) (JP (eC (.int 1))) (JP (eC (.int 2)))) (zD (zC 2) zH)))))
  (zO (z9 (eM .list yL (jT 4 5 (zC 0)) (zD (jS (zD (zC 3) zH)) zH)))
  (z9 (jR 4 qC (zC 0) (zD (eSl (zC 1) (JP (eC (.int 1))) zCJ) (zD (zC 2) zH)))))))))
noncomputable def qI:F:=fn 4 jv
noncomputable abbrev jg:F:=qI
section
variable {S:M.S}{st:D}{a:Nat}{us:List (D×D)}{k:Int}{tx td:List D}{en:D}{g:M.S}
theorem zJp (i:D) (ps:List D) (h:td.length+ps.length <= 3000) (hp:1 <= ps.length):jg [.ref S.length,.tup (.str Z2::ps),i] (Wk S st a us k tx td en g)=.ok .non (Wk S st a us k tx (td++[.tup [.str Z2,.int (ps.length:Int)]]++ps.reverse.map (ptD i)) en g):=by
 have z:td.length < SZ:=by unfold SZ;omega
 have z2:(2:Nat) <= SZ:=by decide
 have hput:=zE3 (S:=S) (st:=st) (a:=a) (us:=us) (k:=k) (tx:=tx) (td:=td++[.tup [.str Z2,.int (ps.length:Int)]]) (en:=en) (g:=g) i ps (by simp;omega)
 have c1:cut (D.str Z2::ps) (some 1) none=ps:=by rw[zKy _ (by decide)];rfl
 have c2:¬ (sIx (ps.length+1) 0 (some 1)=0):=by unfold sIx;simp;omega
 have e1:((ps.length:Int)+1) - 1=(ps.length:Int):=by omega
 simp[qI,jv,at0,wk0,wk3,z,z2,ws3,c1,c2,e1,-yF,hput,RS.out]
theorem zMy (i p q x y:D) (h:td.length <= 3000):jg [.ref S.length,.tup [.str tIf,p,q,x,y],i] (Wk S st a us k tx td en g)=.ok .non (Wk S st a us k tx (td++[.tup [.str tIf,.tup [.str tIf,p,q,x,y],i],ptD i q,ptD i p]) en g):=by
 have z:td.length < SZ:=by unfold SZ;omega
 have z3:(3:Nat) <= SZ:=by decide
 have hput:=zE3 (S:=S) (st:=st) (a:=a) (us:=us) (k:=k) (tx:=tx) (td:=td++[.tup [.str tIf,.tup [.str tIf,p,q,x,y],i]]) (en:=en) (g:=g) i [p,q] (by simp;omega)
 have c1:cut [D.str tIf,p,q,x,y] (some 1) (some 3)=[p,q]:=rfl
 have c2:¬ (sIx 5 0 (some 1)=0):=by decide
 simp[qI,jv,at0,wk0,wk3,z,z3,ws3,c1,c2,-yF,hput,RS.out]
theorem zKA (i p q:D) (h:td.length <= 3000):jg [.ref S.length,.tup [.str Jc,p,q],i] (Wk S st a us k tx td en g)=.ok .non (Wk S st a us k tx (td++[.tup [.str Jc,q],ptD i p]) en g):=by
 have z:td.length < SZ:=by unfold SZ;omega
 have z2:(2:Nat) <= SZ:=by decide
 have hput:=zE3 (S:=S) (st:=st) (a:=a) (us:=us) (k:=k) (tx:=tx) (td:=td++[.tup [.str Jc,q]]) (en:=en) (g:=g) i [p] (by simp;omega)
 have c1:cut [D.str Jc,p,q] (some 1) (some 2)=[p]:=rfl
 have c2:¬ (sIx 3 0 (some 1)=0):=by decide
 have a2:atI [D.str Jc,p,q] 2=some q:=rfl
 simp[qI,jv,at0,a2,wk0,wk3,z,z2,ws3,c1,c2,-yF,hput,RS.out]
theorem zLZ {w:T} (hw:W7 w) (i p:D) (h:td.length <= 3000):jg [.ref S.length,.tup [.str w,p],i] (Wk S st a us k tx td en g)=.ok .non (Wk S st a us k tx (td++[.tup [.str w],ptD i p]) en g):=by
 have z:td.length < SZ:=by unfold SZ;omega
 have z1:(1:Nat) <= SZ:=by decide
 have n1:¬ w=[106,111,105,110]:=by rcases hw with rfl | rfl | rfl | rfl | rfl | rfl | rfl<;>decide
 have n2:¬ w=[105,102]:=by rcases hw with rfl | rfl | rfl | rfl | rfl | rfl | rfl<;>decide
 have n3:¬ w=[101,97,99,104]:=by rcases hw with rfl | rfl | rfl | rfl | rfl | rfl | rfl<;>decide
 have hput:=zE3 (S:=S) (st:=st) (a:=a) (us:=us) (k:=k) (tx:=tx) (td:=td++[.tup [.str w]]) (en:=en) (g:=g) i [p] (by simp;omega)
 have c1:cut [D.str w,p] (some 1) none=[p]:=rfl
 have c2:sIx 2 0 (some 1)=1:=rfl
 simp[qI,jv,at0,n1,n2,n3,wk0,wk3,z,z1,ws3,c1,c2,-yF,hput,RS.out]
end
noncomputable def jX:SM :=
  (zO (ZL zBS 4 3 (zC 0) (eC (.int 1)))
  (sIf (jM cGt (jT 4 3 (zC 0)) (eC (.int 500)))
  (z9 (jR 4 yM (zC 0) (zD (eC (.str [116,111,111,32,109,117,99,104])) zH)))
  (sIf (jM cIn (eOp zY (zC 1) (eC (.int 0))) (jS (zD (eC (.str [116,101,120,116])) (zD (eC (.str [108,105,110,101])) (zD (eC (.str [105,116])) (zD (eC (.str [115,116,101,109])) zH))))))
  (z9 (jR 4 zr (zC 0) (zD (jR 4 je (zC 0) (zD (zC 1) (zD (zC 2) zH))) zH)))
  (sIf (jM cEq (eOp zY (zC 1) (eC (.int 0))) (eC (.str [116,104,105,110,103])))
  (z9 (jR 4 zk (zC 0) (zD (eOp zY (zC 1) (eC (.int 1))) zH)))
  (sIf (jM cEq (eOp zY (zC 1) (eC (.int 0))) (eC (.str [107,105,110])))
  (z9 (jR 4 zk (zC 0) (zD (eOp jO (eOp jO (eOp zY (zC 1) (eC (.int 1))) (eC (.str [46]))) (jT 4 0 (zC 0))) zH)))
  (z9 (jR 4 jg (zC 0) (zD (zC 1) (zD (zC 2) zH)))))))))
noncomputable def zFW:F:=fn 3 jX
noncomputable abbrev jx:F:=zFW
section
variable {S:M.S}{st:D}{a:Nat}{us:List (D×D)}{k:Int}{tx td:List D}{en:D}{g:M.S}{ans:List (T×T)}
theorem Ql (b i:D) (r:SM):(ZL zBS 4 3 (zC 0) (eC (.int 1)) [some (.ref S.length),some b,some i] (Wk S st a us k tx td .non g)).then r=r [some (.ref S.length),some b,some i] (Wk S st a us (k+1) tx td .non g):=by
 simp[wk0,ws0]
theorem zKJ (b i:D) (hk:500 <= k):jx [.ref S.length,b,i] (Wk S st a us k tx td .non g)=.ok .non (Wk S st a us (k+1) tx td (zn (zv,Z3)) g):=by
 have h5:500 < k+1:=by omega
 have hf:=zDo (S:=S) (st:=st) (a:=a) (us:=us) (k:=k+1) (tx:=tx) (td:=td) (en:=.non) (g:=g) Z3
 show (jX [some (.ref S.length),some b,some i] (Wk S st a us k tx td .non g)).out=_
 unfold jX
 show (((ZL zBS 4 3 (zC 0) (eC (.int 1)) [some (.ref S.length),some b,some i] (Wk S st a us k tx td .non g)).then _).out)=_
 rw[Ql]
 simp[wk0,h5,-yv,hf,RS.out]
theorem zKB {b i:D}{w t:T}{r:List D} (hb:b=.tup (.str w::r)) (hw:w=[116,101,120,116]\/w=[108,105,110,101]\/w=[105,116]\/w=[115,116,101,109]) (h1:∀ k,je [.ref S.length,b,i] (Wk S st a us k tx td .non g)=.ok (.str t) (Wk S st a us k tx td .non g)) (ht:t.length <= 100000) (hx:tx.length <= 5000) (hk:k <= 499):jx [.ref S.length,b,i] (Wk S st a us k tx td .non g)=.ok .non (if 900 < t.length then Wk S st a us (k+1) tx td (zn (zv,qW)) g else Wk S st a us (k+1) (tx++[.str t]) td .non g):=by
 have z4:(4:Nat) <= SZ:=by decide
 have h5:¬ 500 < k+1:=by omega
 have hm:Jd (.str w) [D.str [116,101,120,116],D.str [108,105,110,101],D.str [105,116],D.str [115,116,101,109]]=true:=by rcases hw with rfl | rfl | rfl | rfl<;>decide
 have h1':=h1 (k+1)
 have h2:zr [.ref S.length,.str t] (Wk S st a us (k+1) tx td .non g)=.ok .non (if 900 < t.length then Wk S st a us (k+1) tx td (zn (zv,qW)) g else Wk S st a us (k+1) (tx++[.str t]) td .non g):=by
  by_cases h9:900 < t.length
  ·rw[if_pos h9,zBR t h9 ht]
  ·rw[if_neg h9,zB2 t (by omega) hx]
 show (jX [some (.ref S.length),some b,some i] (Wk S st a us k tx td .non g)).out=_
 unfold jX
 show (((ZL zBS 4 3 (zC 0) (eC (.int 1)) [some (.ref S.length),some b,some i] (Wk S st a us k tx td .non g)).then _).out)=_
 rw[Ql]
 generalize (if 900 < t.length then Wk S st a us (k+1) tx td (zn (zv,qW)) g else Wk S st a us (k+1) (tx++[.str t]) td .non g)=W2 at *
 have o0:∀ s,zY b (.int 0) s=.ok (.str w) s:=fun s=>by rw[hb];simp[at0]
 simp[wk0,h5,-zY,o0,flat,hm,z4,-qg,-qd,h1',h2,RS.out]
theorem zId {i:D}{n:T}{s':M.S} (h1:zk [.ref S.length,.str n] (Wk S st a us (k+1) tx td .non g)=.ok .non s') (hk:k <= 499):jx [.ref S.length,(Tr.thing n).d,i] (Wk S st a us k tx td .non g)=.ok .non s':=by
 have z4:(4:Nat) <= SZ:=by decide
 have h5:¬ 500 < k+1:=by omega
 show (jX [some (.ref S.length),some (Tr.thing n).d,some i] (Wk S st a us k tx td .non g)).out=_
 unfold jX
 show (((ZL zBS 4 3 (zC 0) (eC (.int 1)) [some (.ref S.length),some (Tr.thing n).d,some i] (Wk S st a us k tx td .non g)).then _).out)=_
 rw[Ql]
 simp only[Tr.d]
 simp[wk0,h5,at0,at1,flat,Jd,eqF,z4,-jr,h1,RS.out]
theorem zLP {i:D}{n x:T}{s':M.S} (hs:st=.str x) (hx:x.length <= 1000) (hn:n.length <= 1000) (h1:zk [.ref S.length,.str (n++[46]++x)] (Wk S st a us (k+1) tx td .non g)=.ok .non s') (hk:k <= 499):jx [.ref S.length,(Tr.kin n).d,i] (Wk S st a us k tx td .non g)=.ok .non s':=by
 have z4:(4:Nat) <= SZ:=by decide
 have h5:¬ 500 < k+1:=by omega
 have z5:n.length+1 <= SZ:=by unfold SZ;omega
 have z6:n.length+1+x.length <= SZ:=by unfold SZ;omega
 subst hs
 simp only[List.append_assoc,List.cons_append,List.nil_append] at h1
 show (jX [some (.ref S.length),some (Tr.kin n).d,some i] (Wk S (.str x) a us k tx td .non g)).out=_
 unfold jX
 show (((ZL zBS 4 3 (zC 0) (eC (.int 1)) [some (.ref S.length),some (Tr.kin n).d,some i] (Wk S (.str x) a us k tx td .non g)).then _).out)=_
 rw[Ql]
 simp only[Tr.d]
 simp[wk0,h5,at0,at1,flat,Jd,eqF,z4,z5,z6,-jr,h1,RS.out]
theorem zBO {b i:D}{w:T}{r:List D}{s':M.S} (hb:b=.tup (.str w::r)) (hw:W7 w\/w=Z2\/w=tIf\/w=Jc) (hi:jg [.ref S.length,b,i] (Wk S st a us (k+1) tx td .non g)=.ok .non s') (hk:k <= 499):jx [.ref S.length,b,i] (Wk S st a us k tx td .non g)=.ok .non s':=by
 have z4:(4:Nat) <= SZ:=by decide
 have h5:¬ 500 < k+1:=by omega
 have hm:Jd (.str w) [D.str [116,101,120,116],D.str [108,105,110,101],D.str [105,116],D.str [115,116,101,109]]=false:=by rcases hw with (rfl | rfl | rfl | rfl | rfl | rfl | rfl) | rfl | rfl | rfl<;>decide
 have n1:¬ w=[116,104,105,110,103]:=by rcases hw with (rfl | rfl | rfl | rfl | rfl | rfl | rfl) | rfl | rfl | rfl<;>decide
 have n2:¬ w=[107,105,110]:=by rcases hw with (rfl | rfl | rfl | rfl | rfl | rfl | rfl) | rfl | rfl | rfl<;>decide
 have o0:∀ s,zY b (.int 0) s=.ok (.str w) s:=fun s=>by rw[hb];simp[at0]
 show (jX [some (.ref S.length),some b,some i] (Wk S st a us k tx td .non g)).out=_
 unfold jX
 show (((ZL zBS 4 3 (zC 0) (eC (.int 1)) [some (.ref S.length),some b,some i] (Wk S st a us k tx td .non g)).then _).out)=_
 rw[Ql]
 simp[wk0,h5,-zY,o0,flat,hm,n1,n2,z4,-qI,hi,RS.out]
end
noncomputable def yT:SM :=
  (zO (zh 2 (zCK 1 (yG (zC 1)) (jW 3) Qy (eM .list y4 (jT 4 4 (zC 0)) zH)))
  (z9 (jR 4 zr (zC 0) (zD (eUn (zB8 []) (zC 2)) zH))))
noncomputable def zDa:F:=fn 3 yT
noncomputable abbrev jy:F:=zDa
section
variable {S:M.S}{st:D}{a:Nat}{us:List (D×D)}{k:Int}{tx td:List D}{g:M.S}
theorem zPg (w1 w2:Option D):∀ (ys ds:List D),ds.length=ys.length->yh [] (yd 1 (jW 3) Qy (eM .list y4 (jT 4 4 (zC 0)) zH) [some (.ref S.length),w1,w2]) ds (Wk S st a us k (tx++ys.reverse) td .non g)=.ok ys (Wk S st a us k tx td .non g)
 | [],[],_=>by simp[yh]
 | [],_::_,h=>by cases h
 | _::_,[],h=>by cases h
 | y::ys,d::ds,h=>by
  have ih:=zPg w1 w2 ys ds (by simpa using h)
  have hg:∀ s,zl [] s=true:=fun _=>rfl
  have e1:yd 1 (jW 3) Qy (eM .list y4 (jT 4 4 (zC 0)) zH) [some (.ref S.length),w1,w2] d (Wk S st a us k (tx++ys.reverse++[y]) td .non g)=.ok (some y) (Wk S st a us k (tx++ys.reverse) td .non g):=by
   simp[wk0,wk2,ws2]
  rw[List.reverse_cons,<- List.append_assoc,yh,e1,R.bind_ok,if_pos (hg _),ih]
  rfl
theorem zMI (xs:List T) (hl:(xs.map List.length).sum <= 100000) (s:M.S) {p:Nat} (hp:s[p]? = some (.lst (xs.map D.str).reverse)):zB8 [] (.ref p) s=.ok (.str xs.flatten) s:=by
 have e:jB s p=some (xs.map D.str).reverse:=by simp[jB,hp]
 have z:(xs.map List.length).sum+xs.length * 0 <= SZ:=by unfold SZ;omega
 simp only[zB8,e,List.reverse_reverse]
 unfold Zd
 rw[zDE]
 dsimp only
 rw[List.length_nil,if_pos z,zGl]
theorem zJL (xs:List T) (hn:xs.length <= 3000) (hl:(xs.map List.length).sum <= 100000) (r:R D):(zr [.ref S.length,.str xs.flatten] (Wk S st a us k tx td .non (g++[.lst (xs.map D.str).reverse]))=r)->(∀ d s,r=.ok d s->d=.non)->(∃ d s,r=.ok d s)->jy [.ref S.length,.int (xs.length:Int)] (Wk S st a us k (tx++xs.map .str) td .non g)=r:=by
 intro h hd ⟨d,s,hr⟩
 have hd':=hd d s hr
 subst hr
 subst hd'
 have q1:(xs.length:Int).natAbs < 4611686018427387904:=by omega
 have hp:=zPg (S:=S) (st:=st) (a:=a) (us:=us) (k:=k) (tx:=tx) (td:=td) (g:=g) (some (.int (xs.length:Int))) none (xs.map D.str).reverse (qH 0 (xs.length:Int)) (by simp[qH])
 rw[List.reverse_reverse] at hp
 have z:(qH 0 (xs.length:Int)).length <= SZ:=by simp only[qH,List.length_map,List.length_range];unfold SZ;omega
 have hc:ZG 1 (yG (zC 1)) (jW 3) Qy (eM .list y4 (jT 4 4 (zC 0)) zH) [some (.ref S.length),some (.int (xs.length:Int)),none] (Wk S st a us k (tx++xs.map .str) td .non g)=.ok (xs.map D.str).reverse (Wk S st a us k tx td .non g):=by
  unfold ZG
  simp only[yG,zC,List.getElem?_cons_zero,List.getElem?_cons_succ,R.bind_ok,q1,if_true]
  rw[if_pos ⟨z,rfl⟩]
  exact hp
 have hj:=zMI xs hl (Wk S st a us k tx td .non (g++[.lst (xs.map D.str).reverse])) (p:=(Wk S st a us k tx td .non g).length) (by rw[<- zG4,List.getElem?_concat_length])
 show (yT [some (.ref S.length),some (.int (xs.length:Int)),none] (Wk S st a us k (tx++xs.map .str) td .non g)).out=_
 unfold yT
 simp only[zO,zh,zCK,hc,R.bind_ok,alloc,R.stm_ok,List.set_cons_zero,List.set_cons_succ,RS.then_nx,zG4,z9,jR,zC,List.getElem?_cons_zero,List.getElem?_cons_succ,wk0,if_true,zD,zH,eUn,hj,h]
 rfl
theorem zMY (xs:List T) (hn:xs.length <= 3000) (hx:tx.length <= 5000) (hl:xs.flatten.length <= 900):jy [.ref S.length,.int (xs.length:Int)] (Wk S st a us k (tx++xs.map .str) td .non g)=.ok .non (Wk S st a us k (tx++[.str xs.flatten]) td .non (g++[.lst (xs.map D.str).reverse])):=by
 have hs:(xs.map List.length).sum <= 100000:=by rw[<- List.length_flatten];omega
 have h2:=zB2 (S:=S) (st:=st) (a:=a) (us:=us) (k:=k) (tx:=tx) (td:=td) (en:=.non) (g:=g++[.lst (xs.map D.str).reverse]) xs.flatten hl hx
 exact zJL xs hn hs _ h2 (fun d s e=>by cases e;rfl) ⟨_,_,rfl⟩
theorem zLB (xs:List T) (hn:xs.length <= 3000) (h9:900 < xs.flatten.length) (hl:xs.flatten.length <= 100000):jy [.ref S.length,.int (xs.length:Int)] (Wk S st a us k (tx++xs.map .str) td .non g)=.ok .non (Wk S st a us k tx td (zn (zv,qW)) (g++[.lst (xs.map D.str).reverse])):=by
 have hs:(xs.map List.length).sum <= 100000:=by rw[<- List.length_flatten];omega
 have h2:=zBR (S:=S) (st:=st) (a:=a) (us:=us) (k:=k) (tx:=tx) (td:=td) (en:=.non) (g:=g++[.lst (xs.map D.str).reverse]) xs.flatten h9 hl
 exact zJL xs hn hs _ h2 (fun d s e=>by cases e;rfl) ⟨_,_,rfl⟩
end
noncomputable def yz:SM :=
  (zO (zh 3 (eM .list y4 (jT 4 4 (zC 0)) zH))
  (zO (zh 4 (eM .list y4 (jT 4 4 (zC 0)) zH))
  (z9 (eM .list yL (jT 4 5 (zC 0)) (zD (jS (zD (eC (.str [112,97,114,116])) (zD (eIf (jM cEq (zC 4) (zC 3)) (eOp zY (zC 1) (eC (.int 3))) (eOp zY (zC 1) (eC (.int 4)))) (zD (zC 2) zH)))) zH)))))
noncomputable def zEK:F:=fn 5 yz
noncomputable abbrev yH:F:=zEK
section
variable {S:M.S}{st:D}{a:Nat}{us:List (D×D)}{k:Int}{tx td:List D}{en:D}{g:M.S}{ans:List (T×T)}
theorem at3 (x y z w:D) (r:List D):atI (x::y::z::w::r) 3=some w:=by
 unfold atI ixN
 rw[if_pos (by decide),if_pos (by simp only[List.length_cons];omega)]
 rfl
theorem at4 (x y z w v:D) (r:List D):atI (x::y::z::w::v::r) 4=some v:=by
 unfold atI ixN
 rw[if_pos (by decide),if_pos (by simp only[List.length_cons];omega)]
 rfl
theorem zL8 (i p q x y:D) (t u:T) (h:td.length <= 5000):yH [.ref S.length,.tup [.str tIf,p,q,x,y],i] (Wk S st a us k (tx++[.str t]++[.str u]) td .non g)=.ok .non (Wk S st a us k tx (td++[ptD i (if t=u then x else y)]) .non g):=by
 have z:td.length < SZ:=by unfold SZ;omega
 have z3:(3:Nat) <= SZ:=by decide
 have p1:∀ (v:Option D) (r:SM),(zh 3 (eM .list y4 (jT 4 4 (zC 0)) zH) [some (.ref S.length),some (.tup [.str tIf,p,q,x,y]),some i,none,none] (Wk S st a us k (tx++[.str t]++[.str u]) td .non g)).then r=r [some (.ref S.length),some (.tup [.str tIf,p,q,x,y]),some i,some (.str u),none] (Wk S st a us k (tx++[.str t]) td .non g):=fun v r=>by
  simp[wk0,wk2,ws2,-List.append_assoc]
 have p2:∀ (r:SM),(zh 4 (eM .list y4 (jT 4 4 (zC 0)) zH) [some (.ref S.length),some (.tup [.str tIf,p,q,x,y]),some i,some (.str u),none] (Wk S st a us k (tx++[.str t]) td .non g)).then r=r [some (.ref S.length),some (.tup [.str tIf,p,q,x,y]),some i,some (.str u),some (.str t)] (Wk S st a us k tx td .non g):=fun r=>by
  simp[wk0,wk2,ws2]
 show (yz [some (.ref S.length),some (.tup [.str tIf,p,q,x,y]),some i,none,none] (Wk S st a us k (tx++[.str t]++[.str u]) td .non g)).out=_
 unfold yz
 show (((zh 3 _ _ _).then (zO _ _)).out)=_
 rw[p1 none]
 show (((zh 4 _ _ _).then _).out)=_
 rw[p2]
 by_cases e:t=u
 ·simp[wk0,wk3,ws3,z,z3,e,at3,ptD,RS.out]
 ·simp[wk0,wk3,ws3,z,z3,e,at4,ptD,RS.out]
end
noncomputable def zAm:SM :=
  (jn (zCK 1 (iE (eM .str zDc (eM .str zCE (zC 0) (zD (eC (.str [10])) (zD (eC (.str [32])) zH))) (zD (eC (.str [32])) zH))) (jW 1) (jM cNe (zC 1) (eC (.str []))) (zC 1)))
noncomputable def zE8:F:=fn 1 zAm
noncomputable def jq:F
 | [.str x],s=>if x.length <= 100000 then alloc (.lst ((zW x).map .str)) s else .no
 | _,_=>.no
theorem zIr:jc 1 zE8 jq:=jc.new fun ds S hl c ca=>by
 match ds,hl with
 | [.str x],_ =>
  by_cases hz:x.length <= 100000
  ·have h1:2 * x.length+1 <= SZ:=by unfold SZ;omega
   have h2:x.length+2 <= SZ:=by unfold SZ;omega
   have hs:=zBh 32 (yN x)
   have hll:(yN x).length=x.length:=by simp[yN]
   have e:ZG 1 (iE (eM .str zDc (eM .str zCE (zC 0) (zD (eC (.str [10])) (zD (eC (.str [32])) zH))) (zD (eC (.str [32])) zH))) (jW 1) (jM cNe (zC 1) (eC (.str []))) (zC 1) [some (.str x)] S=.ok ((zW x).map .str) (S++[.lst ((zf 32 (yN x)).map .str)]) :=
    zJ5 (ts:=zf 32 (yN x)) (g:=[(S.length,.lst ((zf 32 (yN x)).map .str))]) (fun w=>decide (w≠[])) (by simp[h1,h2];rfl) (by unfold SZ;omega) (by simp[zl]) fun w _=>by by_cases h:w=[]<;>simp[h]
   refine .inr ⟨.lst ((zW x).map .str),S.length+1,[.lst ((zf 32 (yN x)).map .str),.lst ((zW x).map .str)],by simp[jq,hz],by simp[zE8,zAm,e],by simp,by omega,zIy _ _⟩
  ·exact .inl (by simp[jq,hz])
 | [.non],_=>exact .inl rfl
 | [.bl _],_=>exact .inl rfl
 | [.int _],_=>exact .inl rfl
 | [.ty _],_=>exact .inl rfl
 | [.ref _],_=>exact .inl rfl
 | [.tup _],_=>exact .inl rfl
 | [.ro _],_=>exact .inl rfl
noncomputable def qq:SM :=
  (sIf (jM cLt (zC 3) (zS ZC (zD (zC 2) zH)))
  (zO (z9 (eM .list yL (jT 4 5 (zC 0)) (zD (jS (zD (eC (.str [114,111,117,110,100])) (zD (zC 1) (zD (zC 2) (zD (eOp jO (zC 3) (eC (.int 1))) zH))))) zH)))
  (z9 (eM .list yL (jT 4 5 (zC 0)) (zD (jS (zD (eC (.str [112,97,114,116])) (zD (zC 1) (zD (eOp zY (zC 2) (zC 3)) zH)))) zH))))
  ql)
noncomputable def qt:F:=fn 4 qq
noncomputable abbrev jG:F:=qt
section
variable {S:M.S}{st:D}{a:Nat}{us:List (D×D)}{k:Int}{tx td:List D}{en:D}{g:M.S}{ans:List (T×T)}
noncomputable def rdD (b:D) (l:Nat) (j:Int):D:=.tup [.str zPr,b,.ref l,.int j]
theorem zPx (b:D) {l:Nat}{ws:List T} (hl:(Wk S st a us k tx td en g)[l]? = some (.lst (ws.map .str))) {j:Nat} (hj:ws.length <= j):jG [.ref S.length,b,.ref l,.int (j:Int)] (Wk S st a us k tx td en g)=.ok .non (Wk S st a us k tx td en g):=by
 have h:¬ ((j:Int) < (ws.length:Int)):=by omega
 simp[qt,qq,hl,h,RS.out]
theorem zOV (b:D) {l:Nat}{ws:List T} (hl:∀ td,(Wk S st a us k tx td en g)[l]? = some (.lst (ws.map .str))) {j:Nat} (hj:j < ws.length) (ht:td.length <= 5000):jG [.ref S.length,b,.ref l,.int (j:Int)] (Wk S st a us k tx td en g)=.ok .non (Wk S st a us k tx (td++[rdD b l ((j:Int)+1),ptD (.str (ws.getD j [])) b]) en g):=by
 have h:(j:Int) < (ws.length:Int):=by omega
 have z:td.length < SZ:=by unfold SZ;omega
 have z1:td.length+1 < SZ:=by unfold SZ;omega
 have z3:(3:Nat) <= SZ:=by decide
 have z4:(4:Nat) <= SZ:=by decide
 have x:atI (ws.map D.str) (j:Int)=some (.str (ws.getD j [])):=by
  rw[zJE (d:=.str []) (by omega) (by simpa using h),Int.toNat_natCast,List.getD_eq_getElem?_getD,List.getD_eq_getElem?_getD,List.getElem?_map]
  cases ws[j]?<;>rfl
 generalize ws.getD j []=w at *
 simp[qt,qq,hl,h,wk0,wk3,ws3,z,z1,z3,z4,x,rdD,ptD,RS.out]
noncomputable def Zb (b:D) (l:Nat) (ws:List T) (j:Nat):List D:=if j < ws.length then [rdD b l ((j:Int)+1),ptD (.str (ws.getD j [])) b] else []
theorem wkG (n:Nat):(Wk S st a us k tx td en g)[S.length+4+n]? = g[n]? := by
 unfold Wk
 rw[List.getElem?_append_right (by omega),show S.length+4+n - S.length=n+1+1+1+1 by omega]
 simp
theorem zJ7 (b:D) {n:Nat}{ws:List T} (hg:g[n]? = some (.lst (ws.map .str))) (j:Nat) (ht:td.length <= 5000):jG [.ref S.length,b,.ref (S.length+4+n),.int (j:Int)] (Wk S st a us k tx td en g)=.ok .non (Wk S st a us k tx (td++Zb b (S.length+4+n) ws j) en g):=by
 have hl:∀ td,(Wk S st a us k tx td en g)[S.length+4+n]? = some (.lst (ws.map .str)):=fun td=>by rw[wkG];exact hg
 unfold Zb
 by_cases hj:j < ws.length
 ·rw[if_pos hj]
  exact zOV b hl hj ht
 ·rw[if_neg hj,List.append_nil]
  exact zPx b (hl td) (by omega)
end
noncomputable def Zf:SM :=
  (zO (zh 2 (zS jq (zD (eM .list y4 (jT 4 4 (zC 0)) zH) zH)))
  (zO (z9 (eM .list yL (jT 4 4 (zC 0)) (zD (eC (.str [])) zH)))
  (z9 (jR 4 jG (zC 0) (zD (zC 1) (zD (zC 2) (zD (eC (.int 0)) zH)))))))
noncomputable def zCS:F:=fn 3 Zf
noncomputable abbrev qY:F:=zCS
section
variable {S:M.S}{st:D}{a:Nat}{us:List (D×D)}{k:Int}{tx td:List D}{en:D}{g:M.S}{ans:List (T×T)}
theorem zOE (b:D) (t:T) (ht:t.length <= 2000) (hx:tx.length <= 5000) (hd:td.length <= 5000):qY [.ref S.length,b] (Wk S st a us k (tx++[.str t]) td .non g)=.ok .non (Wk S st a us k (tx++[.str []]) (td++Zb b (S.length+4+g.length) (zW t) 0) .non (g++[.lst ((zW t).map .str)])):=by
 have z:tx.length < SZ:=by unfold SZ;omega
 have hq:∀ s,jq [.str t] s=.ok (.ref s.length) (s++[.lst ((zW t).map .str)]):=fun s=>by
  simp only[jq]
  rw[if_pos (by omega)]
  rfl
 have hl:(Wk S st a us k tx td .non g).length=S.length+4+g.length:=by simp[Wk];omega
 have ho:=zJ7 (S:=S) (st:=st) (a:=a) (us:=us) (k:=k) (tx:=tx++[.str []]) (td:=td) (en:=.non) (g:=g++[.lst ((zW t).map .str)]) b (n:=g.length) (ws:=zW t) (by simp) 0 hd
 generalize zW t=ws at *
 have e1:(zh 2 (zS jq (zD (eM .list y4 (jT 4 4 (zC 0)) zH) zH))) [some (.ref S.length),some b,none] (Wk S st a us k (tx++[.str t]) td .non g)=.nx [some (.ref S.length),some b,some (.ref (S.length+4+g.length))] (Wk S st a us k tx td .non (g++[.lst (ws.map .str)])):=by
  simp[wk0,wk2,ws2,hq,hl,zG4]
 have e2:(z9 (eM .list yL (jT 4 4 (zC 0)) (zD (eC (.str [])) zH))) [some (.ref S.length),some b,some (.ref (S.length+4+g.length))] (Wk S st a us k tx td .non (g++[.lst (ws.map .str)]))=.nx [some (.ref S.length),some b,some (.ref (S.length+4+g.length))] (Wk S st a us k (tx++[.str []]) td .non (g++[.lst (ws.map .str)])):=by
  simp[wk0,wk2,ws2,z]
 show (zO (zh 2 (zS jq (zD (eM .list y4 (jT 4 4 (zC 0)) zH) zH))) (zO (z9 (eM .list yL (jT 4 4 (zC 0)) (zD (eC (.str [])) zH))) (z9 (jR 4 jG (zC 0) (zD (zC 1) (zD (zC 2) (zD (eC (.int 0)) zH)))))) [some (.ref S.length),some b,none] (Wk S st a us k (tx++[.str t]) td .non g)).out=_
 rw[zO,e1,RS.then_nx,zO,e2,RS.then_nx]
 have ho':jG [.ref S.length,b,.ref (S.length+4+g.length),.int 0] (Wk S st a us k (tx++[.str []]) td .non (g++[.lst (ws.map .str)]))=.ok .non (Wk S st a us k (tx++[.str []]) (td++Zb b (S.length+4+g.length) ws 0) .non (g++[.lst (ws.map .str)])):=ho
 simp[wk0,-qt,ho',RS.out]
end
noncomputable def QL:SM :=
  (zO (zh 4 (eM .list y4 (jT 4 4 (zC 0)) zH))
  (zO (z9 (jR 4 zr (zC 0) (zD (eOp jO (eM .list y4 (jT 4 4 (zC 0)) zH) (zC 4)) zH)))
  (z9 (jR 4 jG (zC 0) (zD (zC 1) (zD (zC 2) (zD (zC 3) zH)))))))
noncomputable def zDZ:F:=fn 5 QL
noncomputable abbrev qo:F:=zDZ
section
variable {S:M.S}{st:D}{a:Nat}{us:List (D×D)}{k:Int}{tx td:List D}{en:D}{g:M.S}{ans:List (T×T)}
theorem zMT (b:D) {n:Nat}{ws:List T} (hg:g[n]? = some (.lst (ws.map .str))) (j:Nat) (t x:T) (ht:t.length <= 900) (hxl:x.length <= 900) (hx:tx.length <= 5000) (hd:td.length <= 5000):qo [.ref S.length,b,.ref (S.length+4+n),.int (j:Int)] (Wk S st a us k (tx++[.str t]++[.str x]) td .non g)=.ok .non (if 900 < (t++x).length then Wk S st a us k tx (td++Zb b (S.length+4+n) ws j) (zn (zv,qW)) g else Wk S st a us k (tx++[.str (t++x)]) (td++Zb b (S.length+4+n) ws j) .non g):=by
 have z:t.length+x.length <= SZ:=by unfold SZ;omega
 have p1:(zh 4 (eM .list y4 (jT 4 4 (zC 0)) zH)) [some (.ref S.length),some b,some (.ref (S.length+4+n)),some (.int (j:Int)),none] (Wk S st a us k (tx++[.str t]++[.str x]) td .non g)=.nx [some (.ref S.length),some b,some (.ref (S.length+4+n)),some (.int (j:Int)),some (.str x)] (Wk S st a us k (tx++[.str t]) td .non g):=by
  simp[wk0,wk2,ws2,-List.append_assoc]
 obtain⟨W,hW,hc,ho⟩:∃ W:M.S,(∃ tx' en',W=Wk S st a us k tx' td en' g)/\zr [.ref S.length,.str (t++x)] (Wk S st a us k tx td .non g)=.ok .non W/\jG [.ref S.length,b,.ref (S.length+4+n),.int (j:Int)] W=.ok .non (if 900 < (t++x).length then Wk S st a us k tx (td++Zb b (S.length+4+n) ws j) (zn (zv,qW)) g else Wk S st a us k (tx++[.str (t++x)]) (td++Zb b (S.length+4+n) ws j) .non g):=by
  by_cases h9:900 < (t++x).length
  ·rw[if_pos h9]
   exact⟨_,⟨_,_,rfl⟩,zBR _ h9 (by rw[List.length_append];omega),zJ7 b hg j hd⟩
  ·rw[if_neg h9]
   exact⟨_,⟨_,_,rfl⟩,zB2 _ (by omega) hx,zJ7 b hg j hd⟩
 generalize (if 900 < (t++x).length then Wk S st a us k tx (td++Zb b (S.length+4+n) ws j) (zn (zv,qW)) g else Wk S st a us k (tx++[.str (t++x)]) (td++Zb b (S.length+4+n) ws j) .non g)=W2 at *
 obtain⟨tx',en',rfl⟩:=hW
 have e2:(z9 (jR 4 zr (zC 0) (zD (eOp jO (eM .list y4 (jT 4 4 (zC 0)) zH) (zC 4)) zH))) [some (.ref S.length),some b,some (.ref (S.length+4+n)),some (.int (j:Int)),some (.str x)] (Wk S st a us k (tx++[.str t]) td .non g)=.nx [some (.ref S.length),some b,some (.ref (S.length+4+n)),some (.int (j:Int)),some (.str x)] (Wk S st a us k tx' td en' g):=by
  simp[wk0,wk2,ws2,z,-qd,hc]
 show (zO (zh 4 (eM .list y4 (jT 4 4 (zC 0)) zH)) (zO (z9 (jR 4 zr (zC 0) (zD (eOp jO (eM .list y4 (jT 4 4 (zC 0)) zH) (zC 4)) zH))) (z9 (jR 4 jG (zC 0) (zD (zC 1) (zD (zC 2) (zD (zC 3) zH)))))) [some (.ref S.length),some b,some (.ref (S.length+4+n)),some (.int (j:Int)),none] (Wk S st a us k (tx++[.str t]++[.str x]) td .non g)).out=_
 rw[zO,p1,RS.then_nx,zO,e2,RS.then_nx]
 simp[wk0,-qt,ho,RS.out]
end
noncomputable def zAF:SM :=
  (jn (zHk cLe cLe (eC (.str [97])) (zC 0) (eC (.str [122]))))
noncomputable def zD4:F:=fn 1 zAF
noncomputable def Zs:F
 | [.str x],s=>.ok (.bl (zBv x)) s
 | _,_=>.no
theorem zIA:jc 1 zD4 Zs:=jc.pure fun ds S hl c ca=>by
 match ds,hl with
 | [a],_ =>
  cases a with
  | str x=>exact .inr ⟨_,[],rfl,by by_cases h:x < [97]<;>simp[zD4,zAF,zBv,h],rfl⟩
  | _=>exact .inl rfl
noncomputable def qF:SM :=
  (zO (sIf (tOr (zEA (zHp (zS zDP (zD (zC 0) (zD (eC (.ty .str)) zH))))) (zEA (zB5 cLe cLe (eC (.int 1)) (zS ZC (zD (zC 0) zH)) (eC (.int 8)))))
  (jn (eC (.bl false)))
  ql)
  (jn (zDF (zEh zEG 1 (iE (zC 0)) (jW 1) Qy (zS Zs (zD (zC 1) zH))) (Zv zK5 (zC 0) (eC (.tup [(.str [111,102]),(.str [105,102]),(.str [105,115]),(.str [116,104,101,110]),(.str [101,108,115,101]),(.str [101,97,99,104]),(.str [100,111]),(.str [105,116]),(.str [98,97,99,107]),(.str [102,105,114,115,116]),(.str [114,101,115,116]),(.str [99,111,117,110,116]),(.str [115,111,114,116,101,100]),(.str [102,97,105,108]),(.str [108,105,110,101]),(.str [109,111,114,101])]))))))
noncomputable def qk:F:=fn 1 qF
noncomputable def qG:F
 | [.str x],s=>if x.length <= SZ then .ok (.bl (zAZ x)) s else .no
 | [d],s=>if Qs s d then .ok (.bl false) s else .no
 | _,_=>.no
theorem zIk:jc 1 qk qG:=jc.pure fun ds S hl c ca=>by
 match ds,hl with
 | [a],_ =>
  cases a with
  | str x =>
   by_cases hz:x.length <= SZ
   ·refine .inr ⟨_,[],by simp[qG,hz];rfl,?_,rfl⟩
    have e:ZG 1 (iE (zC 0)) (jW 1) Qy (zS Zs (zD (zC 1) zH)) [some (.str x)] S=.ok (x.map fun c=>.bl (zBv [c])) S :=
     zJu _ (by simp[hz]) hz fun c _=>by simp[Zs]
    by_cases h1:1 <= x.length
    ·by_cases h8:x.length <= 8
     ·have h1':¬ (x.length:Int) < 1:=by omega
      have h8':¬ (8:Int) < (x.length:Int):=by omega
      cases hA:(x.all fun c=>zBv [c]) with
      | true =>
       by_cases hk:x∈zJU<;>simp[qk,qF,hz,h1',h8',h1,h8,e,all_map,hA,zAZ,zR1,zIC,flat,hk]
      | false=>simp[qk,qF,hz,h1',h8',h1,h8,e,all_map,hA,zAZ]
     ·have h8':(8:Int) < (x.length:Int):=by omega
      simp[qk,qF,hz,h8',zAZ,h8]
    ·have h1':(x.length:Int) < 1:=by omega
     simp[qk,qF,hz,h1',zAZ,h1]
   ·exact .inl (by simp[qG,hz])
  | non=>exact .inr ⟨_,[],rfl,by simp[qk,qF],rfl⟩
  | bl b=>exact .inr ⟨_,[],rfl,by simp[qk,qF],rfl⟩
  | int b=>exact .inr ⟨_,[],rfl,by simp[qk,qF],rfl⟩
  | tup b=>exact .inr ⟨_,[],rfl,by simp[qk,qF],rfl⟩
  | ro b=>exact .inr ⟨_,[],rfl,by simp[qk,qF],rfl⟩
  | ty b=>exact .inl rfl
  | ref p =>
   cases h:S[p]? with
   | none=>exact .inl (by simp[qG,Qs,h])
   | some o =>
    cases o with
    | lst xs=>exact .inr ⟨_,[],by simp[qG,Qs,h];rfl,by simp[qk,qF,h],rfl⟩
    | dct xs=>exact .inr ⟨_,[],by simp[qG,Qs,h];rfl,by simp[qk,qF,h],rfl⟩
    | ins c fs=>exact .inl (by simp[qG,Qs,h])
    | fdc _=>exact .inl (by simp[qG,Qs,h])
noncomputable def yB:SM :=
  (zO (sIf (zEA (zHp (zS zDP (zD (zC 0) (zD (eC (.ty .str)) zH)))))
  (jn (eC (.bl false)))
  ql)
  (zO (zh 1 (eM .str zDc (zC 0) (zD (eC (.str [46])) zH)))
  (jn (zDF (Zv cLe (zS ZC (zD (zC 1) zH)) (eC (.int 2))) (zEh zEG 1 (iE (zC 1)) (jW 2) Qy (zS qG (zD (zC 2) zH)))))))
noncomputable def yp:F:=fn 2 yB
noncomputable def zAI (x:T):Bool:=decide ((zf 46 x).length <= 2) && (zf 46 x).all zAZ
noncomputable def qR:F
 | [.str x],s=>if x.length+2 <= 10000 then .ok (.bl (zAI x)) s else .no
 | [d],s=>if Qs s d then .ok (.bl false) s else .no
 | _,_=>.no
theorem zEy (c:Nat):∀ x:T,(zf c x).length <= x.length+1
 | []=>by simp[zf]
 | d::r=>by
  have ih:=zEy c r
  unfold zf
  split
  ·simp;omega
  ·split<;>simp_all<;>omega
theorem zD8 (c:Nat):∀ (x:T),∀ p∈zf c x,p.length <= x.length
 | [],p,h=>by simp[zf] at h;subst h;simp
 | d::r,p,h=>by
  have ih:=zD8 c r
  unfold zf at h
  split at h
  ·rcases List.mem_cons.mp h with rfl | h
   ·simp
   ·have:=ih p h;simp;omega
  ·split at h
   ·simp at h;subst h;simp
   ·rename_i q qs e
    rw[e] at ih
    rcases List.mem_cons.mp h with rfl | h
    ·have:=ih q (by simp);simp;omega
    ·have:=ih p (by simp[h]);simp;omega
theorem zKW:jc 1 yp qR:=jc.pure fun ds S hl c ca=>by
 match ds,hl with
 | [a],_ =>
  cases a with
  | str x =>
   by_cases hz:x.length+2 <= 10000
   ·refine .inr ⟨.bl (zAI x),[.lst ((zf 46 x).map .str)],by simp[qR,hz],?_,rfl⟩
    have hs:=zEy 46 x
    have z1:x.length+2 <= SZ:=Nat.le_trans hz (by decide)
    have z2:(zf 46 x).length <= SZ:=Nat.le_trans (by omega:_ <= 10000) (by decide)
    have e:ZG 1 (iE (zC 1)) (jW 2) Qy (zS qG (zD (zC 2) zH)) [some (.str x),some (.ref S.length)] (S++[.lst ((zf 46 x).map .str)])=.ok ((zf 46 x).map fun t=>.bl (zAZ t)) (S++[.lst ((zf 46 x).map .str)]):=by
     have:=zH4 (n:=1) (it:=iE (zC 1)) (tg:=jW 2) (e:=zS qG (zD (zC 2) zH)) (σ:=[some (.str x),some (.ref S.length)]) (s:=S++[.lst ((zf 46 x).map .str)]) (xs:=(zf 46 x).map .str) (g:=[(S.length,.lst ((zf 46 x).map .str))]) (fun d=>match d with | .str y=>.bl (zAZ y) | _=>.non) (by simp) (by simpa using z2) (by simp[zl]) (fun d hd=>by
      obtain⟨t,ht,rfl⟩:=List.mem_map.mp hd
      have:=zD8 46 x t ht
      have zt:t.length <= SZ:=Nat.le_trans (by omega:_ <= 10000) (by decide)
      simp[qG,zt])
     rw[this,List.map_map]
     rfl
    by_cases h2:(zf 46 x).length <= 2
    ·have h2':((zf 46 x).length:Int) <= 2:=by omega
     simp[yp,yB,z1,e,all_map,h2',zAI,h2]
    ·have h2':¬ ((zf 46 x).length:Int) <= 2:=by omega
     simp[yp,yB,z1,h2',zAI,h2]
   ·exact .inl (by simp[qR];omega)
  | non=>exact .inr ⟨_,[],rfl,by simp[yp,yB],rfl⟩
  | bl b=>exact .inr ⟨_,[],rfl,by simp[yp,yB],rfl⟩
  | int b=>exact .inr ⟨_,[],rfl,by simp[yp,yB],rfl⟩
  | tup b=>exact .inr ⟨_,[],rfl,by simp[yp,yB],rfl⟩
  | ro b=>exact .inr ⟨_,[],rfl,by simp[yp,yB],rfl⟩
  | ty b=>exact .inl rfl
  | ref p =>
   cases h:S[p]? with
   | none=>exact .inl (by simp[qR,Qs,h])
   | some o =>
    cases o with
    | lst xs=>exact .inr ⟨_,[],by simp[qR,Qs,h];rfl,by simp[yp,yB,h],rfl⟩
    | dct xs=>exact .inr ⟨_,[],by simp[qR,Qs,h];rfl,by simp[yp,yB,h],rfl⟩
    | ins c fs=>exact .inl (by simp[qR,Qs,h])
    | fdc _=>exact .inl (by simp[qR,Qs,h])
noncomputable def QT:SM :=
  (jn (eM .str Jf (eC (.str [32])) (zD (zS zFx (zD (zS jq (zD (zC 0) zH)) zH)) zH)))
noncomputable def J7:F:=fn 1 QT
theorem zBa (c:Nat):∀ (x:T),∀ p∈zf c x,p.length <= x.length
 | [],p,h=>by simp[zf] at h;subst h;simp
 | d::r,p,h=>by
  have ih:=zBa c r
  unfold zf at h
  split at h
  ·rcases List.mem_cons.mp h with rfl | h
   ·simp
   ·have:=ih p h;simp;omega
  ·split at h
   ·simp at h;subst h;simp
   ·rename_i q qs e
    rw[e] at ih
    rcases List.mem_cons.mp h with rfl | h
    ·have:=ih q (by simp);simp;omega
    ·have:=ih p (by simp[h]);simp;omega
theorem Zt {t:T} (h:t.length <= 2000):(zW t).length <= 2001/\∀ p∈zW t,p.length <= 2000:=by
 have hl:(yN t).length=t.length:=by simp[yN]
 have h1:=zBh 32 (yN t)
 have h2:=zBa 32 (yN t)
 unfold zW
 refine⟨Nat.le_trans (List.length_filter_le _ _) (by omega),fun p hp=>?_⟩
 have:=h2 p (List.mem_filter.mp hp).1
 omega
theorem zGE {m:Nat}:∀ ys:List T,(∀ p∈ys,p.length <= m)->(ys.map List.length).sum <= m * ys.length
 | [],_=>by simp
 | y::ys,h=>by
  have:=zGE ys fun p hp=>h p (List.mem_cons_of_mem _ hp)
  have:=h y List.mem_cons_self
  simp only[List.map_cons,List.sum_cons,List.length_cons,Nat.mul_add,Nat.mul_one]
  omega
theorem zFl (x:T) (hx:x.length <= 1) (ys:List T) (hl:ys.length <= 2001) (h:∀ p∈ys,p.length <= 2000) (s:M.S):Zd x (ys.map .str) s=.ok (.str (z7 x ys)) s:=by
 unfold Zd
 rw[zDE]
 have:=zGE ys h
 have h2:ys.length * x.length <= ys.length * 1:=Nat.mul_le_mul_left _ hx
 dsimp only
 rw[if_pos (by unfold SZ;omega)]
theorem zJP (x:T):∀ ts:List T,(qu.insT' x ts).Perm (x::ts)
 | []=>.refl _
 | y::r=>by
  unfold qu.insT'
  split
  ·exact ((zJP x r).cons y).trans (.swap x y r)
  ·exact .refl _
theorem zET:∀ ts:List T,(qu ts).Perm ts
 | []=>.refl _
 | x::r=>(zJP x _).trans ((zET r).cons x)
theorem zG2 {t:T} (h:t.length <= 2000) (s:M.S):jq [.str t] s=.ok (.ref s.length) (s++[.lst ((zW t).map .str)]):=by
 simp only[jq]
 rw[if_pos (by omega)]
 rfl
noncomputable def ZT:F:=chS J7
theorem zEk:jc 1 J7 ZT:=zAy _
theorem zJl {t:T} (h:t.length <= 2000) (S:M.S):ZT [.str t] S=.ok (.str (z7 [32] (qu (zW t)))) S:=by
 have hwb:=Zt h
 have j3:=fun s=>zFl [32] (by simp) (qu (zW t)) (by rw[(zET (zW t)).length_eq];omega) (fun p hp=>Nat.le_trans (hwb.2 p ((zET (zW t)).mem_iff.mp hp)) (by omega)) s
 refine zA1 (g:=[.lst ((zW t).map .str),.lst ((qu (zW t)).map .str)]) ?_ rfl
 simp[J7,QT,zG2 h,zFv,zDE,show (zW t).length <= 16777216 by omega,j3]
noncomputable def QX:SM :=
  (jn (eUn zEQ (zC 0)))
noncomputable def Jr:F:=fn 1 QX
noncomputable def ZR:F:=chS Jr
theorem zE7:jc 1 Jr ZR:=zAy _
theorem zMB {t:T} (h:t.length <= 2000) (S:M.S):ZR [.str t] S=.ok (.str t.reverse) S:=by
 have z:t.length <= SZ:=by unfold SZ;omega
 refine zA1 (g:=[]) ?_ rfl
 simp[Jr,QX,z]
noncomputable def JU:SM :=
  (jn (eM .str Jf (eC (.str [32])) (zD (eSl (zS jq (zD (zC 0) zH)) zCJ (JP (eC (.int 1)))) zH)))
noncomputable def zA3:F:=fn 1 JU
noncomputable def QI:F:=chS zA3
theorem zGj:jc 1 zA3 QI:=zAy _
theorem zML {t:T} (h:t.length <= 2000) (S:M.S):QI [.str t] S=.ok (.str (z7 [32] ((zW t).take 1))) S:=by
 have hwb:=Zt h
 have c1:cut ((zW t).map D.str) none (some 1)=((zW t).take 1).map D.str:=by rw[zLN _ (by decide)];simp
 have j1:=fun s=>zFl [32] (by simp) ((zW t).take 1) (by rw[List.length_take];omega) (fun p hp=>Nat.le_trans (hwb.2 p (List.mem_of_mem_take hp)) (by omega)) s
 refine zA1 (g:=[.lst ((zW t).map .str),.lst (((zW t).take 1).map .str)]) ?_ rfl
 simp[zA3,JU,zG2 h,-List.map_take,c1,j1]
noncomputable def Je:SM :=
  (jn (eM .str Jf (eC (.str [32])) (zD (eSl (zS jq (zD (zC 0) zH)) (JP (eC (.int 1))) zCJ) zH)))
noncomputable def zA0:F:=fn 1 Je
noncomputable def QE:F:=chS zA0
theorem zGb:jc 1 zA0 QE:=zAy _
theorem zO8 {t:T} (h:t.length <= 2000) (S:M.S):QE [.str t] S=.ok (.str (z7 [32] ((zW t).drop 1))) S:=by
 have hwb:=Zt h
 have c1:cut ((zW t).map D.str) (some 1) none=((zW t).drop 1).map D.str:=by rw[zKy _ (by decide)];simp
 have j1:=fun s=>zFl [32] (by simp) ((zW t).drop 1) (by rw[List.length_drop];omega) (fun p hp=>Nat.le_trans (hwb.2 p (List.mem_of_mem_drop hp)) (by omega)) s
 refine zA1 (g:=[.lst ((zW t).map .str),.lst (((zW t).drop 1).map .str)]) ?_ rfl
 simp[zA0,Je,zG2 h,-List.map_drop,-List.drop_one,c1,j1]
noncomputable def zBV:SM :=
  (jn (zS zM1 (zD (zS ZC (zD (zS jq (zD (zC 0) zH)) zH)) zH)))
noncomputable def zDO:F:=fn 1 zBV
noncomputable def zAY:F:=chS zDO
theorem zKT:jc 1 zDO zAY:=zAy _
theorem zJ9 {t:T} (h:t.length <= 2000) (S:M.S):zAY [.str t] S=.ok (.str (zCC (zW t).length)) S:=by
 have hwb:=Zt h
 have zs:ZK ((zW t).length:Int)=true:=by unfold ZK;rw[decide_eq_true_iff];omega
 refine zA1 (g:=[.lst ((zW t).map .str)]) ?_ rfl
 simp[zDO,zBV,zG2 h,zs]
noncomputable def yo:SM :=
  (sIf (jM cEq (zC 0) (eC (.str [98,97,99,107])))
  (jn (zS ZR (zD (zC 1) zH)))
  ql)
noncomputable def ZI:SM :=
  (sIf (jM cEq (zC 0) (eC (.str [102,105,114,115,116])))
  (jn (zS QI (zD (zC 1) zH)))
  ql)
noncomputable def Zr:SM :=
  (sIf (jM cEq (zC 0) (eC (.str [114,101,115,116])))
  (jn (zS QE (zD (zC 1) zH)))
  ql)
noncomputable def Qn:SM :=
  (sIf (jM cEq (zC 0) (eC (.str [99,111,117,110,116])))
  (jn (zS zAY (zD (zC 1) zH)))
  ql)
noncomputable def zAJ:SM :=
  (jn (zS ZT (zD (zC 1) zH)))
noncomputable def ZY:SM:=(zO yo (zO ZI (zO Zr (zO Qn zAJ))))
noncomputable def QG:F:=fn 2 ZY
noncomputable def zAT:F:=chS QG
theorem zKG:jc 2 QG zAT:=zAy _
noncomputable def y8 (w t:T):T:=if w=zCZ then t.reverse else if w=Z8 then z7 [32] ((zW t).take 1) else if w=zNw then z7 [32] ((zW t).drop 1) else if w=zKh then zCC (zW t).length else z7 [32] (qu (zW t))
theorem zOg {w t:T} (hw:W5 w) (h:t.length <= 2000) (S:M.S):zAT [.str w,.str t] S=.ok (.str (y8 w t)) S:=by
 have hwb:=Zt h
 have h1:=zMB h S
 have h2:=zML h S
 have h3:=zO8 h S
 have h4:=zJ9 h S
 have h5:=zJl h S
 refine zA1 (g:=[]) ?_ rfl
 unfold y8
 rcases hw with rfl | rfl | rfl | rfl | rfl
 ·simp[QG,ZY,yo,h1]
 ·simp[QG,ZY,yo,ZI,h2]
 ·simp[QG,ZY,yo,ZI,Zr,h3]
 ·simp[QG,ZY,yo,ZI,Zr,Qn,h4]
 ·simp[QG,ZY,yo,ZI,Zr,Qn,zAJ,h5]
noncomputable def tot (ys:List T):Nat:=(ys.map List.length).sum+ys.length
theorem yX (y:T) (ys:List T):tot (y::ys)=y.length+1+tot ys:=by
 unfold tot
 simp only[List.map_cons,List.sum_cons,List.length_cons]
 omega
theorem zGL (c:Nat):∀ x:T,tot (zf c x)=x.length+1
 | []=>rfl
 | d::r=>by
  have ih:=zGL c r
  unfold zf
  split
  ·rw[yX,ih];simp only[List.length_cons,List.length_nil];omega
  ·split
   ·rename_i e;rw[e] at ih;simp[tot] at ih
   ·rename_i p ps e
    rw[e,yX] at ih
    rw[yX]
    simp only[List.length_cons]
    omega
theorem zFs {ys zs:List T} (h:ys.Sublist zs):tot ys <= tot zs:=by
 induction h with
 | slnil=>exact Nat.le_refl _
 | cons a _ ih=>rw[yX];omega
 | cons_cons a _ ih=>rw[yX,yX];omega
theorem zMa (ts:List T):tot (qu ts)=tot ts:=by
 have ins:∀ (x:T) (l:List T),tot (qu.insT' x l)=x.length+1+tot l:=by
  intro x l
  induction l with
  | nil=>simp[qu.insT',yX]
  | cons y l ih =>
   unfold qu.insT'
   split
   ·rw[yX,ih,yX];omega
   ·rw[yX]
 induction ts with
 | nil=>rfl
 | cons t ts ih=>unfold qu;rw[ins,ih,yX]
theorem zCQ:∀ ys:List T,(z7 [32] ys).length <= tot ys
 | []=>by simp[z7,tot]
 | [y]=>by simp[z7,tot]
 | y::z::ys=>by
  have:=zCQ (z::ys)
  rw[yX]
  show (y++[32]++z7 [32] (z::ys)).length <= _
  simp only[List.length_append,List.length_cons,List.length_nil]
  omega
theorem zK9 {t:T} (h:t.length <= 2000):tot (zW t) <= 2001:=by
 have h1:=zGL 32 (yN t)
 have hl:(yN t).length=t.length:=by simp[yN]
 have h2:tot (zW t) <= tot (zf 32 (yN t)):=zFs List.filter_sublist
 omega
theorem zMj {w t:T} (hw:W5 w) (h:t.length <= 2000):(y8 w t).length <= 3000:=by
 have hwb:=Zt h
 have ht:=zK9 h
 have dg:∀ n:Nat,n < 2002->(zCC (n:Int)).length <= 3000:=by decide +kernel
 unfold y8
 rcases hw with rfl | rfl | rfl | rfl | rfl
 ·rw[if_pos rfl,List.length_reverse];omega
 ·rw[if_neg (by decide),if_pos rfl]
  have:=zCQ ((zW t).take 1)
  have:=zFs (List.take_sublist 1 (zW t))
  omega
 ·rw[if_neg (by decide),if_neg (by decide),if_pos rfl]
  have:=zCQ ((zW t).drop 1)
  have:=zFs (List.drop_sublist 1 (zW t))
  omega
 ·rw[if_neg (by decide),if_neg (by decide),if_neg (by decide),if_pos rfl]
  exact dg _ (by omega)
 ·rw[if_neg (by decide),if_neg (by decide),if_neg (by decide),if_neg (by decide)]
  have:=zCQ (qu (zW t))
  rw[zMa] at this
  omega
noncomputable def jK:SM :=
  (zO (zh 2 (eM .list y4 (jT 4 4 (zC 0)) zH))
  (sIf (jM cEq (zC 1) (eC (.str [102,97,105,108])))
  (z9 (jR 4 yM (zC 0) (zD (zC 2) zH)))
  (sIf (jM cNe (zC 1) (eC (.str [111,102])))
  (z9 (jR 4 zr (zC 0) (zD (zS zAT (zD (zC 1) (zD (zC 2) zH))) zH)))
  (sIf (zHp (zS qR (zD (zC 2) zH)))
  (z9 (jR 4 zk (zC 0) (zD (zC 2) zH)))
  (z9 (jR 4 yM (zC 0) (zD (eC (.str [110,111,32,110,97,109,101])) zH)))))))
noncomputable def zCR:F:=fn 3 jK
noncomputable abbrev jZ:F:=zCR
section
variable {S:M.S}{st:D}{a:Nat}{us:List (D×D)}{k:Int}{tx td:List D}{en:D}{g:M.S}{ans:List (T×T)}
theorem zEq (t:T):∀ (v1 v2:Option D) r,zO (zh 2 (eM .list y4 (jT 4 4 (zC 0)) zH)) r [some (.ref S.length),v1,v2] (Wk S st a us k (tx++[.str t]) td en g)=r [some (.ref S.length),v1,some (.str t)] (Wk S st a us k tx td en g):=fun v1 v2 r=>by
 simp[wk0,wk2,ws2]
theorem zIg {w t:T} (hw:W5 w) (ht:t.length <= 2000) (hx:tx.length <= 5000):jZ [.ref S.length,.str w] (Wk S st a us k (tx++[.str t]) td en g)=.ok .non (if 900 < (y8 w t).length then Wk S st a us k tx td (zn (zv,qW)) g else Wk S st a us k (tx++[.str (y8 w t)]) td en g):=by
 have h1:=zOg hw ht (Wk S st a us k tx td en g)
 have hl:=zMj hw ht
 have h2:zr [.ref S.length,.str (y8 w t)] (Wk S st a us k tx td en g)=.ok .non (if 900 < (y8 w t).length then Wk S st a us k tx td (zn (zv,qW)) g else Wk S st a us k (tx++[.str (y8 w t)]) td en g):=by
  by_cases h9:900 < (y8 w t).length
  ·rw[if_pos h9,zBR _ h9 (by omega)]
  ·rw[if_neg h9,zB2 _ (by omega) hx]
 have n1:¬ w=zDt:=by rcases hw with rfl | rfl | rfl | rfl | rfl<;>decide
 have n2:¬ w=tOf:=by rcases hw with rfl | rfl | rfl | rfl | rfl<;>decide
 show (jK [some (.ref S.length),some (.str w),none] (Wk S st a us k (tx++[.str t]) td en g)).out=_
 unfold jK
 rw[zEq t]
 generalize (if 900 < (y8 w t).length then Wk S st a us k tx td (zn (zv,qW)) g else Wk S st a us k (tx++[.str (y8 w t)]) td en g)=W2 at *
 simp[n1,n2,wk0,h1,-qd,h2,RS.out]
theorem zIi (t:T):jZ [.ref S.length,.str zDt] (Wk S st a us k (tx++[.str t]) td en g)=.ok .non (Wk S st a us k tx td (zn (zv,t)) g):=by
 have h2:=zDo (S:=S) (st:=st) (a:=a) (us:=us) (k:=k) (tx:=tx) (td:=td) (en:=en) (g:=g) t
 show (jK [some (.ref S.length),some (.str zDt),none] (Wk S st a us k (tx++[.str t]) td en g)).out=_
 unfold jK
 rw[zEq t]
 simp[wk0,-yv,h2,RS.out]
theorem zK4 {t:T} (ht:t.length <= 2000) (hn:zAI t=false):jZ [.ref S.length,.str tOf] (Wk S st a us k (tx++[.str t]) td en g)=.ok .non (Wk S st a us k tx td (zn (zv,tNo)) g):=by
 have hq:∀ s,qR [.str t] s=.ok (.bl (zAI t)) s:=fun s=>by
  simp only[qR]
  rw[if_pos (by omega)]
 have h2:=zDo (S:=S) (st:=st) (a:=a) (us:=us) (k:=k) (tx:=tx) (td:=td) (en:=en) (g:=g) tNo
 show (jK [some (.ref S.length),some (.str tOf),none] (Wk S st a us k (tx++[.str t]) td en g)).out=_
 unfold jK
 rw[zEq t]
 simp[wk0,hq,hn,-yv,h2,RS.out]
theorem zLd {t:T}{s':M.S} (ht:t.length <= 2000) (hn:zAI t=true) (h1:zk [.ref S.length,.str t] (Wk S st a us k tx td en g)=.ok .non s'):jZ [.ref S.length,.str tOf] (Wk S st a us k (tx++[.str t]) td en g)=.ok .non s':=by
 have hq:∀ s,qR [.str t] s=.ok (.bl (zAI t)) s:=fun s=>by
  simp only[qR]
  rw[if_pos (by omega)]
 show (jK [some (.ref S.length),some (.str tOf),none] (Wk S st a us k (tx++[.str t]) td en g)).out=_
 unfold jK
 rw[zEq t]
 simp[wk0,hq,hn,-jr,h1,RS.out]
end
noncomputable def Zo:SM :=
  (zO (zFJ (zFg (zDW (jT 4 6 (zC 0))) (jM cGt (zS ZC (zD (jT 4 5 (zC 0)) zH)) (eC (.int 0))))
  (zO (zh 1 (eM .list y4 (jT 4 5 (zC 0)) zH))
  (sIf (jM cEq (eOp zY (zC 1) (eC (.int 0))) (eC (.str [112,97,114,116])))
  (z9 (jR 4 jx (zC 0) (zD (eOp zY (zC 1) (eC (.int 1))) (zD (eOp zY (zC 1) (eC (.int 2))) zH))))
  (sIf (jM cEq (eOp zY (zC 1) (eC (.int 0))) (eC (.str [106,111,105,110])))
  (z9 (jR 4 jy (zC 0) (zD (eOp zY (zC 1) (eC (.int 1))) zH)))
  (sIf (jM cEq (eOp zY (zC 1) (eC (.int 0))) (eC (.str [105,102])))
  (z9 (jR 4 yH (zC 0) (zD (eOp zY (zC 1) (eC (.int 1))) (zD (eOp zY (zC 1) (eC (.int 2))) zH))))
  (sIf (jM cEq (eOp zY (zC 1) (eC (.int 0))) (eC (.str [101,97,99,104])))
  (z9 (jR 4 qY (zC 0) (zD (eOp zY (zC 1) (eC (.int 1))) zH)))
  (sIf (jM cEq (eOp zY (zC 1) (eC (.int 0))) (eC (.str [114,111,117,110,100])))
  (z9 (jR 4 qo (zC 0) (zD (eOp zY (zC 1) (eC (.int 1))) (zD (eOp zY (zC 1) (eC (.int 2))) (zD (eOp zY (zC 1) (eC (.int 3))) zH)))))
  (z9 (jR 4 jZ (zC 0) (zD (eOp zY (zC 1) (eC (.int 0))) zH))))))))))
  (zO (sIf (zDW (jT 4 6 (zC 0)))
  (jn (jS (zD (eC (.str [116,101,120,116])) (zD (eOp zY (jT 4 4 (zC 0)) (eC (.int 0))) zH))))
  ql)
  (jn (jT 4 6 (zC 0)))))
noncomputable def zGe:F:=fn 2 Zo
noncomputable abbrev ZE:F:=zGe
noncomputable abbrev q9:TM:=zFg (zDW (jT 4 6 (zC 0))) (jM cGt (zS ZC (zD (jT 4 5 (zC 0)) zH)) (eC (.int 0)))
noncomputable abbrev zHW:SM:=zh 1 (eM .list y4 (jT 4 5 (zC 0)) zH)
noncomputable abbrev zAK:SM :=
  (sIf (jM cEq (eOp zY (zC 1) (eC (.int 0))) (eC (.str [112,97,114,116])))
  (z9 (jR 4 jx (zC 0) (zD (eOp zY (zC 1) (eC (.int 1))) (zD (eOp zY (zC 1) (eC (.int 2))) zH))))
  (sIf (jM cEq (eOp zY (zC 1) (eC (.int 0))) (eC (.str [106,111,105,110])))
  (z9 (jR 4 jy (zC 0) (zD (eOp zY (zC 1) (eC (.int 1))) zH)))
  (sIf (jM cEq (eOp zY (zC 1) (eC (.int 0))) (eC (.str [105,102])))
  (z9 (jR 4 yH (zC 0) (zD (eOp zY (zC 1) (eC (.int 1))) (zD (eOp zY (zC 1) (eC (.int 2))) zH))))
  (sIf (jM cEq (eOp zY (zC 1) (eC (.int 0))) (eC (.str [101,97,99,104])))
  (z9 (jR 4 qY (zC 0) (zD (eOp zY (zC 1) (eC (.int 1))) zH)))
  (sIf (jM cEq (eOp zY (zC 1) (eC (.int 0))) (eC (.str [114,111,117,110,100])))
  (z9 (jR 4 qo (zC 0) (zD (eOp zY (zC 1) (eC (.int 1))) (zD (eOp zY (zC 1) (eC (.int 2))) (zD (eOp zY (zC 1) (eC (.int 3))) zH)))))
  (z9 (jR 4 jZ (zC 0) (zD (eOp zY (zC 1) (eC (.int 0))) zH))))))))
noncomputable abbrev yt:SM:=zO zHW zAK
noncomputable abbrev zHd:SM:=(zO (sIf (zDW (jT 4 6 (zC 0)))
  (jn (jS (zD (eC (.str [116,101,120,116])) (zD (eOp zY (jT 4 4 (zC 0)) (eC (.int 0))) zH))))
  ql)
  (jn (jT 4 6 (zC 0))))
theorem zQu:Zo=zO (zFJ q9 yt) zHd:=rfl
section
variable {S:M.S}{st:D}{a:Nat}{us:List (D×D)}{k:Int}{tx td:List D}{en:D}{g:M.S}{ans:List (T×T)}
theorem zO3 (n:Nat) (v:Option D):qc (n+1) q9 yt [some (.ref S.length),v] (Wk S st a us k tx [] .non g)=.nx [some (.ref S.length),v] (Wk S st a us k tx [] .non g):=by
 have ht:q9 [some (.ref S.length),v] (Wk S st a us k tx [] .non g)=.ok false (Wk S st a us k tx [] .non g):=by
  simp[wk0,wk3]
 rw[qc,ht]
 simp
theorem zMZ (n:Nat) (v:Option D) (r:T×T):qc (n+1) q9 yt [some (.ref S.length),v] (Wk S st a us k tx td (zn r) g)=.nx [some (.ref S.length),v] (Wk S st a us k tx td (zn r) g):=by
 have ht:q9 [some (.ref S.length),v] (Wk S st a us k tx td (zn r) g)=.ok false (Wk S st a us k tx td (zn r) g):=by
  simp[wk0,zn]
 rw[qc,ht]
 simp
theorem zPM {x:D}{s':M.S} (n:Nat) (v:Option D) (hd:zAK [some (.ref S.length),some x] (Wk S st a us k tx td .non g)=.nx [some (.ref S.length),some x] s'):qc (n+1) q9 yt [some (.ref S.length),v] (Wk S st a us k tx (td++[x]) .non g)=qc n q9 yt [some (.ref S.length),some x] s':=by
 have ht:q9 [some (.ref S.length),v] (Wk S st a us k tx (td++[x]) .non g)=.ok true (Wk S st a us k tx (td++[x]) .non g):=by
  have:(0:Int) < (td.length:Int)+1:=by omega
  simp[wk0,wk3,this]
 have hp:zHW [some (.ref S.length),v] (Wk S st a us k tx (td++[x]) .non g)=.nx [some (.ref S.length),some x] (Wk S st a us k tx td .non g):=by
  simp[wk0,wk3,ws3]
 rw[qc,ht,R.stm_ok,if_pos rfl]
 show (match ((zHW [some (.ref S.length),v] (Wk S st a us k tx (td++[x]) .non g)).then zAK) with | .nx σ s=>qc n q9 yt σ s | .ct σ s=>qc n q9 yt σ s | .bk σ s=>.nx σ s | r=>r)=_
 rw[hp,RS.then_nx,hd]
theorem at2 (x y z:D) (r:List D):atI (x::y::z::r) 2=some z:=by
 unfold atI ixN
 rw[if_pos (by decide),if_pos (by simp only[List.length_cons];omega)]
 rfl
theorem Q9 {p i:D}{s':M.S} (hb:jx [.ref S.length,p,i] (Wk S st a us k tx td .non g)=.ok .non s'):zAK [some (.ref S.length),some (ptD i p)] (Wk S st a us k tx td .non g)=.nx [some (.ref S.length),some (ptD i p)] s':=by
 unfold ptD
 simp[at0,at1,at2,wk0,hb]
theorem zI3 {n:Int}{s':M.S} (hb:jy [.ref S.length,.int n] (Wk S st a us k tx td .non g)=.ok .non s'):zAK [some (.ref S.length),some (.tup [.str Z2,.int n])] (Wk S st a us k tx td .non g)=.nx [some (.ref S.length),some (.tup [.str Z2,.int n])] s':=by
 simp[at0,at1,wk0,hb]
theorem zR7 {p i:D}{s':M.S} (hb:yH [.ref S.length,p,i] (Wk S st a us k tx td .non g)=.ok .non s'):zAK [some (.ref S.length),some (.tup [.str tIf,p,i])] (Wk S st a us k tx td .non g)=.nx [some (.ref S.length),some (.tup [.str tIf,p,i])] s':=by
 simp[at0,at1,at2,wk0,hb]
theorem zOm {p:D}{s':M.S} (hb:qY [.ref S.length,p] (Wk S st a us k tx td .non g)=.ok .non s'):zAK [some (.ref S.length),some (.tup [.str Jc,p])] (Wk S st a us k tx td .non g)=.nx [some (.ref S.length),some (.tup [.str Jc,p])] s':=by
 simp[at0,at1,wk0,hb]
theorem zNP {b:D}{l:Nat}{j:Int}{s':M.S} (hb:qo [.ref S.length,b,.ref l,.int j] (Wk S st a us k tx td .non g)=.ok .non s'):zAK [some (.ref S.length),some (rdD b l j)] (Wk S st a us k tx td .non g)=.nx [some (.ref S.length),some (rdD b l j)] s':=by
 unfold rdD
 simp[at0,at1,at2,at3,wk0,hb]
theorem zFL {w:T} (hw:W7 w) {s':M.S} (hb:jZ [.ref S.length,.str w] (Wk S st a us k tx td .non g)=.ok .non s'):zAK [some (.ref S.length),some (.tup [.str w])] (Wk S st a us k tx td .non g)=.nx [some (.ref S.length),some (.tup [.str w])] s':=by
 have n0:¬ w=[112,97,114,116]:=by rcases hw with rfl | rfl | rfl | rfl | rfl | rfl | rfl<;>decide
 have n1:¬ w=[106,111,105,110]:=by rcases hw with rfl | rfl | rfl | rfl | rfl | rfl | rfl<;>decide
 have n2:¬ w=[105,102]:=by rcases hw with rfl | rfl | rfl | rfl | rfl | rfl | rfl<;>decide
 have n3:¬ w=[101,97,99,104]:=by rcases hw with rfl | rfl | rfl | rfl | rfl | rfl | rfl<;>decide
 have n4:¬ w=[114,111,117,110,100]:=by rcases hw with rfl | rfl | rfl | rfl | rfl | rfl | rfl<;>decide
 simp[at0,n0,n1,n2,n3,n4,wk0,hb]
noncomputable def Go (S s s':M.S) (m:Nat):Prop:=∀ f v,∃ v',qc (f+m) q9 yt [some (.ref S.length),v] s=qc f q9 yt [some (.ref S.length),v'] s'
theorem Go.nil (s:M.S):Go S s s 0:=fun f v=>⟨v,rfl⟩
theorem Go.then {s s1 s2:M.S}{m n:Nat} (h:Go S s s1 m) (h2:Go S s1 s2 n):Go S s s2 (m+n):=fun f v=>by
 obtain⟨v1,e1⟩:=h (f+n) v
 obtain⟨v2,e2⟩:=h2 f v1
 exact⟨v2,by rw[show f+(m+n)=f+n+m by omega,e1,e2]⟩
theorem Go.one {x:D}{s':M.S} (hd:zAK [some (.ref S.length),some x] (Wk S st a us k tx td .non g)=.nx [some (.ref S.length),some x] s'):Go S (Wk S st a us k tx (td++[x]) .non g) s' 1:=fun f v=>⟨some x,zPM f v hd⟩
end
noncomputable def Arr (S:M.S) (st:D) (a:Nat) (tx td:List D) (g:M.S) (r:Out×Ct) (s':M.S):Prop:=match r.1 with
 | .tx x=>∃ h,s'=Wk S st a (usD r.2.2) (r.2.1:Int) (tx++[.str x]) td .non (g++h)
 | .en e=>∃ h tx' td',s'=Wk S st a (usD r.2.2) (r.2.1:Int) tx' td' (zn e) (g++h)
noncomputable def zFp:D->T
 | .str x=>x
 | _=>[]
noncomputable def andO (r:Out×Ct) (f:T->Ct->Out×Ct):Out×Ct:=match r with
 | (.tx x,c)=>f x c
 | (.en e,c)=>(.en e,c)
noncomputable def zCY (ans:List (T×T)) (w p:T) (c:Ct):Out×Ct:=if w=zDt then (.en (zv,p),c) else if w=tOf then (if zAI p=true then zER ans p c else (.en (zv,tNo),c)) else Qz (.tx (y8 w p),c)
noncomputable def ev (ans:List (T×T)) (st:D):Nat->Tr->D->Ct->Out×Ct
 | 0,_,_,c=>(.en ([],[]),c)
 | n+1,t,i,c=>if 500 <= c.1 then (.en (zv,Z3),(c.1+1,c.2)) else match t with
  | .txt x=>(.tx x,(c.1+1,c.2))
  | .line=>(.tx [10],(c.1+1,c.2))
  | .it=>(.tx (zFp i),(c.1+1,c.2))
  | .stem=>(.tx (zFp st),(c.1+1,c.2))
  | .thing m=>zER ans m (c.1+1,c.2)
  | .kin m=>zER ans (m++[46]++zFp st) (c.1+1,c.2)
  | .join ts=>Qz (evs (fun a c=>ev ans st n a i c) ts [] (c.1+1,c.2))
  | .ife a b x y=>andO (ev ans st n a i (c.1+1,c.2)) fun p c=>andO (ev ans st n b i c) fun q c=>ev ans st n (if p=q then x else y) i c
  | .each a b=>andO (ev ans st n a i (c.1+1,c.2)) fun p c=>evw (fun w c=>ev ans st n b (.str w) c) (zW p) [] c
  | .one w a=>andO (ev ans st n a i (c.1+1,c.2)) fun p c=>zCY ans w p c
noncomputable def QF (st:D):Nat->Bool->Tr->Prop
 | 0,_,_=>False
 | n+1,b,t=>match t with
  | .txt x=>x.length <= 900
  | .line=>True
  | .it=>b=true
  | .stem=>∃ x,st=.str x
  | .thing m=>m.length <= 1000
  | .kin m=>m.length <= 1000/\∃ x,st=.str x
  | .join ts=>1 <= ts.length/\ts.length <= 50/\∀ a∈ts,QF st n b a
  | .ife p q x y=>QF st n b p/\QF st n b q/\QF st n b x/\QF st n b y
  | .each p q=>QF st n b p/\QF st n true q
  | .one w p=>W7 w/\QF st n b p
noncomputable def zT (S:M.S) (st:D) (a:Nat) (tx td:List D) (g s:M.S) (c:Ct) (r:Out×Ct) (lo hi e:Nat):Prop:=∃ m s',m+lo <= 4 * (r.2.1 - c.1)+hi/\c.1 <= r.2.1/\Go S s s' m/\Arr S st a tx td g r s'/\r.2.1 <= 501/\∀ x,r.1=.tx x->r.2.1 <= 500/\r.2.2.length+c.1 <= c.2.length+r.2.1+e/\x.length <= 900
noncomputable def I0 (c:Ct):Prop:=c.1 <= 500/\c.2.length <= c.1
theorem zT.weak {S:M.S}{st:D}{a:Nat}{tx td:List D}{g s:M.S}{c:Ct}{r:Out×Ct}{lo hi e lo' hi':Nat} (h:zT S st a tx td g s c r lo hi e) (hh:lo'+hi <= lo+hi'):zT S st a tx td g s c r lo' hi' e:=by
 obtain⟨m,s',h1,h2⟩:=h
 exact⟨m,s',by omega,h2⟩
theorem zT.slack {S:M.S}{st:D}{a:Nat}{tx td:List D}{g s:M.S}{c:Ct}{r:Out×Ct}{lo hi:Nat} (h:zT S st a tx td g s c r lo hi 0):zT S st a tx td g s c r lo hi 1:=by
 obtain⟨m,s',h1,h2,h3,h4,h5,h6⟩:=h
 exact⟨m,s',h1,h2,h3,h4,h5,fun x hx=>by have:=h6 x hx;omega⟩
theorem zT.pre {S:M.S}{st:D}{a:Nat}{tx td:List D}{g s s1:M.S}{c:Ct}{r:Out×Ct}{lo hi e:Nat} (h0:Go S s s1 1) (h:zT S st a tx td g s1 (c.1+1,c.2) r lo hi e) (he:e <= 1) (hh:hi+2 <= lo+4):zT S st a tx td g s c r 1 0 0:=by
 obtain⟨m,s',h1,h2,h3,h4,h5,h6⟩:=h
 dsimp only at h1 h2 h6
 exact⟨1+m,s',by omega,by omega,h0.then h3,h4,h5,fun x hx=>by have:=h6 x hx;omega⟩
theorem zT.step {S:M.S}{st:D}{a:Nat}{tx td:List D}{g s s1:M.S}{c:Ct}{r:Out×Ct}{lo hi e:Nat} (h0:Go S s s1 1) (h:zT S st a tx td g s1 c r lo hi e):zT S st a tx td g s c r lo (hi+1) e:=by
 obtain⟨m,s',h1,h2,h3,h4⟩:=h
 exact⟨1+m,s',by omega,h2,h0.then h3,h4⟩
theorem Arr.grow {S:M.S}{st:D}{a:Nat}{tx td:List D}{g h:M.S}{r:Out×Ct}{s:M.S} (k:Arr S st a tx td (g++h) r s):Arr S st a tx td g r s:=by
 unfold Arr at k ⊢
 split at k
 ·obtain⟨h',e⟩:=k
  exact⟨h++h',by rw[e,List.append_assoc]⟩
 ·obtain⟨h',tx',td',e⟩:=k
  exact⟨h++h',tx',td',by rw[e,List.append_assoc]⟩
theorem zT.andO {S:M.S}{st:D}{a:Nat}{tx tx0 td td1:List D}{g s:M.S}{c:Ct}{r0:Out×Ct}{f:T->Ct->Out×Ct}{hi e:Nat} (hc:I0 c) (h0:zT S st a tx0 td1 g s c r0 1 0 0) (h2:∀ x h,r0.1=.tx x->I0 r0.2->x.length <= 900->zT S st a tx td (g++h) (Wk S st a (usD r0.2.2) (r0.2.1:Int) (tx0++[.str x]) td1 .non (g++h)) r0.2 (f x r0.2) 0 hi e):zT S st a tx td g s c (andO r0 f) 1 hi e:=by
 obtain⟨m,s',e1,e2,e3,e4,e5,e6⟩:=h0
 obtain⟨o,c0⟩:=r0
 cases o with
 | tx x =>
  obtain⟨k1,k2,k3⟩:=e6 x rfl
  obtain⟨h,rfl⟩:=e4
  have hc2:=hc.2
  dsimp only at k1 k2
  obtain⟨m2,s2,f1,f2,f3,f4,f5,f6⟩:=h2 x h rfl ⟨k1,by show c0.2.length <= c0.1;omega⟩ k3
  dsimp only at e1 e2 f1 f2 f6
  exact⟨m+m2,s2,by show _ <= 4 * ((f x c0).2.1 - _)+_;omega,by show _ <= (f x c0).2.1;omega,e3.then f3,f4.grow,f5,fun y hy=>by have:=f6 y hy;show (f x c0).2.1 <= 500/\(f x c0).2.2.length+c.1 <= c.2.length+(f x c0).2.1+e/\_;omega⟩
 | en e =>
  obtain⟨h,tx',td',rfl⟩:=e4
  exact⟨m,_,by have e1':m+1 <= 4 * (c0.1 - c.1)+0:=e1;show m+1 <= 4 * (c0.1 - c.1)+hi;omega,e2,e3,⟨h,tx',td',rfl⟩,e5,fun x hx=>nomatch hx⟩
theorem zT.here {S:M.S}{st:D}{a:Nat}{tx td:List D}{g h:M.S}{c:Ct}{x:T} (hc:I0 c) (hx:x.length <= 900):zT S st a tx td g (Wk S st a (usD c.2) (c.1:Int) (tx++[.str x]) td .non (g++h)) c (.tx x,c) 0 0 0 :=
 ⟨0,_,by simp,Nat.le_refl _,Go.nil _,⟨h,rfl⟩,Nat.le_succ_of_le hc.1,fun y hy=>by cases hy;exact⟨hc.1,by show c.2.length+c.1 <= c.2.length+c.1+0;omega,hx⟩⟩
theorem zT.over {S:M.S}{st:D}{a:Nat}{tx tx' td td':List D}{g h:M.S}{c:Ct}{e:T×T} (hc:c.1 <= 501):zT S st a tx td g (Wk S st a (usD c.2) (c.1:Int) tx' td' (zn e) (g++h)) c (.en e,c) 0 0 0 :=
 ⟨0,_,by simp,Nat.le_refl _,Go.nil _,⟨h,tx',td',rfl⟩,hc,fun y hy=>nomatch hy⟩
theorem zT.here0 {S:M.S}{st:D}{a:Nat}{tx td:List D}{g:M.S}{c:Ct}{x:T} (hc:I0 c) (hx:x.length <= 900):zT S st a tx td g (Wk S st a (usD c.2) (c.1:Int) (tx++[.str x]) td .non g) c (.tx x,c) 0 0 0:=by
 have:=zT.here (S:=S) (st:=st) (a:=a) (tx:=tx) (td:=td) (g:=g) (h:=[]) hc hx
 rwa [List.append_nil] at this
theorem zT.over0 {S:M.S}{st:D}{a:Nat}{tx tx' td td':List D}{g:M.S}{c:Ct}{e:T×T} (hc:c.1 <= 501):zT S st a tx td g (Wk S st a (usD c.2) (c.1:Int) tx' td' (zn e) g) c (.en e,c) 0 0 0:=by
 have:=zT.over (S:=S) (st:=st) (a:=a) (tx:=tx) (tx':=tx') (td:=td) (td':=td') (g:=g) (h:=[]) (e:=e) hc
 rwa [List.append_nil] at this
section
variable {S:M.S}{st:D}{a:Nat}{ans:List (T×T)}
theorem zNc (f:Tr->Ct->Out×Ct) (p:Tr) (ts:List Tr) (t:T) (c:Ct):Qz (evs f (p::ts) t c)=andO (f p c) fun x c=>Qz (evs f ts (t++x) c):=by
 rw[evs]
 unfold andO
 cases f p c with
 | mk o c=>cases o<;>rfl
theorem zI7 (f:T->Ct->Out×Ct) (w:T) (ws:List T) (t:T) (c:Ct):evw f (w::ws) t c=andO (f w c) fun x c=>if 900 < (t++x).length then (.en (zv,qW),c) else evw f ws (t++x) c:=by
 rw[evw]
 unfold andO
 cases f w c with
 | mk o c=>cases o<;>rfl
theorem zMS:∀ xs:List T,(∀ x∈xs,x.length <= 900)->xs.flatten.length <= 900 * xs.length:=fun xs=>by
 induction xs with
 | nil=>intro _;simp
 | cons x xs ih =>
  intro h
  have h1:=h x List.mem_cons_self
  have h2:=ih fun y hy=>h y (List.mem_cons_of_mem _ hy)
  rw[List.flatten_cons,List.length_append,List.length_cons]
  omega
theorem zFu (ha:S[a]? = some (.dct (ans.map pd))) (hv:∀ q∈ans,q.2.length <= 900) (n:T) {c:Ct} (hc:I0 c) {tx td:List D}{g:M.S} (hx:tx.length <= 5000) :
  ∃ s',zk [.ref S.length,.str n] (Wk S st a (usD c.2) (c.1:Int) tx td .non g)=.ok .non s'/\zT S st a tx td g s' c (zER ans n c) 0 0 1:=by
 unfold zER
 cases q:zCL ans n with
 | none =>
  obtain⟨m,s',h1,h2,h3,h4,h5,_⟩:=zT.over0 (S:=S) (st:=st) (a:=a) (tx:=tx) (tx':=tx) (td:=td) (td':=td) (g:=g) (c:=c) (e:=(zJv,n)) (Nat.le_succ_of_le hc.1)
  exact⟨_,zNA ha q,m,s',h1,h2,h3,h4,h5,fun x hx=>nomatch hx⟩
 | some v =>
  have hvl:=hv _ (zO5 q)
  have h1:=zNJ (S:=S) (st:=st) (a:=a) (us:=usD c.2) (k:=(c.1:Int)) (tx:=tx) (td:=td) (en:=.non) (g:=g) ha q hvl hx (by unfold usD;rw[List.length_map];have:=hc.1;have:=hc.2;omega)
  rw[zQd] at h1
  refine⟨_,h1,?_⟩
  have al:=zMG c.2 n
  exact⟨0,_,by simp,Nat.le_refl _,Go.nil _,⟨[],by rw[List.append_nil]⟩,Nat.le_succ_of_le hc.1,fun y hy=>by cases hy;exact⟨hc.1,by show (zFo c.2 n).length+c.1 <= c.2.length+c.1+1;omega,hvl⟩⟩
noncomputable abbrev zCh (S:M.S) (st:D) (a:Nat) (ans:List (T×T)) (n:Nat) (p:Tr) (i:D):Prop:=∀ (tx td:List D) (g:M.S) (c:Ct),I0 c->tx.length+60 * n <= 3000->td.length+60 * n <= 3000->zT S st a tx td g (Wk S st a (usD c.2) (c.1:Int) tx (td++[ptD i p.d]) .non g) c (ev ans st n p i c) 1 0 0
theorem zJJ {n N:Nat}{i:D}{tx td:List D} (hN:N <= 50) (hx:tx.length+60 * (n+1) <= 3000) (hd:td.length+60 * (n+1) <= 3000):∀ (ts:List Tr) (xs:List T) (c:Ct) (g:M.S),(∀ p∈ts,zCh S st a ans n p i)->I0 c->xs.length+ts.length=N->(∀ x∈xs,x.length <= 900) ->
  zT S st a tx td g (Wk S st a (usD c.2) (c.1:Int) (tx++xs.map .str) (td++[.tup [.str Z2,.int (N:Int)]]++(ts.map Tr.d).reverse.map (ptD i)) .non g) c (Qz (evs (fun a c=>ev ans st n a i c) ts xs.flatten c)) 0 1 0
 | [],xs,c,g,_,hc,hn,hl=>by
  have hn':xs.length=N:=by simpa using hn
  subst hn'
  have hf:=zMS xs hl
  have et:td++[D.tup [.str Z2,.int (xs.length:Int)]]++(([]:List Tr).map Tr.d).reverse.map (ptD i)=td++[D.tup [.str Z2,.int (xs.length:Int)]]:=by simp
  rw[et]
  show zT S st a tx td g _ c (if 900 < xs.flatten.length then (.en (zv,qW),c) else (.tx xs.flatten,c)) 0 1 0
  by_cases h9:900 < xs.flatten.length
  ·rw[if_pos h9]
   have hj:=zLB (S:=S) (st:=st) (a:=a) (us:=usD c.2) (k:=(c.1:Int)) (tx:=tx) (td:=td) (g:=g) xs (by omega) h9 (by omega)
   exact zT.step (Go.one (zI3 hj)) (zT.over (Nat.le_succ_of_le hc.1))
  ·rw[if_neg h9]
   have hj:=zMY (S:=S) (st:=st) (a:=a) (us:=usD c.2) (k:=(c.1:Int)) (tx:=tx) (td:=td) (g:=g) xs (by omega) (by omega) (by omega)
   exact zT.step (Go.one (zI3 hj)) (zT.here hc (by omega))
 | p::ts,xs,c,g,hr,hc,hn,hl=>by
  rw[List.length_cons] at hn
  rw[zNc]
  have et:td++[D.tup [.str Z2,.int (N:Int)]]++((p::ts).map Tr.d).reverse.map (ptD i)=(td++[D.tup [.str Z2,.int (N:Int)]]++(ts.map Tr.d).reverse.map (ptD i))++[ptD i p.d]:=by simp
  rw[et]
  refine zT.weak (zT.andO hc (hr p List.mem_cons_self (tx++xs.map .str) (td++[D.tup [.str Z2,.int (N:Int)]]++(ts.map Tr.d).reverse.map (ptD i)) g c hc (by simp;omega) (by simp;omega)) fun x h hx0 hc0 hxl=>?_) (show 0+1 <= 1+1 by omega)
  have ih:=zJJ hN hx hd ts (xs++[x]) (ev ans st n p i c).2 (g++h) (fun q hq=>hr q (List.mem_cons_of_mem _ hq)) hc0 (by simp;omega) (fun y hy=>by
   rcases List.mem_append.mp hy with h | h
   ·exact hl y h
   ·rw[List.mem_singleton.mp h];exact hxl)
  have ef:(xs++[x]).flatten=xs.flatten++x:=by simp
  rw[ef,List.map_append,<- List.append_assoc] at ih
  exact ih
theorem zJS {n l0:Nat}{b:Tr}{tx td:List D}{ws:List T} (hx:tx.length+60 * (n+1) <= 3000) (hd:td.length+60 * (n+1) <= 3000) (hw:∀ w∈ws,zCh S st a ans n b (.str w)):∀ (d j:Nat) (t:T) (c:Ct) (g:M.S),ws.length - j=d->g[l0]? = some (.lst (ws.map .str))->I0 c->t.length <= 900 ->
  zT S st a tx td g (Wk S st a (usD c.2) (c.1:Int) (tx++[.str t]) (td++Zb b.d (S.length+4+l0) ws j) .non g) c (evw (fun w c=>ev ans st n b (.str w) c) (ws.drop j) t c) 0 0 0
 | 0,j,t,c,g,hj,hg,hc,ht=>by
  have e1:Zb b.d (S.length+4+l0) ws j=[]:=by unfold Zb;rw[if_neg (by omega)]
  have e2:ws.drop j=[]:=List.drop_of_length_le (by omega)
  rw[e1,e2,List.append_nil]
  exact zT.here0 hc ht
 | d+1,j,t,c,g,hj,hg,hc,ht=>by
  have hjl:j < ws.length:=by omega
  have e1:td++Zb b.d (S.length+4+l0) ws j=(td++[rdD b.d (S.length+4+l0) ((j:Int)+1)])++[ptD (.str (ws.getD j [])) b.d]:=by unfold Zb;rw[if_pos hjl];simp
  have e2:ws.drop j=ws.getD j []::ws.drop (j+1):=by
   rw[List.drop_eq_getElem_cons hjl,List.getD_eq_getElem?_getD,List.getElem?_eq_getElem hjl]
   rfl
  have hmem:ws.getD j []∈ws:=by
   rw[List.getD_eq_getElem?_getD,List.getElem?_eq_getElem hjl]
   exact List.getElem_mem hjl
  rw[e1,e2,zI7]
  refine zT.weak (zT.andO hc (hw _ hmem (tx++[.str t]) (td++[rdD b.d (S.length+4+l0) ((j:Int)+1)]) g c hc (by simp;omega) (by simp;omega)) (hi:=1) fun x h hx0 hc0 hxl=>?_) (show 0+1 <= 1+0 by omega)
  have hg':=zBr hg h
  have hrd:=zMT (S:=S) (st:=st) (a:=a) (us:=usD (ev ans st n b (.str (ws.getD j [])) c).2.2) (k:=((ev ans st n b (.str (ws.getD j [])) c).2.1:Int)) (tx:=tx) (td:=td) (g:=g++h) b.d hg' (j+1) t x ht hxl (by omega) (by omega)
  have hrd':=hrd
  rw[show (((j+1:Nat):Int))=(j:Int)+1 by omega] at hrd'
  have go:=Go.one (zNP hrd')
  by_cases h9:900 < (t++x).length
  ·rw[if_pos h9] at go ⊢
   exact zT.step go (zT.over0 (Nat.le_succ_of_le hc0.1))
  ·rw[if_neg h9] at go ⊢
   exact zT.step go (zJS hx hd hw d (j+1) (t++x) _ (g++h) (by omega) hg' hc0 (by omega))
end
section
variable {S:M.S}{st:D}{a:Nat}{ans:List (T×T)}
theorem zMP {t:T}:∀ p∈zW t,p.length <= t.length:=fun p hp=>by
 have hl:(yN t).length=t.length:=by simp[yN]
 have:=zBa 32 (yN t) p (List.mem_filter.mp hp).1
 omega
theorem zAN (ha:S[a]? = some (.dct (ans.map pd))) (hv:∀ q∈ans,q.2.length <= 900) (hst:(zFp st).length <= 900):∀ (n:Nat) (t:Tr) (b:Bool) (i:D),QF st n b t->(b=true->∃ x,i=.str x/\x.length <= 900)->zCh S st a ans n t i
 | 0,t,b,i,hg,_=>hg.elim
 | n+1,t,b,i,hg,hi=>fun tx td g c hc hx hd=>by
  by_cases h5:500 <= c.1
  ·have hb:=zKJ (S:=S) (st:=st) (a:=a) (us:=usD c.2) (k:=(c.1:Int)) (tx:=tx) (td:=td) (g:=g) t.d i (by omega)
   have e:ev ans st (n+1) t i c=(.en (zv,Z3),(c.1+1,c.2)):=by rw[ev.eq_def];dsimp only;rw[if_pos h5]
   rw[e]
   refine zT.pre (c:=c) (lo:=0) (hi:=0) (e:=0) (Go.one (Q9 hb)) ?_ (by omega) (by omega)
   have hc1:=hc.1
   exact zT.over0 (c:=(c.1+1,c.2)) (by show c.1+1 <= 501;omega)
  have hk:(c.1:Int) <= 499:=by omega
  have hc1:I0 (c.1+1,c.2):=⟨by show c.1+1 <= 500;omega,Nat.le_succ_of_le hc.2⟩
  have ec:((c.1:Int)+1)=((c.1+1:Nat):Int):=by omega
  have bare:∀ {w x:T}{r:List D},t.d=.tup (.str w::r)->(w=[116,101,120,116]\/w=[108,105,110,101]\/w=[105,116]\/w=[115,116,101,109])->(∀ k,je [.ref S.length,t.d,i] (Wk S st a (usD c.2) k tx td .non g)=.ok (.str x) (Wk S st a (usD c.2) k tx td .non g))->x.length <= 900->ev ans st (n+1) t i c=(.tx x,(c.1+1,c.2))->zT S st a tx td g (Wk S st a (usD c.2) (c.1:Int) tx (td++[ptD i t.d]) .non g) c (ev ans st (n+1) t i c) 1 0 0:=fun {w x r} e1 e2 e3 e4 e5=>by
   have hb:=zKB (S:=S) (st:=st) (a:=a) (us:=usD c.2) (k:=(c.1:Int)) (tx:=tx) (td:=td) (g:=g) e1 e2 e3 (by omega) (by omega) hk
   rw[if_neg (by omega),ec] at hb
   rw[e5]
   exact zT.pre (c:=c) (lo:=0) (hi:=0) (Go.one (Q9 hb)) (zT.here0 (c:=(c.1+1,c.2)) hc1 e4) (by omega) (by omega)
  cases t with
  | txt x=>exact bare rfl (.inl rfl) (fun k=>zOh x i) hg (by rw[ev,if_neg h5])
  | line=>exact bare rfl (.inr (.inl rfl)) (fun k=>zNW i) (by decide) (by rw[ev,if_neg h5])
  | it =>
   obtain⟨x,rfl,hxl⟩:=hi hg
   exact bare rfl (.inr (.inr (.inl rfl))) (fun k=>zQz _) hxl (by rw[ev,if_neg h5];rfl)
  | stem =>
   obtain⟨x,rfl⟩:=hg
   exact bare rfl (.inr (.inr (.inr rfl))) (fun k=>zMX _) hst (by rw[ev,if_neg h5];rfl)
  | thing m =>
   obtain⟨s',e1,e2⟩:=zFu (S:=S) (st:=st) (a:=a) ha hv m (c:=(c.1+1,c.2)) hc1 (tx:=tx) (td:=td) (g:=g) (by omega)
   have hb:=zId (S:=S) (st:=st) (a:=a) (us:=usD c.2) (k:=(c.1:Int)) (tx:=tx) (td:=td) (g:=g) (i:=i) (by rw[ec];exact e1) hk
   have e:ev ans st (n+1) (.thing m) i c=zER ans m (c.1+1,c.2):=by rw[ev,if_neg h5]
   rw[e]
   exact zT.pre (c:=c) (lo:=0) (hi:=0) (Go.one (Q9 hb)) e2 (by omega) (by omega)
  | kin m =>
   obtain⟨hm,x,rfl⟩:=hg
   have hst':x.length <= 900:=hst
   obtain⟨s',e1,e2⟩:=zFu (S:=S) (st:=.str x) (a:=a) ha hv (m++[46]++x) (c:=(c.1+1,c.2)) hc1 (tx:=tx) (td:=td) (g:=g) (by omega)
   have hb:=zLP (S:=S) (st:=.str x) (a:=a) (us:=usD c.2) (k:=(c.1:Int)) (tx:=tx) (td:=td) (g:=g) (i:=i) rfl (by omega) hm (by rw[ec];exact e1) hk
   have e:ev ans (.str x) (n+1) (.kin m) i c=zER ans (m++[46]++x) (c.1+1,c.2):=by rw[ev,if_neg h5];rfl
   rw[e]
   exact zT.pre (c:=c) (lo:=0) (hi:=0) (Go.one (Q9 hb)) e2 (by omega) (by omega)
  | join ts =>
   obtain⟨h1,h2,h3⟩:=hg
   have hin:=zJp (S:=S) (st:=st) (a:=a) (us:=usD c.2) (k:=(c.1:Int)+1) (tx:=tx) (td:=td) (en:=.non) (g:=g) i (ts.map Tr.d) (by rw[List.length_map];omega) (by rw[List.length_map];exact h1)
   have hb:=zBO (S:=S) (st:=st) (a:=a) (us:=usD c.2) (k:=(c.1:Int)) (tx:=tx) (td:=td) (g:=g) (i:=i) (Tr.d_join ts) (.inr (.inl rfl)) (by rw[Tr.d_join];exact hin) hk
   rw[ec,List.length_map] at hb
   have e:ev ans st (n+1) (.join ts) i c=Qz (evs (fun a c=>ev ans st n a i c) ts [] (c.1+1,c.2)):=by rw[ev,if_neg h5]
   rw[e]
   have hr:=zJJ (S:=S) (st:=st) (a:=a) (ans:=ans) (n:=n) (N:=ts.length) (i:=i) (tx:=tx) (td:=td) h2 hx hd ts [] (c.1+1,c.2) g (fun p hp=>zAN ha hv hst n p b i (h3 p hp) hi) hc1 (by simp) (by simp)
   rw[List.map_nil,List.append_nil] at hr
   exact zT.pre (c:=c) (lo:=0) (hi:=1) (Go.one (Q9 hb)) hr (by omega) (by omega)
  | ife p q x y =>
   obtain⟨g1,g2,g3,g4⟩:=hg
   have hin:=zMy (S:=S) (st:=st) (a:=a) (us:=usD c.2) (k:=(c.1:Int)+1) (tx:=tx) (td:=td) (en:=.non) (g:=g) i p.d q.d x.d y.d (by omega)
   have hb:=zBO (S:=S) (st:=st) (a:=a) (us:=usD c.2) (k:=(c.1:Int)) (tx:=tx) (td:=td) (g:=g) (i:=i) (show (Tr.ife p q x y).d=.tup (.str tIf::[p.d,q.d,x.d,y.d]) by rw[Tr.d]) (.inr (.inr (.inl rfl))) (by rw[Tr.d];exact hin) hk
   rw[ec] at hb
   have e:ev ans st (n+1) (.ife p q x y) i c=andO (ev ans st n p i (c.1+1,c.2)) fun s c=>andO (ev ans st n q i c) fun t c=>ev ans st n (if s=t then x else y) i c:=by rw[ev,if_neg h5]
   rw[e]
   have et:td++[D.tup [.str tIf,.tup [.str tIf,p.d,q.d,x.d,y.d],i],ptD i q.d,ptD i p.d]=(td++[D.tup [.str tIf,.tup [.str tIf,p.d,q.d,x.d,y.d],i]]++[ptD i q.d])++[ptD i p.d]:=by simp
   rw[et] at hb
   refine zT.pre (c:=c) (lo:=1) (hi:=0) (e:=0) (Go.one (Q9 hb)) ?_ (by omega) (by omega)
   refine zT.andO hc1 (zAN ha hv hst n p b i g1 hi tx _ g (c.1+1,c.2) hc1 (by omega) (by simp;omega)) fun s h hs hc' hsl=>?_
   refine zT.weak (zT.andO (hi:=0) hc' (zAN ha hv hst n q b i g2 hi (tx++[.str s]) _ (g++h) _ hc' (by simp;omega) (by simp;omega)) fun s2 h2 hs2 hc2' hsl2=>?_) (show 0+0 <= 1+0 by omega)
   have hch:=zL8 (S:=S) (st:=st) (a:=a) (us:=usD (ev ans st n q i (ev ans st n p i (c.1+1,c.2)).2).2.2) (k:=((ev ans st n q i (ev ans st n p i (c.1+1,c.2)).2).2.1:Int)) (tx:=tx) (td:=td) (g:=g++h++h2) i p.d q.d x.d y.d s s2 (by omega)
   have ed:(if s=s2 then x.d else y.d)=(if s=s2 then x else y).d:=by split<;>rfl
   rw[ed] at hch
   have gx:QF st n b (if s=s2 then x else y):=by split<;>assumption
   have:=zT.step (Go.one (zR7 hch)) (zAN ha hv hst n (if s=s2 then x else y) b i gx hi tx td (g++h++h2) _ hc2' (by omega) (by omega))
   exact zT.weak this (show 0+(0+1) <= 1+0 by omega)
  | each p q =>
   obtain⟨g1,g2⟩:=hg
   have hin:=zKA (S:=S) (st:=st) (a:=a) (us:=usD c.2) (k:=(c.1:Int)+1) (tx:=tx) (td:=td) (en:=.non) (g:=g) i p.d q.d (by omega)
   have hb:=zBO (S:=S) (st:=st) (a:=a) (us:=usD c.2) (k:=(c.1:Int)) (tx:=tx) (td:=td) (g:=g) (i:=i) (show (Tr.each p q).d=.tup (.str Jc::[p.d,q.d]) by rw[Tr.d]) (.inr (.inr (.inr rfl))) (by rw[Tr.d];exact hin) hk
   rw[ec] at hb
   have e:ev ans st (n+1) (.each p q) i c=andO (ev ans st n p i (c.1+1,c.2)) fun s c=>evw (fun w c=>ev ans st n q (.str w) c) (zW s) [] c:=by rw[ev,if_neg h5]
   rw[e]
   have et:td++[D.tup [.str Jc,q.d],ptD i p.d]=(td++[D.tup [.str Jc,q.d]])++[ptD i p.d]:=by simp
   rw[et] at hb
   refine zT.pre (c:=c) (lo:=1) (hi:=1) (e:=0) (Go.one (Q9 hb)) ?_ (by omega) (by omega)
   refine zT.andO hc1 (zAN ha hv hst n p b i g1 hi tx _ g (c.1+1,c.2) hc1 (by omega) (by simp;omega)) fun s h hs hc' hsl=>?_
   have he:=zOE (S:=S) (st:=st) (a:=a) (us:=usD (ev ans st n p i (c.1+1,c.2)).2.2) (k:=((ev ans st n p i (c.1+1,c.2)).2.1:Int)) (tx:=tx) (td:=td) (g:=g++h) q.d s (by omega) (by omega) (by omega)
   have hw:∀ w∈zW s,zCh S st a ans n q (.str w):=fun w hw=>zAN ha hv hst n q true (.str w) g2 fun _=>⟨w,rfl,by have:=zMP w hw;omega⟩
   have hr:=zJS (S:=S) (st:=st) (a:=a) (ans:=ans) (n:=n) (l0:=(g++h).length) (b:=q) (tx:=tx) (td:=td) (ws:=zW s) hx hd hw (zW s).length 0 [] _ (g++h++[.lst ((zW s).map .str)]) (by omega) (by simp) hc' (by simp)
   obtain⟨m,s',k1,k2,k3,k4,k5⟩:=zT.step (Go.one (zOm he)) hr
   exact⟨m,s',k1,k2,k3,k4.grow,k5⟩
  | one w p =>
   obtain⟨hw,g1⟩:=hg
   have hin:=zLZ (S:=S) (st:=st) (a:=a) (us:=usD c.2) (k:=(c.1:Int)+1) (tx:=tx) (td:=td) (en:=.non) (g:=g) hw i p.d (by omega)
   have hb:=zBO (S:=S) (st:=st) (a:=a) (us:=usD c.2) (k:=(c.1:Int)) (tx:=tx) (td:=td) (g:=g) (i:=i) (show (Tr.one w p).d=.tup (.str w::[p.d]) by rw[Tr.d]) (.inl hw) (by rw[Tr.d];exact hin) hk
   rw[ec] at hb
   have e:ev ans st (n+1) (.one w p) i c=andO (ev ans st n p i (c.1+1,c.2)) fun s c=>zCY ans w s c:=by rw[ev,if_neg h5]
   rw[e]
   have et:td++[D.tup [.str w],ptD i p.d]=(td++[D.tup [.str w]])++[ptD i p.d]:=by simp
   rw[et] at hb
   refine zT.pre (c:=c) (lo:=1) (hi:=1) (e:=1) (Go.one (Q9 hb)) ?_ (by omega) (by omega)
   have hp:=zAN ha hv hst n p b i g1 hi tx (td++[D.tup [.str w]]) g (c.1+1,c.2) hc1 (by omega) (by simp;omega)
   obtain⟨m0,s0,j1,j2,j3,j4,j5,j6⟩:=hp
   refine zT.andO (e:=1) hc1 ⟨m0,s0,j1,j2,j3,j4,j5,j6⟩ fun s h hs hc' hsl=>?_
   generalize (ev ans st n p i (c.1+1,c.2)).2=c' at *
   unfold zCY
   rcases hw with rfl | rfl | hw
   ·rw[if_neg (by decide),if_pos rfl]
    cases hn:zAI s with
    | false =>
     rw[if_neg (by decide)]
     exact zT.slack <| zT.step (Go.one (zFL (.inl rfl) (zK4 (S:=S) (st:=st) (a:=a) (us:=usD c'.2) (k:=(c'.1:Int)) (tx:=tx) (td:=td) (en:=.non) (g:=g++h) (by omega) hn))) (zT.over0 (Nat.le_succ_of_le hc'.1))
    | true =>
     rw[if_pos rfl]
     obtain⟨s1,e1,e2⟩:=zFu (S:=S) (st:=st) (a:=a) ha hv s (c:=c') hc' (tx:=tx) (td:=td) (g:=g++h) (by omega)
     exact zT.step (Go.one (zFL (.inl rfl) (zLd (S:=S) (st:=st) (a:=a) (us:=usD c'.2) (k:=(c'.1:Int)) (tx:=tx) (td:=td) (en:=.non) (g:=g++h) (by omega) hn e1))) e2
   ·rw[if_pos rfl]
    exact zT.slack <| zT.step (Go.one (zFL (.inr (.inl rfl)) (zIi (S:=S) (st:=st) (a:=a) (us:=usD c'.2) (k:=(c'.1:Int)) (tx:=tx) (td:=td) (en:=.non) (g:=g++h) s))) (zT.over0 (Nat.le_succ_of_le hc'.1))
   ·have n1:¬ w=zDt:=by rcases hw with rfl | rfl | rfl | rfl | rfl<;>decide
    have n2:¬ w=tOf:=by rcases hw with rfl | rfl | rfl | rfl | rfl<;>decide
    rw[if_neg n1,if_neg n2]
    have hs1:=zIg (S:=S) (st:=st) (a:=a) (us:=usD c'.2) (k:=(c'.1:Int)) (tx:=tx) (td:=td) (en:=.non) (g:=g++h) (t:=s) hw (by omega) (by omega)
    have go:=Go.one (zFL (.inr (.inr hw)) hs1)
    unfold Qz
    by_cases h9:900 < (y8 w s).length
    ·rw[if_pos h9] at go
     dsimp only
     rw[if_pos h9]
     exact zT.slack (zT.step go (zT.over0 (Nat.le_succ_of_le hc'.1)))
    ·rw[if_neg h9] at go
     dsimp only
     rw[if_neg h9]
     exact zT.slack (zT.step go (zT.here0 hc' (by omega)))
end
section
variable {S:M.S}{st:D}{a:Nat}{us:List (D×D)}{k:Int}{tx td:List D}{en:D}{g:M.S}{ans:List (T×T)}
noncomputable def Fin (S:M.S) (st:D) (a:Nat) (r:(T×T)×List T) (s:M.S):Prop :=
 ∃ us k tx td g,us.map (fun p:D×D=>p.1)=r.2.map D.str/\((s=Wk S st a us k [.str r.1.2] [] .non g/\r.1.1=Qr)\/s=Wk S st a us k tx td (zn r.1) g)
theorem zOs {r:(T×T)×List T}{s:M.S} (h:Fin S st a r s) (n:Nat) (v:Option D):((qc (n+1) q9 yt [some (.ref S.length),v] s).then zHd).out=.ok (zn r.1) s:=by
 have z2:(2:Nat) <= SZ:=by decide
 obtain⟨us,k,tx,td,g,_,⟨rfl,e⟩ | rfl⟩:=h
 ·rw[zO3]
  obtain⟨⟨tag,t⟩,used⟩:=r
  dsimp only at e
  subst e
  simp[wk0,wk2,at0,z2,zn,RS.out]
 ·rw[zMZ]
  simp[wk0,zn,RS.out]
noncomputable def zA2:Out->T×T
 | .tx x=>(Qr,x)
 | .en e=>e
theorem zRC (ha:S[a]? = some (.dct (ans.map pd))) (hv:∀ q∈ans,q.2.length <= 900) (hst:(zFp st).length <= 900) {n:Nat} (hn:n <= 40) {t:Tr} (hg:QF st n false t) :
  ∃ s',ZE [.ref S.length] (Wk S st a [] 0 [] [ptD .non t.d] .non [])=.ok (zn (zA2 (ev ans st n t .non (0,[])).1)) s'/\Fin S st a (zA2 (ev ans st n t .non (0,[])).1,(ev ans st n t .non (0,[])).2.2) s':=by
 obtain⟨m,s',h1,h2,h3,h4,h5,h6⟩:=zAN ha hv hst n t false .non hg (fun h=>nomatch h) [] [] [] (0,[]) ⟨Nat.zero_le _,Nat.le_refl _⟩ (by simp;omega) (by simp;omega)
 generalize ev ans st n t .non (0,[])=r at *
 have f:Fin S st a (zA2 r.1,r.2.2) s':=by
  obtain⟨o,c⟩:=r
  cases o with
  | tx x =>
   obtain⟨h,rfl⟩:=h4
   exact⟨_,_,[],[],_,zJC _,.inl ⟨rfl,rfl⟩⟩
  | en e =>
   obtain⟨h,tx',td',rfl⟩:=h4
   exact⟨_,_,_,_,_,zJC _,.inr rfl⟩
 refine⟨s',?_,f⟩
 show (Zo [some (.ref S.length),none] _).out=_
 rw[zQu]
 have hm:m <= 3000:=by dsimp only at h1;omega
 obtain⟨v',e⟩:=h3 (999999999999 - m+1) none
 have hf:zID=999999999999 - m+1+m:=by unfold zID;omega
 show ((qc zID q9 yt [some (.ref S.length),none] (Wk S st a [] 0 [] ([]++[ptD .non t.d]) .non [])).then zHd).out=_
 rw[hf]
 have e':qc (999999999999 - m+1+m) q9 yt [some (.ref S.length),none] (Wk S st a [] 0 [] ([]++[ptD .non t.d]) .non [])=qc (999999999999 - m+1) q9 yt [some (.ref S.length),v'] s':=e
 rw[e']
 exact zOs f _ _
end
noncomputable def zA6:SM :=
  (zO (zh 3 (zE2 4 7 yS (zD (zC 0) (zD (zC 1) (zD (zC 2) zH)))))
  (zO (zh 4 (jR 4 ZE (zC 3) zH))
  (jn (jS (zD (zC 4) (zD (zS zJq (zD (jT 4 2 (zC 3)) zH)) zH))))))
noncomputable def zNE:F:=fn 5 zA6
noncomputable abbrev Jw:F:=zNE
theorem zLI {S:M.S}{st:D}{a:Nat}{tree:D}{r:(T×T)×List T}{s':M.S} (h:ZE [.ref S.length] (Wk S st a [] 0 [] [ptD .non tree] .non [])=.ok (zn r.1) s') (f:Fin S st a r s') :
  ∃ l g,Jw [tree,st,.ref a] S=.ok (.tup [zn r.1,.ref l]) (S++g)/\(S++g)[l]? = some (.lst (r.2.map D.str)):=by
 have z2:(2:Nat) <= SZ:=by decide
 have hi:=zOJ S tree st a
 obtain⟨us,k,tx,td,g,hk,hs⟩:=f
 obtain⟨tx',td',en,rfl⟩:∃ tx td en,s'=Wk S st a us k tx td en g:=by
  rcases hs with ⟨e,_⟩ | e
  ·exact⟨_,_,_,e⟩
  ·exact⟨_,_,_,e⟩
 refine⟨S.length+4+g.length,.ins 4 [some st,some (.ref a),some (.ref (S.length+1)),some (.int k),some (.ref (S.length+2)),some (.ref (S.length+3)),some en]::.dct us::.lst tx'::.lst td'::(g++[.lst (r.2.map D.str)]),?_,?_⟩
 ·have hl:(Wk S st a us k tx' td' en g).length=S.length+4+g.length:=by simp[Wk];omega
  have e1:(zh 3 (zE2 4 7 yS (zD (zC 0) (zD (zC 1) (zD (zC 2) zH))))) [some tree,some st,some (.ref a),none,none] S=.nx [some tree,some st,some (.ref a),some (.ref S.length),none] (Wk S st a [] 0 [] [ptD .non tree] .non []):=by
   simp only[zh,zE2,zD,zH,zC,List.getElem?_cons_zero,List.getElem?_cons_succ,R.bind_ok,hi,if_true,R.stm_ok,List.set_cons_zero,List.set_cons_succ]
   rfl
  have e2:(zh 4 (jR 4 ZE (zC 3) zH)) [some tree,some st,some (.ref a),some (.ref S.length),none] (Wk S st a [] 0 [] [ptD .non tree] .non [])=.nx [some tree,some st,some (.ref a),some (.ref S.length),some (zn r.1)] (Wk S st a us k tx' td' en g):=by
   simp[wk0,h]
  show (zA6 [some tree,some st,some (.ref a),none,none] S).out=_
  unfold zA6
  show ((((zh 3 _) [some tree,some st,some (.ref a),none,none] S).then _).out)=_
  rw[e1,RS.then_nx]
  show ((((zh 4 _) [some tree,some st,some (.ref a),some (.ref S.length),none] (Wk S st a [] 0 [] [ptD .non tree] .non [])).then _).out)=_
  rw[e2,RS.then_nx]
  have e3:Wk S st a us k tx' td' en g++[.lst (r.2.map D.str)]=S++(.ins 4 [some st,some (.ref a),some (.ref (S.length+1)),some (.int k),some (.ref (S.length+2)),some (.ref (S.length+3)),some en]::.dct us::.lst tx'::.lst td'::(g++[.lst (r.2.map D.str)])):=by simp[Wk]
  rw[<- e3]
  simp[wk0,wk1,hk,hl,z2,RS.out]
 ·rw[List.getElem?_append_right (by omega),show S.length+4+g.length - S.length=g.length+1+1+1+1 by omega]
  simp
theorem zGX {S:M.S}{st:D}{a:Nat}{ans:List (T×T)} (ha:S[a]? = some (.dct (ans.map pd))) (hv:∀ q∈ans,q.2.length <= 900) (hst:(zFp st).length <= 900) {n:Nat} (hn:n <= 40) {t:Tr} (hg:QF st n false t) :
  ∃ l g,Jw [t.d,st,.ref a] S=.ok (.tup [zn (zA2 (ev ans st n t .non (0,[])).1),.ref l]) (S++g)/\(S++g)[l]? = some (.lst ((ev ans st n t .non (0,[])).2.2.map D.str)):=by
 obtain⟨s',h1,h2⟩:=zRC (S:=S) (st:=st) (a:=a) ha hv hst hn hg
 exact zLI (r:=(zA2 (ev ans st n t .non (0,[])).1,(ev ans st n t .non (0,[])).2.2)) h1 h2
noncomputable def Z7:SM :=
  (zh 4 (eOp jO (zC 3) (eC (.int 2))))
noncomputable def QD:SM :=
  (zh 5 (eC (.str [])))
noncomputable def QJ:SM :=
  (ZJ (yG (zC 1)) (jW 6)
  (zO (zh 4 (eOp jO (zC 4) (eC (.int 1))))
  (zO (sIf (jM cGt (zC 4) (eC (.int 500)))
  (jn (jS (zD (eC (.str [102,97,105,108,115])) (zD (eC (.str [116,111,111,32,109,117,99,104])) zH))))
  ql)
  (zO (ZJ (iE (zC 2)) (jW 7)
  (zO (zh 4 (eOp jO (eOp jO (zC 4) (eC (.int 1))) (zS zAd (zD (Zv cEq (eOp zY (zC 7) (eC (.int 0))) (eC (.str [102,105,114,115,116]))) zH))))
  (zO (sIf (jM cGt (zC 4) (eC (.int 500)))
  (jn (jS (zD (eC (.str [102,97,105,108,115])) (zD (eC (.str [116,111,111,32,109,117,99,104])) zH))))
  ql)
  (zh 5 (eOp jO (zC 5) (eOp zY (Zi (zD (zC 0) (zD (eOp zY (zC 7) (eUn zGz (eC (.int 1)))) zH))) (zS zAd (zD (Zv cEq (eOp zY (zC 7) (eC (.int 0))) (eC (.str [116,101,120,116]))) zH))))))))
  (sIf (jM cGt (zS ZC (zD (zC 5) zH)) (eC (.int 900)))
  (jn (jS (zD (eC (.str [102,97,105,108,115])) (zD (eC (.str [116,111,111,32,108,111,110,103])) zH))))
  ql)))))
noncomputable def yO:SM :=
  (ZJ (yG (zC 3)) (jW 6)
  (zh 5 (eUn zEQ (zC 5))))
noncomputable def y1:SM :=
  (jn (jS (zD (eC (.str [116,101,120,116])) (zD (zC 5) zH))))
noncomputable def zCl:SM:=(zO Z7 (zO QD (zO QJ (zO yO y1))))
noncomputable def zFS:F:=fn 8 zCl
noncomputable def Ji:F:=chS zFS
theorem zIp:jc 4 zFS Ji:=zAy _
noncomputable def Tr.few:Tr->Prop
 | .txt t=>t.length <= 20
 | .it=>True
 | .one w .it=>w=Z8
 | _=>False
noncomputable def pvT (w:T):Tr->T
 | .txt t=>t
 | _=>w
noncomputable def yc:Tr->Nat
 | .one _ _=>2
 | _=>1
noncomputable def zAb (w:T):List Tr->Nat->T->Option (Nat×T)
 | [],k,t=>some (k,t)
 | p::ps,k,t=>if 500 < k+yc p then none else zAb w ps (k+yc p) (t++pvT w p)
noncomputable def Jz (w:T) (ps:List Tr):Nat->Nat->T->Out
 | 0,_,t=>.tx t
 | m+1,k,t=>if 500 < k+1 then .en (zv,Z3) else match zAb w ps (k+1) t with
  | none=>.en (zv,Z3)
  | some (k',t')=>if 900 < t'.length then .en (zv,qW) else Jz w ps m k' t'
noncomputable def JQ:Nat->T->T
 | 0,t=>t
 | n+1,t=>JQ n t.reverse
noncomputable def zCf (n:Nat):Out->Out
 | .tx t=>.tx (JQ n t)
 | .en e=>.en e
noncomputable abbrev dIn:SM:=(zO (zh 4 (eOp jO (eOp jO (zC 4) (eC (.int 1))) (zS zAd (zD (Zv cEq (eOp zY (zC 7) (eC (.int 0))) (eC (.str [102,105,114,115,116]))) zH))))
  (zO (sIf (jM cGt (zC 4) (eC (.int 500)))
  (jn (jS (zD (eC (.str [102,97,105,108,115])) (zD (eC (.str [116,111,111,32,109,117,99,104])) zH))))
  ql)
  (zh 5 (eOp jO (zC 5) (eOp zY (Zi (zD (zC 0) (zD (eOp zY (zC 7) (eUn zGz (eC (.int 1)))) zH))) (zS zAd (zD (Zv cEq (eOp zY (zC 7) (eC (.int 0))) (eC (.str [116,101,120,116]))) zH)))))))
noncomputable abbrev zFc:SM:=(zO (zh 4 (eOp jO (zC 4) (eC (.int 1))))
  (zO (sIf (jM cGt (zC 4) (eC (.int 500)))
  (jn (jS (zD (eC (.str [102,97,105,108,115])) (zD (eC (.str [116,111,111,32,109,117,99,104])) zH))))
  ql)
  (zO (ZJ (iE (zC 2)) (jW 7) dIn)
  (sIf (jM cGt (zS ZC (zD (zC 5) zH)) (eC (.int 900)))
  (jn (jS (zD (eC (.str [102,97,105,108,115])) (zD (eC (.str [116,111,111,32,108,111,110,103])) zH))))
  ql))))
theorem zN8:QJ=ZJ (yG (zC 1)) (jW 6) zFc:=rfl
section
variable {S:M.S}{p:Nat}{w:T}{qs:List Tr}
theorem zLs (hp:S[p]? = some (.lst (qs.map Tr.d))) (hw:w.length <= 20) (v1 v3 v6:Option D):∀ (ps:List Tr) (k:Nat) (t:T) (v7:Option D) (g:M.S),(∀ q∈ps,q.few)->t.length+20 * ps.length <= 100000->∃ v7' g',yQ [(p,.lst (qs.map Tr.d))] (yy (jW 7) dIn) (ps.map Tr.d) [some (.str w),v1,some (.ref p),v3,some (.int (k:Int)),some (.str t),v6,v7] (S++g)=match zAb w ps k t with
  | some (k',t')=>.nx [some (.str w),v1,some (.ref p),v3,some (.int (k':Int)),some (.str t'),v6,v7'] (S++g')
  | none=>.rt (zn (zv,Z3)) (S++g')
 | [],k,t,v7,g,_,_=>⟨v7,g,rfl⟩
 | q::ps,k,t,v7,g,hq,hl=>by
  rw[List.length_cons] at hl
  have z2:(2:Nat) <= SZ:=by decide
  have hfew:=hq q List.mem_cons_self
  have stp:∀ s,(eOp jO (eOp jO (zC 4) (eC (.int 1))) (zS zAd (zD (Zv cEq (eOp zY (zC 7) (eC (.int 0))) (eC (.str [102,105,114,115,116]))) zH))) [some (.str w),v1,some (.ref p),v3,some (.int (k:Int)),some (.str t),v6,some q.d] s=.ok (.int ((k+yc q:Nat):Int)) s:=fun s=>by
   cases q with
   | txt x=>simp[Tr.d,at0,yc]
   | it=>simp[Tr.d,at0,yc]
   | one v y =>
    cases y with
    | it =>
     have hv:v=Z8:=hfew
     subst hv
     simp[Tr.d,at0,yc]
     omega
    | _=>exact hfew.elim
   | _=>exact hfew.elim
  have lq:(pvT w q).length <= 20:=by
   cases q with
   | txt x=>exact hfew
   | _=>exact hw
  have z:t.length+(pvT w q).length <= SZ:=by unfold SZ;omega
  have val:∀ s,∃ h,(zh 5 (eOp jO (zC 5) (eOp zY (Zi (zD (zC 0) (zD (eOp zY (zC 7) (eUn zGz (eC (.int 1)))) zH))) (zS zAd (zD (Zv cEq (eOp zY (zC 7) (eC (.int 0))) (eC (.str [116,101,120,116]))) zH))))) [some (.str w),v1,some (.ref p),v3,some (.int ((k+yc q:Nat):Int)),some (.str t),v6,some q.d] s=.nx [some (.str w),v1,some (.ref p),v3,some (.int ((k+yc q:Nat):Int)),some (.str (t++pvT w q)),v6,some q.d] (s++h):=fun s=>by
   have m1:∀ x y:D,atI [x,y] (-1)=some y:=fun _ _=>rfl
   have m2:∀ x:D,atI [x] (-1)=some x:=fun _=>rfl
   cases q with
   | txt x=>exact⟨[.lst [.str w,.str x]],by
     have z':t.length+x.length <= SZ:=z
     simp[Tr.d,at0,at1,m1,z2,pvT,z']⟩
   | it=>exact⟨[.lst [.str w,.str [105,116]]],by
     have z':t.length+w.length <= SZ:=z
     simp[Tr.d,at0,at1,m2,z2,pvT,z']⟩
   | one v y =>
    cases y with
    | it =>
     have hv:v=Z8:=hfew
     subst hv
     exact⟨[.lst [.str w,.tup [.str [105,116]]]],by
      have z':t.length+w.length <= SZ:=z
      simp[Tr.d,at0,at1,m1,z2,pvT,z']⟩
    | _=>exact hfew.elim
   | _=>exact hfew.elim
  rw[List.map_cons,yQ,zAb]
  have e0:yy (jW 7) dIn q.d [some (.str w),v1,some (.ref p),v3,some (.int (k:Int)),some (.str t),v6,v7] (S++g)=dIn [some (.str w),v1,some (.ref p),v3,some (.int (k:Int)),some (.str t),v6,some q.d] (S++g):=rfl
  rw[e0]
  by_cases h5:500 < k+yc q
  ·rw[if_pos h5]
   refine⟨v7,g,?_⟩
   have h5':(500:Int) < ((k+yc q:Nat):Int):=by omega
   generalize ((k+yc q:Nat):Int)=K at *
   have:dIn [some (.str w),v1,some (.ref p),v3,some (.int (k:Int)),some (.str t),v6,some q.d] (S++g)=.rt (zn (zv,Z3)) (S++g):=by
    simp only[dIn,zO,zh,stp,R.stm_ok,List.set_cons_zero,List.set_cons_succ,RS.then_nx,sIf,jM,zC,eC,List.getElem?_cons_zero,List.getElem?_cons_succ,R.bind_ok,cGt,h5',decide_true,if_true,jn,jS,zD,zH,List.length_cons,List.length_nil,z2,RS.then_rt]
    rfl
   rw[this]
  ·rw[if_neg h5]
   obtain⟨h,eh⟩:=val (S++g)
   obtain⟨v7',g',ih⟩:=zLs hp hw v1 v3 v6 ps (k+yc q) (t++pvT w q) (some q.d) (g++h) (fun r hr=>hq r (List.mem_cons_of_mem _ hr)) (by rw[List.length_append];omega)
   refine⟨v7',g',?_⟩
   rw[<- ih]
   have h5':¬ (500:Int) < ((k+yc q:Nat):Int):=by omega
   have hg:zl [(p,.lst (qs.map Tr.d))] (S++(g++h))=true:=by simp[zl,zBr hp (g++h)]
   have:dIn [some (.str w),v1,some (.ref p),v3,some (.int (k:Int)),some (.str t),v6,some q.d] (S++g)=.nx [some (.str w),v1,some (.ref p),v3,some (.int ((k+yc q:Nat):Int)),some (.str (t++pvT w q)),v6,some q.d] (S++(g++h)):=by
    rw[<- List.append_assoc,<- eh]
    generalize ((k+yc q:Nat):Int)=K at *
    have s1:(zh 4 (eOp jO (eOp jO (zC 4) (eC (.int 1))) (zS zAd (zD (Zv cEq (eOp zY (zC 7) (eC (.int 0))) (eC (.str [102,105,114,115,116]))) zH)))) [some (.str w),v1,some (.ref p),v3,some (.int (k:Int)),some (.str t),v6,some q.d] (S++g)=.nx [some (.str w),v1,some (.ref p),v3,some (.int K),some (.str t),v6,some q.d] (S++g):=by
     simp only[zh,stp,R.stm_ok,List.set_cons_zero,List.set_cons_succ]
    show ((zh 4 _ _ _).then (zO _ _))=_
    rw[s1,RS.then_nx,zO]
    simp only[sIf,jM,zC,eC,List.getElem?_cons_zero,List.getElem?_cons_succ,R.bind_ok,cGt,h5',decide_false,R.stm_ok,Bool.false_eq_true,if_false,ql,RS.then_nx]
   rw[this]
   dsimp only
   rw[if_pos hg]
theorem zJD (ah:Nat) (hah:ah <= 100) {v0 v1 v2 v4 v7:Option D}{s:M.S}:∀ (l:List D) (t:T) (v6:Option D),t.length <= 100000->∃ v6',yQ [] (yy (jW 6) (zh 5 (eUn zEQ (zC 5)))) l [v0,v1,v2,some (.int (ah:Int)),v4,some (.str t),v6,v7] s=.nx [v0,v1,v2,some (.int (ah:Int)),v4,some (.str (JQ l.length t)),v6',v7] s
 | [],t,v6,_=>⟨v6,rfl⟩
 | d::l,t,v6,h=>by
  obtain⟨v6',ih⟩:=zJD ah hah l t.reverse (some d) (by rw[List.length_reverse];exact h)
  refine⟨v6',?_⟩
  have z:t.length <= SZ:=by unfold SZ;omega
  have hg:∀ s,zl [] s=true:=fun _=>rfl
  have e:yy (jW 6) (zh 5 (eUn zEQ (zC 5))) d [v0,v1,v2,some (.int (ah:Int)),v4,some (.str t),v6,v7] s=.nx [v0,v1,v2,some (.int (ah:Int)),v4,some (.str t.reverse),some d,v7] s:=by simp[z]
  rw[yQ,e]
  dsimp only
  rw[if_pos (hg _),ih]
  rfl
theorem zIO (w:T) (hw:w.length <= 20):∀ (ps:List Tr) (k:Nat) (t:T) {k':Nat}{t':T},(∀ q∈ps,q.few)->zAb w ps k t=some (k',t')->t'.length <= t.length+20 * ps.length
 | [],k,t,k',t',_,h=>by
  unfold zAb at h
  cases h
  simp
 | q::ps,k,t,k',t',hq,h=>by
  have lq:(pvT w q).length <= 20:=by
   have hfew:=hq q List.mem_cons_self
   cases q with
   | txt x=>exact hfew
   | _=>exact hw
  unfold zAb at h
  split at h
  ·cases h
  ·have:=zIO w hw ps _ _ (fun r hr=>hq r (List.mem_cons_of_mem _ hr)) h
   rw[List.length_append] at this
   rw[List.length_cons]
   omega
theorem zI6 (hp:S[p]? = some (.lst (qs.map Tr.d))) (hw:w.length <= 20) (hq:∀ q∈qs,q.few) (hql:qs.length <= 50) {ah:Nat} (hah:ah <= 100) {v1:Option D}:∀ (l:List D) (k:Nat) (t:T) (v6 v7:Option D) (g:M.S),t.length <= 900->∃ g',((yQ [] (yy (jW 6) zFc) l [some (.str w),v1,some (.ref p),some (.int (ah:Int)),some (.int (k:Int)),some (.str t),v6,v7] (S++g)).then (zO yO y1)).out=.ok (zn (zA2 (zCf ah (Jz w qs l.length k t)))) (S++g')
 | [],k,t,v6,v7,g,ht=>by
  have z2:(2:Nat) <= SZ:=by decide
  refine⟨g,?_⟩
  obtain⟨v6',e⟩:=zJD (v0:=some (.str w)) (v1:=v1) (v2:=some (.ref p)) (v4:=some (.int (k:Int))) (v7:=v7) (s:=S++g) ah hah (qH 0 (ah:Int)) t v6 (by omega)
  have lr:(qH 0 (ah:Int)).length=ah:=by simp[qH]
  rw[lr] at e
  have q1:(ah:Int).natAbs < 4611686018427387904:=by omega
  have hg:∀ s,zl [] s=true:=fun _=>rfl
  have e4:yO [some (.str w),v1,some (.ref p),some (.int (ah:Int)),some (.int (k:Int)),some (.str t),v6,v7] (S++g)=.nx [some (.str w),v1,some (.ref p),some (.int (ah:Int)),some (.int (k:Int)),some (.str (JQ ah t)),v6',v7] (S++g):=by
   simp only[yO,ZJ,yG,zC,List.getElem?_cons_zero,List.getElem?_cons_succ,R.bind_ok,q1,if_true,R.stm_ok,hg,e]
  show ((yO [some (.str w),v1,some (.ref p),some (.int (ah:Int)),some (.int (k:Int)),some (.str t),v6,v7] (S++g)).then y1).out=_
  rw[e4,RS.then_nx]
  simp[y1,z2,zn,zA2,zCf,Jz,RS.out]
 | d::l,k,t,v6,v7,g,ht=>by
  have z2:(2:Nat) <= SZ:=by decide
  rw[yQ]
  have e0:yy (jW 6) zFc d [some (.str w),v1,some (.ref p),some (.int (ah:Int)),some (.int (k:Int)),some (.str t),v6,v7] (S++g)=zFc [some (.str w),v1,some (.ref p),some (.int (ah:Int)),some (.int (k:Int)),some (.str t),some d,v7] (S++g):=rfl
  rw[e0,List.length_cons,Jz]
  have s1:∀ s,(zh 4 (eOp jO (zC 4) (eC (.int 1)))) [some (.str w),v1,some (.ref p),some (.int (ah:Int)),some (.int (k:Int)),some (.str t),some d,v7] s=.nx [some (.str w),v1,some (.ref p),some (.int (ah:Int)),some (.int ((k+1:Nat):Int)),some (.str t),some d,v7] s:=fun s=>rfl
  by_cases h5:500 < k+1
  ·rw[if_pos h5]
   refine⟨g,?_⟩
   have h5':(500:Int) < ((k+1:Nat):Int):=by omega
   have:zFc [some (.str w),v1,some (.ref p),some (.int (ah:Int)),some (.int (k:Int)),some (.str t),some d,v7] (S++g)=.rt (zn (zv,Z3)) (S++g):=by
    show ((zh 4 _ _ _).then (zO _ _))=_
    rw[s1,RS.then_nx,zO]
    simp only[sIf,jM,zC,eC,List.getElem?_cons_zero,List.getElem?_cons_succ,R.bind_ok,cGt,h5',decide_true,R.stm_ok,if_true,jn,jS,zD,zH,List.length_cons,List.length_nil,z2,RS.then_rt]
    rfl
   rw[this]
   rfl
  ·rw[if_neg h5]
   have h5':¬ (500:Int) < ((k+1:Nat):Int):=by omega
   obtain⟨v7',g',ei⟩:=zLs hp hw v1 (some (.int (ah:Int))) (some d) qs (k+1) t v7 g hq (by omega)
   have hgd:zl [(p,.lst (qs.map Tr.d))] (S++g)=true:=by simp[zl,zBr hp g]
   have hp':=zBr hp g
   have sf:(ZJ (iE (zC 2)) (jW 7) dIn) [some (.str w),v1,some (.ref p),some (.int (ah:Int)),some (.int ((k+1:Nat):Int)),some (.str t),some d,v7] (S++g)=match zAb w qs (k+1) t with
     | some (k',t')=>.nx [some (.str w),v1,some (.ref p),some (.int (ah:Int)),some (.int (k':Int)),some (.str t'),some d,v7'] (S++g')
     | none=>.rt (zn (zv,Z3)) (S++g'):=by
    rw[<- ei]
    simp only[ZJ,iE,zC,List.getElem?_cons_zero,List.getElem?_cons_succ,R.bind_ok,itD,hp',R.stm_ok,hgd,if_true]
   have s2:zFc [some (.str w),v1,some (.ref p),some (.int (ah:Int)),some (.int (k:Int)),some (.str t),some d,v7] (S++g)=((ZJ (iE (zC 2)) (jW 7) dIn) [some (.str w),v1,some (.ref p),some (.int (ah:Int)),some (.int ((k+1:Nat):Int)),some (.str t),some d,v7] (S++g)).then (sIf (jM cGt (zS ZC (zD (zC 5) zH)) (eC (.int 900)))
  (jn (jS (zD (eC (.str [102,97,105,108,115])) (zD (eC (.str [116,111,111,32,108,111,110,103])) zH))))
  ql):=by
    show ((zh 4 _ _ _).then (zO _ _))=_
    rw[s1,RS.then_nx]
    generalize ZJ (iE (zC 2)) (jW 7) dIn=E
    simp only[zO,sIf,jM,zC,eC,List.getElem?_cons_zero,List.getElem?_cons_succ,R.bind_ok,cGt,h5',decide_false,R.stm_ok,Bool.false_eq_true,if_false,ql,RS.then_nx]
   rw[s2,sf]
   cases hd:zAb w qs (k+1) t with
   | none=>exact⟨g',rfl⟩
   | some kt =>
    obtain⟨k',t'⟩:=kt
    dsimp only
    have tl:=zIO w hw qs _ _ hq hd
    have zt:t'.length <= SZ:=by unfold SZ;omega
    rw[RS.then_nx]
    by_cases h9:900 < t'.length
    ·rw[if_pos h9]
     have h9':(900:Int) < (t'.length:Int):=by omega
     refine⟨g',?_⟩
     simp[zt,h9',z2,zn,zA2,zCf,RS.out]
    ·rw[if_neg h9]
     have h9':¬ (900:Int) < (t'.length:Int):=by omega
     obtain⟨g2,ih⟩:=zI6 hp hw hq hql hah (v1:=v1) l k' t' (some d) v7' g' (by omega)
     refine⟨g2,?_⟩
     rw[<- ih]
     have hg:∀ s,zl [] s=true:=fun _=>rfl
     simp[zt,h9',hg]
theorem zQb (hp:S[p]? = some (.lst (qs.map Tr.d))) (hw:w.length <= 20) (hq:∀ q∈qs,q.few) (hql:qs.length <= 50) {ah m:Nat} (hah:ah <= 100) (hm:m <= 100000):Ji [.str w,.int (m:Int),.ref p,.int (ah:Int)] S=.ok (zn (zA2 (zCf ah (Jz w qs m (ah+2) [])))) S:=by
 obtain⟨g',e⟩:=zI6 hp hw hq hql hah (v1:=some (.int (m:Int))) (qH 0 (m:Int)) (ah+2) [] none none [] (by simp)
 have lr:(qH 0 (m:Int)).length=m:=by simp[qH]
 rw[lr,List.append_nil] at e
 have q1:(m:Int).natAbs < 4611686018427387904:=by omega
 have hg:∀ s,zl [] s=true:=fun _=>rfl
 refine zA1 (g:=g') ?_ rfl
 rw[<- e]
 show (zO Z7 (zO QD (zO QJ (zO yO y1))) [some (.str w),some (.int (m:Int)),some (.ref p),some (.int (ah:Int)),none,none,none,none] S).out=_
 have e1:Z7 [some (.str w),some (.int (m:Int)),some (.ref p),some (.int (ah:Int)),none,none,none,none] S=.nx [some (.str w),some (.int (m:Int)),some (.ref p),some (.int (ah:Int)),some (.int ((ah+2:Nat):Int)),none,none,none] S:=rfl
 have e2:QD [some (.str w),some (.int (m:Int)),some (.ref p),some (.int (ah:Int)),some (.int ((ah+2:Nat):Int)),none,none,none] S=.nx [some (.str w),some (.int (m:Int)),some (.ref p),some (.int (ah:Int)),some (.int ((ah+2:Nat):Int)),some (.str []),none,none] S:=rfl
 rw[zO,e1,RS.then_nx,zO,e2,RS.then_nx,zO,zN8]
 simp only[ZJ,yG,zC,List.getElem?_cons_zero,List.getElem?_cons_succ,R.bind_ok,q1,if_true,R.stm_ok,hg]
end
noncomputable def J5:SM :=
  (zh 1 (zS zc (zD (zC 0) (zD (eC (.int 0)) zH))))
noncomputable def JC:SM :=
  (zh 2 (eSl (eC (.str [97,98,99,100])) zCJ (JP (eOp jO (eC (.int 1)) (eOp ZB (zC 1) (eC (.int 4)))))))
noncomputable def Q6:SM :=
  (zh 3 (eOp jO (eC (.int 2)) (eOp ZB (eOp Qa (zC 1) (eC (.int 4))) (eC (.int 4)))))
noncomputable def JN:SM :=
  (zh 4 (eOp ZA (Zi (zD (jS (zD (eC (.str [105,116])) zH)) zH)) (zC 3)))
noncomputable def J8:SM :=
  (ZJ (yG (zC 3)) (jW 5)
  (zO (sIf (jM cEq (eOp ZB (zS zc (zD (zC 0) (zD (eOp jO (eC (.int 2)) (zC 5)) zH))) (eC (.int 3))) (eC (.int 1)))
  (zDM (zC 4) (zC 5) (jS (zD (eC (.str [116,101,120,116])) (zD (eOp ZA (eC (.str [120])) (eOp ZB (eOp Qa (zS zc (zD (zC 0) (zD (eOp jO (eC (.int 2)) (zC 5)) zH))) (eC (.int 3))) (eC (.int 10)))) zH))))
  ql)
  (sIf (jM cEq (eOp ZB (zS zc (zD (zC 0) (zD (eOp jO (eC (.int 2)) (zC 5)) zH))) (eC (.int 9))) (eC (.int 2)))
  (zDM (zC 4) (zC 5) (jS (zD (eC (.str [102,105,114,115,116])) (zD (jS (zD (eC (.str [105,116])) zH)) zH))))
  ql)))
noncomputable def JG:SM :=
  (zh 6 (eOp ZB (eOp Qa (zC 1) (eC (.int 16))) (eC (.int 6))))
noncomputable def Qe:SM :=
  (zh 7 (eOp ZB (eOp Qa (zC 1) (eC (.int 96))) (eC (.int 301))))
noncomputable def Zq:SM :=
  (sIf (jM cEq (eOp ZB (zS zc (zD (zC 0) (zD (eC (.int 1)) zH))) (eC (.int 2))) (eC (.int 0)))
  (zh 7 (zS zJr (zD (eC (.int 0)) (zD (eOp jO (eOp zAo (eOp Qa (eOp zAo (eC (.int 498)) (zC 6)) (eOp jO (eC (.int 1)) (zC 3))) (eC (.int 1))) (eOp ZB (eOp Qa (zS zc (zD (zC 0) (zD (eC (.int 1)) zH))) (eC (.int 2))) (eC (.int 3)))) zH))))
  ql)
noncomputable def QY:SM :=
  (zh 7 (zS zG0 (zD (zC 7) (zD (eOp Qa (eC (.int 901)) (eOp jO (zS ZC (zD (zC 2) zH)) (eC (.int 1)))) zH))))
noncomputable def Q4:SM :=
  (zh 8 (jS (zD (eC (.str [101,97,99,104])) (zD (jS (zD (eC (.str [116,101,120,116])) (zD (eM .str Jf (eC (.str [32])) (zD (eOp ZA (Zi (zD (zC 2) zH)) (zC 7)) zH)) zH))) (zD (zS zFK (zD (eOp jO (Zi (zD (eC (.str [106,111,105,110])) zH)) (zC 4)) zH)) zH)))))
noncomputable def Qt:SM :=
  (ZJ (yG (zC 6)) (jW 5)
  (zh 8 (jS (zD (eC (.str [98,97,99,107])) (zD (zC 8) zH)))))
noncomputable def Qx:SM :=
  (zh 9 (eOp jO (eC (.int 2)) (eOp ZB (eOp Qa (zC 1) (eC (.int 30000))) (eC (.int 890)))))
noncomputable def Qv:SM :=
  (zh 10 (eOp jO (eC (.int 898)) (eOp ZB (eOp Qa (zC 1) (eC (.int 7))) (eC (.int 5)))))
noncomputable def Q3:SM :=
  (zh 11 (zS Jw (zD (jS (zD (eC (.str [106,111,105,110])) (zD (jS (zD (eC (.str [116,101,120,116])) (zD (eOp ZA (eC (.str [120])) (zC 9)) zH))) (zD (jS (zD (eC (.str [116,101,120,116])) (zD (eOp ZA (eC (.str [121])) (eOp zAo (zC 10) (zC 9))) zH))) zH)))) (zD (eC .non) (zD zA5 zH)))))
noncomputable def Qw:SM :=
  (sIf (jM cNe (zC 11) (jS (zD (eOp zY (Zi (zD (jS (zD (eC (.str [116,101,120,116])) (zD (eOp jO (eOp ZA (eC (.str [120])) (zC 9)) (eOp ZA (eC (.str [121])) (eOp zAo (zC 10) (zC 9)))) zH))) (zD (jS (zD (eC (.str [102,97,105,108,115])) (zD (eC (.str [116,111,111,32,108,111,110,103])) zH))) zH))) (zS zAd (zD (Zv cGt (zC 10) (eC (.int 900))) zH))) (zD (Zi zH) zH))))
  (jn (eC (.bl false)))
  ql)
noncomputable def Q0:SM :=
  (zh 12 (zS Ji (zD (zC 2) (zD (zC 7) (zD (zC 4) (zD (zC 6) zH))))))
noncomputable def QA:SM :=
  (zh 13 (zS Jw (zD (zC 8) (zD (eC .non) (zD zA5 zH)))))
noncomputable def Q2:SM :=
  (jn (zDF (zS zDP (zD (zC 13) (zD (eC (.ty .tuple)) zH))) (zDF (Zv cEq (zS ZC (zD (zC 13) zH)) (eC (.int 2))) (zDF (Zv cEq (eOp zY (zC 13) (eC (.int 0))) (zC 12)) (Zv cEq (eOp zY (zC 13) (eC (.int 1))) (Zi zH))))))
noncomputable def zJn:SM:=(zO J5 (zO JC (zO Q6 (zO JN (zO J8 (zO JG (zO Qe (zO Zq (zO QY (zO Q4 (zO Qt (zO Qx (zO Qv (zO Q3 (zO Qw (zO Q0 (zO QA Q2)))))))))))))))))
noncomputable def zJx:F:=fn 14 zJn
theorem zD0 (c:Nat):∀ w:T,c∉w->zf c w=[w]
 | [],_=>rfl
 | d::r,h=>by
  have ih:=zD0 c r fun z=>h (List.mem_cons_of_mem _ z)
  have hd:¬ d=c:=fun z=>h (by rw[z];exact List.mem_cons_self)
  unfold zf
  rw[if_neg hd,ih]
theorem zGK (c:Nat) (x:T):∀ w:T,c∉w->zf c (w++c::x)=w::zf c x
 | [],_=>by
  show zf c (c::x)=_
  rw[zf,if_pos rfl]
 | d::r,h=>by
  have ih:=zGK c x r fun z=>h (List.mem_cons_of_mem _ z)
  have hd:¬ d=c:=fun z=>h (by rw[z];exact List.mem_cons_self)
  show zf c (d::(r++c::x))=_
  rw[zf,if_neg hd,ih]
theorem zEp:∀ ws:List T,ws≠[]->(∀ w∈ws,32∉w)->zf 32 (z7 [32] ws)=ws
 | [],h,_=>absurd rfl h
 | [w],_,h=>zD0 32 w (h w List.mem_cons_self)
 | w::v::ws,_,h=>by
  have ih:=zEp (v::ws) (by simp) fun u hu=>h u (List.mem_cons_of_mem _ hu)
  show zf 32 (w++[32]++z7 [32] (v::ws))=_
  rw[List.append_assoc]
  show zf 32 (w++32::z7 [32] (v::ws))=_
  rw[zGK 32 _ w (h w List.mem_cons_self),ih]
theorem zL3:∀ ws:List T,(∀ w∈ws,10∉w)->yN (z7 [32] ws)=z7 [32] ws:=fun ws h=>by
 have h10:10∉z7 [32] ws:=by
  induction ws with
  | nil=>simp[z7]
  | cons w ws ih =>
   have hw:=h w List.mem_cons_self
   have ih:=ih fun u hu=>h u (List.mem_cons_of_mem _ hu)
   cases ws with
   | nil=>exact hw
   | cons v ws =>
    show 10∉w++[32]++z7 [32] (v::ws)
    simp only[List.mem_append,List.mem_singleton]
    rintro ((z | z) | z)
    ·exact hw z
    ·cases z
    ·exact ih z
 unfold yN
 rw[List.map_congr_left (g:=id) fun c hc=>by
  have:¬ c=10:=fun z=>h10 (z ▸ hc)
  simp[this]]
 simp
theorem zEt (ws:List T) (h32:∀ w∈ws,32∉w) (h10:∀ w∈ws,10∉w) (hne:∀ w∈ws,w≠[]):zW (z7 [32] ws)=ws:=by
 unfold zW
 rw[zL3 ws h10]
 cases ws with
 | nil=>rfl
 | cons w ws =>
  rw[zEp (w::ws) (by simp) h32,List.filter_eq_self]
  intro u hu
  exact decide_eq_true (hne u hu)
noncomputable def Z6 (w:T):Prop:=w.length <= 20/\32∉w/\10∉w/\w≠[]
theorem zLK {w:T} (h:Z6 w):zW w=[w]:=by
 have:=zEt [w] (by simpa using h.2.1) (by simpa using h.2.2.1) (by simpa using h.2.2.2)
 exact this
theorem zJs {w:T} (h:Z6 w):y8 Z8 w=w:=by
 unfold y8
 rw[if_neg (by decide),if_pos rfl,zLK h]
 rfl
section
variable {ans:List (T×T)}{st:D}{w:T}{u:List T}
theorem zRM (hw:Z6 w) {q:Tr} (hq:q.few) (n k:Nat):(500 < k+yc q/\∃ k',ev ans st (n+2) q (.str w) (k,u)=(.en (zv,Z3),(k',u)))\/(¬ 500 < k+yc q/\ev ans st (n+2) q (.str w) (k,u)=(.tx (pvT w q),(k+yc q,u))):=by
 by_cases h5:500 <= k
 ·refine .inl ⟨by cases q<;>simp[yc]<;>omega,k+1,?_⟩
  rw[ev.eq_def]
  dsimp only
  rw[if_pos h5]
 cases q with
 | txt x=>exact .inr ⟨by simp[yc];omega,by rw[ev,if_neg h5];rfl⟩
 | it=>exact .inr ⟨by simp[yc];omega,by rw[ev,if_neg h5];rfl⟩
 | one v y =>
  cases y with
  | it =>
   have hv:v=Z8:=hq
   subst hv
   have e:ev ans st (n+2) (.one Z8 .it) (.str w) (k,u)=andO (ev ans st (n+1) .it (.str w) (k+1,u)) fun s c=>zCY ans Z8 s c:=by
    rw[ev.eq_def ans st (n+2)]
    dsimp only
    rw[if_neg h5]
   by_cases h6:500 <= k+1
   ·refine .inl ⟨by simp[yc];omega,k+2,?_⟩
    have e2:ev ans st (n+1) .it (.str w) (k+1,u)=(.en (zv,Z3),(k+1+1,u)):=by
     rw[ev.eq_def]
     dsimp only
     rw[if_pos h6]
    rw[e,e2]
    rfl
   ·refine .inr ⟨by simp[yc];omega,?_⟩
    have e2:ev ans st (n+1) .it (.str w) (k+1,u)=(.tx w,(k+1+1,u)):=by
     rw[ev,if_neg h6]
     rfl
    rw[e,e2]
    show zCY ans Z8 w (k+1+1,u)=_
    unfold zCY
    rw[if_neg (by decide),if_neg (by decide),zJs hw]
    show (if 900 < w.length then _ else _)=_
    have:=hw.1
    rw[if_neg (by omega)]
    rfl
  | _=>exact hq.elim
 | _=>exact hq.elim
theorem zPW (hw:Z6 w) {q:Tr} (hq:q.few):(pvT w q).length <= 20:=by
 cases q with
 | txt x=>exact hq
 | _=>exact hw.1
theorem zI2 (hw:Z6 w) (n:Nat) (t:T):∀ (qs:List Tr) (acc:T) (k:Nat),(∀ q∈qs,q.few)->(zAb w qs k (t++acc)=none/\∃ k',evs (fun a c=>ev ans st (n+2) a (.str w) c) qs acc (k,u)=(.en (zv,Z3),(k',u)))\/∃ k' acc',zAb w qs k (t++acc)=some (k',t++acc')/\evs (fun a c=>ev ans st (n+2) a (.str w) c) qs acc (k,u)=(.tx acc',(k',u))/\acc'.length <= acc.length+20 * qs.length
 | [],acc,k,_=>.inr ⟨k,acc,rfl,rfl,by simp⟩
 | q::qs,acc,k,h=>by
  have hq:=h q List.mem_cons_self
  have hl:=zPW hw hq
  rw[zAb,evs]
  rcases zRM (ans:=ans) (st:=st) (u:=u) hw hq n k with ⟨h5,k',e⟩ | ⟨h5,e⟩
  ·rw[if_pos h5,e]
   exact .inl ⟨rfl,k',rfl⟩
  ·rw[if_neg h5,e,List.append_assoc]
   dsimp only
   rcases zI2 hw n t qs (acc++pvT w q) (k+yc q) fun r hr=>h r (List.mem_cons_of_mem _ hr) with h1 | ⟨k',acc',h1,h2,h3⟩
   ·exact .inl h1
   ·exact .inr ⟨k',acc',h1,h2,by rw[List.length_append] at h3;rw[List.length_cons];omega⟩
theorem zJR (hw:Z6 w) (n:Nat) {qs:List Tr} (hq:∀ q∈qs,q.few) (hl:qs.length <= 40):∀ (m k:Nat) (t:T),(evw (fun x c=>ev ans st (n+3) (.join qs) (.str x) c) (List.replicate m w) t (k,u)).1=Jz w qs m k t/\(evw (fun x c=>ev ans st (n+3) (.join qs) (.str x) c) (List.replicate m w) t (k,u)).2.2=u
 | 0,k,t=>⟨rfl,rfl⟩
 | m+1,k,t=>by
  rw[List.replicate_succ,zI7,Jz]
  by_cases h5:500 <= k
  ·have e:ev ans st (n+3) (.join qs) (.str w) (k,u)=(.en (zv,Z3),(k+1,u)):=by
    rw[ev.eq_def]
    dsimp only
    rw[if_pos h5]
   rw[e,if_pos (by omega)]
   exact⟨rfl,rfl⟩
  ·have e:ev ans st (n+3) (.join qs) (.str w) (k,u)=Qz (evs (fun a c=>ev ans st (n+2) a (.str w) c) qs [] (k+1,u)):=by rw[ev,if_neg h5]
   rw[e,if_neg (by omega)]
   have hd:=zI2 (ans:=ans) (st:=st) (u:=u) hw n t qs [] (k+1) hq
   rw[List.append_nil] at hd
   rcases hd with ⟨h1,k',h2⟩ | ⟨k',acc',h1,h2,h3⟩
   ·rw[h1,h2]
    exact⟨rfl,rfl⟩
   ·rw[h1,h2]
    have h9:¬ 900 < acc'.length:=by simp at h3;omega
    have e3:Qz (Out.tx acc',(k',u))=(.tx acc',(k',u)):=by
     show (if 900 < acc'.length then _ else _)=_
     rw[if_neg h9]
    rw[e3]
    dsimp only[andO]
    by_cases h10:900 < (t++acc').length
    ·rw[if_pos h10,if_pos h10]
     exact⟨rfl,rfl⟩
    ·rw[if_neg h10,if_neg h10]
     exact zJR hw n hq hl m k' (t++acc')
end
noncomputable def bk (t:Tr):Nat->Tr
 | 0=>t
 | n+1=>.one zCZ (bk t n)
theorem zHy:∀ (n:Nat) (t:T),JQ n t.reverse=(JQ n t).reverse
 | 0,t=>rfl
 | n+1,t=>zHy n t.reverse
theorem zHT:∀ (n:Nat) (t:T),(JQ n t).length=t.length
 | 0,t=>rfl
 | n+1,t=>by rw[JQ,zHT,List.length_reverse]
theorem zI0 {ans:List (T×T)}{st i:D}{t:Tr}{u:List T}{n:Nat}:∀ (ah k:Nat),k+ah <= 499->(∀ x c,ev ans st n t i (k+ah,u)=(.tx x,c)->x.length <= 900)->ev ans st (n+ah) (bk t ah) i (k,u)=(zCf ah (ev ans st n t i (k+ah,u)).1,(ev ans st n t i (k+ah,u)).2)
 | 0,k,_,_=>by
  show ev ans st n t i (k,u)=(zCf 0 (ev ans st n t i (k,u)).1,(ev ans st n t i (k,u)).2)
  cases ev ans st n t i (k,u) with
  | mk o c=>cases o<;>rfl
 | ah+1,k,hk,hx=>by
  have e0:k+(ah+1)=k+1+ah:=by omega
  rw[e0] at hx ⊢
  have ih:=zI0 ah (k+1) (by omega) hx
  have e1:ev ans st (n+(ah+1)) (bk t (ah+1)) i (k,u)=andO (ev ans st (n+ah) (bk t ah) i (k+1,u)) fun s c=>zCY ans zCZ s c:=by
   show ev ans st (n+ah+1) (.one zCZ (bk t ah)) i (k,u)=_
   rw[ev.eq_def ans st (n+ah+1)]
   dsimp only
   rw[if_neg (by omega)]
  rw[e1,ih]
  cases h:ev ans st n t i (k+1+ah,u) with
  | mk o c =>
   cases o with
   | en e=>rfl
   | tx x =>
    have hl:=hx x c h
    show zCY ans zCZ (JQ ah x) c=(.tx (JQ (ah+1) x),c)
    unfold zCY
    have e2:y8 zCZ (JQ ah x)=JQ (ah+1) x:=by
     unfold y8
     rw[if_pos rfl,JQ,zHy]
    rw[if_neg (by decide),if_neg (by decide),e2]
    show (if 900 < (JQ (ah+1) x).length then _ else _)=_
    rw[if_neg (by rw[zHT];omega)]
theorem zOq {ans:List (T×T)}{st i:D}{w:T}{u:List T} (hw:Z6 w) {qs:List Tr} (hq:∀ q∈qs,q.few) (hl:qs.length <= 40) (n m k:Nat) (hk:k <= 400):(ev ans st (n+4) (.each (.txt (z7 [32] (List.replicate m w))) (.join qs)) i (k,u)).1=Jz w qs m (k+2) []/\(ev ans st (n+4) (.each (.txt (z7 [32] (List.replicate m w))) (.join qs)) i (k,u)).2.2=u:=by
 have e1:ev ans st (n+4) (.each (.txt (z7 [32] (List.replicate m w))) (.join qs)) i (k,u)=andO (ev ans st (n+3) (.txt (z7 [32] (List.replicate m w))) i (k+1,u)) fun s c=>evw (fun w c=>ev ans st (n+3) (.join qs) (.str w) c) (zW s) [] c:=by
  rw[ev.eq_def ans st (n+4)]
  dsimp only
  rw[if_neg (by omega)]
 have e2:ev ans st (n+3) (.txt (z7 [32] (List.replicate m w))) i (k+1,u)=(.tx (z7 [32] (List.replicate m w)),(k+2,u)):=by
  rw[ev.eq_def ans st (n+3)]
  dsimp only
  rw[if_neg (by omega)]
 have e3:zW (z7 [32] (List.replicate m w))=List.replicate m w:=zEt _ (fun v hv=>by rw[List.eq_of_mem_replicate hv];exact hw.2.1) (fun v hv=>by rw[List.eq_of_mem_replicate hv];exact hw.2.2.1) (fun v hv=>by rw[List.eq_of_mem_replicate hv];exact hw.2.2.2)
 rw[e1,e2]
 dsimp only[andO]
 rw[e3]
 exact zJR hw n hq hl m (k+2) []
noncomputable abbrev R0 (ns:List Int):D:=.ro (ns.map .int)
theorem zPd (j:Nat) (hj:j < 4):Z6 (([97,98,99,100]:T).take (1+j)):=by
 have:j=0\/j=1\/j=2\/j=3:=by omega
 rcases this with rfl | rfl | rfl | rfl<;>exact⟨by decide,by decide,by decide,by decide⟩
section
variable {ns:List Int}
noncomputable abbrev zFf:SM:=(zO (sIf (jM cEq (eOp ZB (zS zc (zD (zC 0) (zD (eOp jO (eC (.int 2)) (zC 5)) zH))) (eC (.int 3))) (eC (.int 1)))
  (zDM (zC 4) (zC 5) (jS (zD (eC (.str [116,101,120,116])) (zD (eOp ZA (eC (.str [120])) (eOp ZB (eOp Qa (zS zc (zD (zC 0) (zD (eOp jO (eC (.int 2)) (zC 5)) zH))) (eC (.int 3))) (eC (.int 10)))) zH))))
  ql)
  (sIf (jM cEq (eOp ZB (zS zc (zD (zC 0) (zD (eOp jO (eC (.int 2)) (zC 5)) zH))) (eC (.int 9))) (eC (.int 2)))
  (zDM (zC 4) (zC 5) (jS (zD (eC (.str [102,105,114,115,116])) (zD (jS (zD (eC (.str [105,116])) zH)) zH))))
  ql))
theorem zRv:J8=ZJ (yG (zC 3)) (jW 5) zFf:=rfl
theorem zMJ {o0:O}{c:Int}{w:T}{qs:List Tr} (hq:∀ q∈qs,q.few) {v3 v5:Option D}{j:Nat} (hj:j < qs.length):∃ qs':List Tr,qs'.length=qs.length/\(∀ q∈qs',q.few)/\yy (jW 5) zFf (.int (j:Int)) [some (R0 ns),some (.int c),some (.str w),v3,some (.ref 1),v5,none,none,none,none,none,none,none,none] [o0,.lst (qs.map Tr.d)]=.nx [some (R0 ns),some (.int c),some (.str w),v3,some (.ref 1),some (.int (j:Int)),none,none,none,none,none,none,none,none] [o0,.lst (qs'.map Tr.d)]:=by
 have hc:=fun s=>zF4 ns (2+j) s
 rw[show ((2+j:Nat):Int)=2+(j:Int) by omega] at hc
 generalize QW ns (2+j)=v at *
 have z2:(2:Nat) <= SZ:=by decide
 have z1:(1:Nat) <= SZ:=by decide
 have hix:∀ l:List D,l.length=qs.length->ixN l.length (j:Int)=some j:=fun l hl=>by
  unfold ixN
  rw[if_pos (by omega),if_pos (by omega),Int.toNat_natCast]
 have few_set:∀ (qs:List Tr) (q:Tr),(∀ q∈qs,q.few)->q.few->∀ r∈qs.set j q,r.few:=fun qs q h hq r hr=>by
  rcases List.mem_or_eq_of_mem_set hr with h' | h'
  ·exact h r h'
  ·rw[h'];exact hq
 have a0:=Int.emod_nonneg (v / 3) (show (10:Int)≠0 by decide)
 have a1:=Int.emod_lt_of_pos (v / 3) (show (0:Int) < 10 by decide)
 have fx:(Tr.txt (List.replicate (v / 3 % 10).toNat ([120]:T)).flatten).few:=by
  show (List.replicate (v / 3 % 10).toNat ([120]:T)).flatten.length <= 20
  simp
  omega
 have ok:0 <= v / 3 % 10/\(v / 3 % 10).natAbs <= 1000000/\(1:Nat) * (v / 3 % 10).natAbs <= 1000000:=by omega
 have first:∃ qs1:List Tr,qs1.length=qs.length/\(∀ q∈qs1,q.few)/\(sIf (jM cEq (eOp ZB (zS zc (zD (zC 0) (zD (eOp jO (eC (.int 2)) (zC 5)) zH))) (eC (.int 3))) (eC (.int 1)))
  (zDM (zC 4) (zC 5) (jS (zD (eC (.str [116,101,120,116])) (zD (eOp ZA (eC (.str [120])) (eOp ZB (eOp Qa (zS zc (zD (zC 0) (zD (eOp jO (eC (.int 2)) (zC 5)) zH))) (eC (.int 3))) (eC (.int 10)))) zH))))
  ql) [some (R0 ns),some (.int c),some (.str w),v3,some (.ref 1),some (.int (j:Int)),none,none,none,none,none,none,none,none] [o0,.lst (qs.map Tr.d)]=.nx [some (R0 ns),some (.int c),some (.str w),v3,some (.ref 1),some (.int (j:Int)),none,none,none,none,none,none,none,none] [o0,.lst (qs1.map Tr.d)]:=by
  by_cases h:v % 3=1
  ·refine⟨qs.set j (.txt (List.replicate (v / 3 % 10).toNat ([120]:T)).flatten),by simp,few_set qs _ hq fx,?_⟩
   have hix':=hix (qs.map Tr.d) (by simp)
   rw[List.length_map] at hix'
   rw[List.map_set]
   simp[hc,h,z2,ok,hix',Tr.d]
  ·exact⟨qs,rfl,hq,by simp[hc,h]⟩
 obtain⟨qs1,l1,q1,e1⟩:=first
 have hix1:=hix (qs1.map Tr.d) (by simp[l1])
 rw[List.length_map] at hix1
 show ∃ qs':List Tr,_/\_/\((sIf _ _ _ [some (R0 ns),some (.int c),some (.str w),v3,some (.ref 1),some (.int (j:Int)),none,none,none,none,none,none,none,none] [o0,.lst (qs.map Tr.d)]).then _)=_
 rw[e1,RS.then_nx]
 by_cases h:v % 9=2
 ·refine⟨qs1.set j (.one Z8 .it),by simp[l1],few_set qs1 _ q1 rfl,?_⟩
  rw[List.map_set]
  simp[hc,h,z1,z2,hix1,Tr.d]
 ·exact⟨qs1,l1,q1,by simp[hc,h]⟩
end
section
variable {ns:List Int}
theorem zQJ {ans:List (T×T)}{st i:D} (x y:T) (n:Nat):ev ans st (n+2) (.join [.txt x,.txt y]) i (0,[])=Qz (.tx (x++y),(3,[])):=by
 have e1:ev ans st (n+2) (.join [.txt x,.txt y]) i (0,[])=Qz (evs (fun a c=>ev ans st (n+1) a i c) [.txt x,.txt y] [] (1,[])):=by
  rw[ev.eq_def ans st (n+2)]
  dsimp only
  rw[if_neg (by decide)]
 have e2:∀ z k,k <= 400->ev ans st (n+1) (.txt z) i (k,[])=(.tx z,(k+1,[])):=fun z k hk=>by
  rw[ev.eq_def ans st (n+1)]
  dsimp only
  rw[if_neg (by omega)]
 rw[e1,evs,e2 x 1 (by decide)]
 dsimp only
 rw[evs,e2 y 2 (by decide)]
 rfl
theorem zND {st:D}{q:Tr} (h:q.few) (n:Nat):QF st (n+2) true q:=by
 cases q with
 | txt x=>exact Nat.le_trans (show x.length <= 20 from h) (by decide)
 | it=>rfl
 | one w y =>
  cases y with
  | it=>exact⟨.inr (.inr (.inr (.inl h))),rfl⟩
  | _=>exact h.elim
 | _=>exact h.elim
theorem zKd {st:D}{qs:List Tr} (h:∀ q∈qs,q.few) (h1:1 <= qs.length) (h2:qs.length <= 40) {x:T} (hx:x.length <= 900):QF st 4 false (.each (.txt x) (.join qs)) :=
 ⟨hx,h1,Nat.le_trans h2 (by decide),fun q hq=>zND (h q hq) 0⟩
theorem zJO {st:D}{t:Tr}{n:Nat} (h:QF st n false t):∀ ah,QF st (n+ah) false (bk t ah)
 | 0=>h
 | ah+1=>⟨.inr (.inr (.inl rfl)),zJO h ah⟩
end
section
variable {ns:List Int}
theorem zPq (ns:List Int):∃ (c:Nat) (w:T) (z:Nat) (o0:O),Z6 w/\w.length <= 4/\2 <= z/\z <= 5/\QW ns 0=(c:Int)/\∀ r,(J5 [some (R0 ns),none,none,none,none,none,none,none,none,none,none,none,none,none] []).then (zO JC (zO Q6 (zO JN r)))=r [some (R0 ns),some (.int (c:Int)),some (.str w),some (.int (z:Int)),some (.ref 1),none,none,none,none,none,none,none,none,none] [o0,.lst ((List.replicate z Tr.it).map Tr.d)]:=by
 have hc:=zMV ns 0
 obtain⟨c,ec⟩:∃ c:Nat,QW ns 0=(c:Int):=⟨(QW ns 0).toNat,by omega⟩
 have ca0:∀ s,zc [R0 ns,.int 0] s=.ok (.int (c:Int)) s:=fun s=>by rw[<- ec];exact zF4 ns 0 s
 refine⟨c,([97,98,99,100]:T).take (1+c % 4),2+c / 4 % 4,.lst [Tr.it.d],zPd (c % 4) (by omega),by rw[List.length_take];exact Nat.min_le_right _ _,by omega,by omega,ec,fun r=>?_⟩
 have cu:cut ([97,98,99,100]:T) none (some (1+(c:Int) % 4))=([97,98,99,100]:T).take (1+c % 4):=by
  rw[zLN _ (by omega),show (1+(c:Int) % 4).toNat=1+c % 4 by omega]
 have z4:(4:Nat) <= SZ:=by decide
 have z1:(1:Nat) <= SZ:=by decide
 have e1:J5 [some (R0 ns),none,none,none,none,none,none,none,none,none,none,none,none,none] []=.nx [some (R0 ns),some (.int (c:Int)),none,none,none,none,none,none,none,none,none,none,none,none] []:=by
  simp only[J5,zh,zS,zD,zH,zC,eC,List.getElem?_cons_zero,R.bind_ok,ca0,R.stm_ok,List.set_cons_zero,List.set_cons_succ]
 rw[e1,RS.then_nx]
 generalize ([97,98,99,100]:T).take (1+c % 4)=w at *
 have e2:JC [some (R0 ns),some (.int (c:Int)),none,none,none,none,none,none,none,none,none,none,none,none] []=.nx [some (R0 ns),some (.int (c:Int)),some (.str w),none,none,none,none,none,none,none,none,none,none,none] []:=by
  simp[JC,cu,z4]
 have ez:2+(c:Int) / 4 % 4=((2+c / 4 % 4:Nat):Int):=by omega
 have e3:Q6 [some (R0 ns),some (.int (c:Int)),some (.str w),none,none,none,none,none,none,none,none,none,none,none] []=.nx [some (R0 ns),some (.int (c:Int)),some (.str w),some (.int ((2+c / 4 % 4:Nat):Int)),none,none,none,none,none,none,none,none,none,none] []:=by
  rw[<- ez]
  simp[Q6]
 have hz:2+c / 4 % 4 <= 5:=by omega
 generalize 2+c / 4 % 4=z at *
 have e4:JN [some (R0 ns),some (.int (c:Int)),some (.str w),some (.int (z:Int)),none,none,none,none,none,none,none,none,none,none] []=.nx [some (R0 ns),some (.int (c:Int)),some (.str w),some (.int (z:Int)),some (.ref 1),none,none,none,none,none,none,none,none,none] [.lst [Tr.it.d],.lst ((List.replicate z Tr.it).map Tr.d)]:=by
  have ok:(z:Int).natAbs <= 1000/\1 * (z:Int).natAbs <= 1000000:=by omega
  have er:(List.replicate z [D.tup [.str [105,116]]]).flatten=(List.replicate z Tr.it).map Tr.d:=by
   rw[List.map_replicate]
   induction z with
   | zero=>rfl
   | succ z _=>simp[List.replicate_succ,Tr.d]
  simp only[JN,zh,eOp,Zi,jS,zD,zH,eC,zC,R.bind_ok,List.length_cons,List.length_nil,z1,if_true,alloc,List.getElem?_cons_zero,List.getElem?_cons_succ,ZA,jB,List.nil_append,List.length_singleton,ok,and_self,Int.toNat_natCast,er,R.stm_ok,List.set_cons_zero,List.set_cons_succ]
  rfl
 show (JC _ _).then _=_
 rw[e2,RS.then_nx]
 show (Q6 _ _).then _=_
 rw[e3,RS.then_nx]
 show (JN _ _).then _=_
 rw[e4,RS.then_nx]
end
section
variable {ns:List Int}
theorem zRm {o0:O}{c:Int}{w:T}{z:Nat} (hz:z <= 5):∃ (qs:List Tr) (v5:Option D),qs.length=z/\(∀ q∈qs,q.few)/\J8 [some (R0 ns),some (.int c),some (.str w),some (.int (z:Int)),some (.ref 1),none,none,none,none,none,none,none,none,none] [o0,.lst ((List.replicate z Tr.it).map Tr.d)]=.nx [some (R0 ns),some (.int c),some (.str w),some (.int (z:Int)),some (.ref 1),v5,none,none,none,none,none,none,none,none] [o0,.lst (qs.map Tr.d)]:=by
 obtain⟨σ',s',e,qs,v5,h1,h2,h3,h4⟩:=zC9 (g:=[]) (f:=yy (jW 5) zFf) (fun j σ s=>∃ (qs:List Tr) (v5:Option D),qs.length=z/\(∀ q∈qs,q.few)/\σ=[some (R0 ns),some (.int c),some (.str w),some (.int (z:Int)),some (.ref 1),v5,none,none,none,none,none,none,none,none]/\s=[o0,.lst (qs.map Tr.d)]) (qH 0 (z:Int)) 0 [some (R0 ns),some (.int c),some (.str w),some (.int (z:Int)),some (.ref 1),none,none,none,none,none,none,none,none,none] [o0,.lst ((List.replicate z Tr.it).map Tr.d)] ⟨List.replicate z Tr.it,none,by simp,fun q hq=>by rw[List.eq_of_mem_replicate hq];trivial,rfl,rfl⟩ fun j d hd σ s ⟨qs,v5,h1,h2,h3,h4⟩=>by
  subst h3 h4
  have hjl:j < z:=by have:=(List.getElem?_eq_some_iff.mp hd).1;simpa [qH] using this
  have hd':d=.int (j:Int):=by
   unfold qH at hd
   rw[List.getElem?_map] at hd
   cases q2:(List.range ((z:Int) - 0).toNat)[j]? with
   | none=>rw[q2] at hd;cases hd
   | some m =>
    rw[q2] at hd
    have:=(List.getElem?_eq_some_iff.mp q2).2
    rw[List.getElem_range] at this
    subst this
    simp at hd
    exact hd.symm
  subst hd'
  obtain⟨qs',l',q',e⟩:=zMJ (ns:=ns) (o0:=o0) (c:=c) (w:=w) h2 (v3:=some (.int (z:Int))) (v5:=v5) (j:=j) (by omega)
  exact⟨_,_,e,rfl,qs',_,by omega,q',rfl,rfl⟩
 refine⟨qs,v5,h1,h2,?_⟩
 subst h3 h4
 have hg:∀ s,zl [] s=true:=fun _=>rfl
 have q1:(z:Int).natAbs < 4611686018427387904:=by omega
 rw[zRv]
 simp only[ZJ,yG,zC,List.getElem?_cons_zero,List.getElem?_cons_succ,R.bind_ok,q1,if_true,R.stm_ok,hg,e]
end
section
variable {ns:List Int}
theorem zQV {c z:Nat}{w:T} (hw:w.length <= 4) (hz:z <= 5) {v4 v5:Option D} (s:M.S):∃ ah m:Nat,ah <= 5/\m * (w.length+1) <= 901/\∀ r,(JG [some (R0 ns),some (.int (c:Int)),some (.str w),some (.int (z:Int)),v4,v5,none,none,none,none,none,none,none,none] s).then (zO Qe (zO Zq (zO QY r)))=r [some (R0 ns),some (.int (c:Int)),some (.str w),some (.int (z:Int)),v4,v5,some (.int (ah:Int)),some (.int (m:Int)),none,none,none,none,none,none] s:=by
 have ca1:∀ s,zc [R0 ns,.int 1] s=.ok (.int (QW ns 1)) s:=fun s=>zF4 ns 1 s
 have z4:w.length <= SZ:=by unfold SZ;omega
 have e6:JG [some (R0 ns),some (.int (c:Int)),some (.str w),some (.int (z:Int)),v4,v5,none,none,none,none,none,none,none,none] s=.nx [some (R0 ns),some (.int (c:Int)),some (.str w),some (.int (z:Int)),v4,v5,some (.int ((c / 16 % 6:Nat):Int)),none,none,none,none,none,none,none] s:=by
  simp[JG]
 have hah:c / 16 % 6 <= 5:=by omega
 generalize c / 16 % 6=ah at *
 have e7:Qe [some (R0 ns),some (.int (c:Int)),some (.str w),some (.int (z:Int)),v4,v5,some (.int (ah:Int)),none,none,none,none,none,none,none] s=.nx [some (R0 ns),some (.int (c:Int)),some (.str w),some (.int (z:Int)),v4,v5,some (.int (ah:Int)),some (.int ((c / 96 % 301:Nat):Int)),none,none,none,none,none,none] s:=by
  simp[Qe]
 obtain⟨k,hk,e8⟩:∃ k:Int,0 <= k/\Zq [some (R0 ns),some (.int (c:Int)),some (.str w),some (.int (z:Int)),v4,v5,some (.int (ah:Int)),some (.int ((c / 96 % 301:Nat):Int)),none,none,none,none,none,none] s=.nx [some (R0 ns),some (.int (c:Int)),some (.str w),some (.int (z:Int)),v4,v5,some (.int (ah:Int)),some (.int k),none,none,none,none,none,none] s:=by
  by_cases h:QW ns 1 % 2=0
  ·have d1:(0:Int) < 1+(z:Int)/\(1+(z:Int)).natAbs < 1073741824:=by omega
   refine⟨if (498 - (ah:Int)) / (1+(z:Int)) - 1+QW ns 1 / 2 % 3 > 0 then (498 - (ah:Int)) / (1+(z:Int)) - 1+QW ns 1 / 2 % 3 else 0,by split<;>omega,?_⟩
   generalize ((c / 96 % 301:Nat):Int)=b at *
   simp[Zq,ca1,h,d1]
  ·exact⟨((c / 96 % 301:Nat):Int),Int.natCast_nonneg _,by simp[Zq,ca1,h]⟩
 have d9:(0:Int) < (w.length:Int)+1/\((w.length:Int)+1).natAbs < 1073741824:=by omega
 have dn:0 <= (901:Int) / ((w.length:Int)+1):=Int.ediv_nonneg (by decide) (by omega)
 have dm:(901:Int) / ((w.length:Int)+1) * ((w.length:Int)+1) <= 901:=Int.ediv_mul_le _ (by omega)
 obtain⟨m,em,hm⟩:∃ m:Nat,(if 901 / ((w.length:Int)+1) < k then 901 / ((w.length:Int)+1) else k)=(m:Int)/\(m:Int) <= 901 / ((w.length:Int)+1):=by
  refine⟨(if 901 / ((w.length:Int)+1) < k then 901 / ((w.length:Int)+1) else k).toNat,?_,?_⟩<;>split<;>omega
 refine⟨ah,m,hah,?_,fun r=>?_⟩
 ·have:(m:Int) * ((w.length:Int)+1) <= 901:=Int.le_trans (Int.mul_le_mul_of_nonneg_right hm (by omega)) dm
  exact_mod_cast this
 ·have e9:QY [some (R0 ns),some (.int (c:Int)),some (.str w),some (.int (z:Int)),v4,v5,some (.int (ah:Int)),some (.int k),none,none,none,none,none,none] s=.nx [some (R0 ns),some (.int (c:Int)),some (.str w),some (.int (z:Int)),v4,v5,some (.int (ah:Int)),some (.int (m:Int)),none,none,none,none,none,none] s:=by
   rw[<- em]
   simp only[QY,zh,zS,zD,zH,zC,eOp,eC,List.getElem?_cons_zero,List.getElem?_cons_succ,R.bind_ok,ZC,z4,if_true,jO,Qa,d9,and_self,zG0,R.stm_ok,List.set_cons_zero,List.set_cons_succ]
  rw[e6,RS.then_nx]
  show (Qe _ _).then _=_
  rw[e7,RS.then_nx]
  show (Zq _ _).then _=_
  rw[e8,RS.then_nx]
  show (QY _ _).then _=_
  rw[e9,RS.then_nx]
end
section
variable {ns:List Int}
theorem zCP {α:Type} (d:α):∀ m:Nat,(List.replicate m [d]).flatten=List.replicate m d
 | 0=>rfl
 | m+1=>by rw[List.replicate_succ,List.flatten_cons,zCP d m,List.replicate_succ];rfl
theorem zDQ (w:T):∀ m:Nat,QS (List.replicate m (.str w))=some (List.replicate m w)
 | 0=>rfl
 | m+1=>by rw[List.replicate_succ,QS,zDQ w m,List.replicate_succ];rfl
theorem zIP (w:T):∀ m:Nat,(z7 [32] (List.replicate (m+1) w)).length+1=(m+1) * (w.length+1)
 | 0=>by simp[z7]
 | m+1=>by
  have ih:=zIP w m
  rw[List.replicate_succ,z7.eq_def]
  rw[List.replicate_succ] at ih ⊢
  simp only[List.length_append,List.length_singleton]
  rw[Nat.succ_mul (m+1),<- ih]
  omega
theorem zMO {w:T}{m:Nat} (h:m * (w.length+1) <= 901):(z7 [32] (List.replicate m w)).length <= 900:=by
 cases m with
 | zero=>exact Nat.zero_le _
 | succ m=>have:=zIP w m;omega
theorem zQ9 {o0:O}{c z ah m:Nat}{w:T}{qs:List Tr}{v5:Option D} (hw:1 <= w.length) (hq:qs.length <= 5) (hm:m * (w.length+1) <= 901):∃ g,Q4 [some (R0 ns),some (.int (c:Int)),some (.str w),some (.int (z:Int)),some (.ref 1),v5,some (.int (ah:Int)),some (.int (m:Int)),none,none,none,none,none,none] [o0,.lst (qs.map Tr.d)]=.nx [some (R0 ns),some (.int (c:Int)),some (.str w),some (.int (z:Int)),some (.ref 1),v5,some (.int (ah:Int)),some (.int (m:Int)),some (Tr.each (.txt (z7 [32] (List.replicate m w))) (.join qs)).d,none,none,none,none,none] (o0::.lst (qs.map Tr.d)::g):=by
 refine⟨[.lst [.str w],.lst (List.replicate m (.str w)),.lst [.str [106,111,105,110]],.lst (.str [106,111,105,110]::qs.map Tr.d)],?_⟩
 have hm2:m * 2 <= 901:=Nat.le_trans (Nat.mul_le_mul_left m (by omega)) hm
 have z1:(1:Nat) <= SZ:=by decide
 have z2:(2:Nat) <= SZ:=by decide
 have z3:(3:Nat) <= SZ:=by decide
 have ok:(m:Int).natAbs <= 1000/\1 * (m:Int).natAbs <= 1000000:=by omega
 have zs:((List.replicate m w).map List.length).sum+(List.replicate m w).length * ([32]:T).length <= SZ:=by
  simp
  have:m * w.length+m=m * (w.length+1):=by rw[Nat.mul_succ]
  unfold SZ
  omega
 have zq:([D.str [106,111,105,110]]:List D).length+(qs.map Tr.d).length <= SZ:=by
  simp
  unfold SZ
  omega
 have ej:Tr.d (.join qs)=.tup (.str [106,111,105,110]::qs.map Tr.d):=by
  show D.tup (.str [106,111,105,110]::Tr.d.ds qs)=_
  rw[Tr.ds_map]
 have et:Tr.d (.each (.txt (z7 [32] (List.replicate m w))) (.join qs))=.tup [.str [101,97,99,104],.tup [.str [116,101,120,116],.str (z7 [32] (List.replicate m w))],.tup (.str [106,111,105,110]::qs.map Tr.d)]:=by
  rw[<- ej];rfl
 rw[et]
 simp only[Q4,zh,jS,zD,zH,eC,eM,eOp,Zi,zC,zS,List.getElem?_cons_zero,List.getElem?_cons_succ,R.bind_ok,List.length_cons,List.length_nil,z1,z2,z3,if_true,alloc,ZA,jB,List.cons_append,List.nil_append,ok,and_self,Int.toNat_natCast,zCP,Jv,Jf,zEd,Zd,zDQ,zs,jO,zq,zFK,R.stm_ok,List.set_cons_zero,List.set_cons_succ,Nat.zero_add,Nat.reduceAdd]
 simp[z1,z2,z3,zDQ,zs,Zd]
 rw[if_pos (by simpa using zs),if_pos (by simp at zq;omega)]
theorem zLG {t:Tr}{σ0:List (Option D)}{c0 c1 c2 c3 c4 c6 c7:Option D}{s:M.S} (ah:Nat) (v5:Option D) (hah:ah <= 5) (h6:c6=some (.int (ah:Int))):∃ v5',Qt [c0,c1,c2,c3,c4,v5,c6,c7,some t.d,none,none,none,none,none] s=.nx [c0,c1,c2,c3,c4,v5',c6,c7,some (bk t ah).d,none,none,none,none,none] s:=by
 subst h6
 have z2:(2:Nat) <= SZ:=by decide
 have hg:∀ s,zl [] s=true:=fun _=>rfl
 have q1:(ah:Int).natAbs < 4611686018427387904:=by omega
 have lr:(qH 0 (ah:Int)).length=ah:=by simp[qH]
 obtain⟨σ',s',e,v5',h3,h4⟩:=zC9 (g:=[]) (f:=yy (jW 5) (zh 8 (jS (zD (eC (.str [98,97,99,107])) (zD (zC 8) zH))))) (fun j σ s'=>∃ v5',σ=[c0,c1,c2,c3,c4,v5',some (.int (ah:Int)),c7,some (bk t j).d,none,none,none,none,none]/\s'=s) (qH 0 (ah:Int)) 0 [c0,c1,c2,c3,c4,v5,some (.int (ah:Int)),c7,some t.d,none,none,none,none,none] s ⟨v5,rfl,rfl⟩ fun j d hd σ s' ⟨v5',h3,h4⟩=>by
  subst h3 h4
  refine⟨_,_,?_,rfl,some d,rfl,rfl⟩
  simp[z2]
  rfl
 refine⟨v5',?_⟩
 rw[Nat.zero_add,lr] at h3
 subst h3 h4
 unfold Qt
 simp only[ZJ,yG,zC,List.getElem?_cons_zero,List.getElem?_cons_succ,R.bind_ok,q1,if_true,R.stm_ok,hg,e]
end
theorem zNS {s:M.S}{l l':Nat} (r:T×T) (h:s[l]? = some (.lst [])) (h':s[l']? = some (.lst [])):eqD (.tup [zn r,.ref l]) (.tup [zn r,.ref l']) s=.ok true s:=by
 have hh:∀ k:Nat,s[k]? = some (.lst [])->toP Q1 s (.tup [zn r,.ref k])=some (.tup [.tup [.str r.1,.str r.2],.lst []]):=fun k e=>by
  have e1:toP Q1 s (.ref k)=some (.lst []):=by
   show (match jB s k with | some xs=>(Zz.all (fun j=>toP 8 s (.ref j)) xs).map P.lst | none=>none)=_
   have:jB s k=some []:=by simp[jB,e]
   rw[this]
   rfl
  show (match (some (P.tup [.str r.1,.str r.2])),(match toP Q1 s (.ref k),(some ([]:List P)) with | some p,some ps=>some (p::ps) | _,_=>none) with | some p,some ps=>some (p::ps) | _,_=>none).map P.tup=_
  rw[e1]
  rfl
 simp only[eqD,hh l h,hh l' h']
 simp[P.dep,P.deps,P.eqv,P.eqvs]
theorem zMn {s:M.S} (r:T×T):eqD (zn r) (zn r) s=.ok true s:=by
 have:toP Q1 s (zn r)=some (.tup [.str r.1,.str r.2]):=rfl
 show (match toP Q1 s (zn r),toP Q1 s (zn r) with | some p,some q=>if P.dep p <= 64/\P.dep q <= 64 then R.ok (P.eqv p q) s else R.no | _,_=>zE0 (zn r) (zn r) s)=_
 rw[this]
 simp[P.dep,P.deps,P.eqv,P.eqvs]
theorem zPB {s:M.S}{l l':Nat} (h:s[l]? = some (.lst [])) (h':s[l']? = some (.lst [])):eqD (.ref l) (.ref l') s=.ok true s:=by
 have hh:∀ k:Nat,s[k]? = some (.lst [])->toP Q1 s (.ref k)=some (.lst []):=fun k e=>by
  show (match jB s k with | some xs=>(Zz.all (fun j=>toP 8 s (.ref j)) xs).map P.lst | none=>none)=_
  have:jB s k=some []:=by simp[jB,e]
  rw[this]
  rfl
 simp only[eqD,hh l h,hh l' h']
 simp[P.dep,P.deps,P.eqv,P.eqvs]
theorem zHb {w:T}{qs:List Tr}:∀ (m k:Nat) (t x:T),t.length <= 900->Jz w qs m k t=.tx x->x.length <= 900
 | 0,k,t,x,ht,h=>by
  rw[Jz] at h
  cases h
  exact ht
 | m+1,k,t,x,ht,h=>by
  rw[Jz] at h
  split at h
  ·cases h
  ·split at h
   ·cases h
   ·split at h
    ·cases h
    ·rename_i h9
     exact zHb m _ _ x (by omega) h
section
variable {ns:List Int}
theorem zMz {c:Nat}{c2 c3 c4 c5 c6 c7 c8:Option D}{s:M.S}:∃ a b:Nat,2 <= a/\a <= 891/\898 <= b/\b <= 902/\∀ r,(Qx [some (R0 ns),some (.int (c:Int)),c2,c3,c4,c5,c6,c7,c8,none,none,none,none,none] s).then (zO Qv r)=r [some (R0 ns),some (.int (c:Int)),c2,c3,c4,c5,c6,c7,c8,some (.int (a:Int)),some (.int (b:Int)),none,none,none] s:=by
 refine⟨2+c / 30000 % 890,898+c / 7 % 5,by omega,by omega,by omega,by omega,fun r=>?_⟩
 have ea:2+(c:Int) / 30000 % 890=((2+c / 30000 % 890:Nat):Int):=by omega
 have eb:898+(c:Int) / 7 % 5=((898+c / 7 % 5:Nat):Int):=by omega
 rw[<- ea,<- eb]
 simp[Qx,Qv]
theorem zOt {c1 c2 c3 c4 c5 c6 c7 c8:Option D}{s:M.S}{a b:Nat} (ha:2 <= a) (ha':a <= 891) (hb:898 <= b) (hb':b <= 902):∃ g l,Q3 [some (R0 ns),c1,c2,c3,c4,c5,c6,c7,c8,some (.int (a:Int)),some (.int (b:Int)),none,none,none] s=.nx [some (R0 ns),c1,c2,c3,c4,c5,c6,c7,c8,some (.int (a:Int)),some (.int (b:Int)),some (.tup [zn (if 900 < b then (zv,qW) else (Qr,List.replicate a 120++List.replicate (b - a) 121)),.ref l]),none,none] (s++g)/\(s++g)[l]? = some (.lst []):=by
 have z2:(2:Nat) <= SZ:=by decide
 have z3:(3:Nat) <= SZ:=by decide
 have g2:QF .non 2 false (.join [.txt (List.replicate a 120),.txt (List.replicate (b - a) 121)]):=by
  refine⟨by simp,by simp,fun t ht=>?_⟩
  simp at ht
  rcases ht with rfl | rfl
  ·show (List.replicate a 120).length <= 900
   simp;omega
  ·show (List.replicate (b - a) 121).length <= 900
   simp;omega
 obtain⟨l,g,e,hl⟩:=zGX (S:=s++[.dct []]) (st:=.non) (a:=s.length) (ans:=[]) (by simp) (fun q h=>nomatch h) (by decide) (n:=2) (by decide) g2
 rw[zQJ _ _ 0] at e hl
 have er:zA2 (Qz (.tx (List.replicate a 120++List.replicate (b - a) 121),(3,[]))).1=if 900 < b then (zv,qW) else (Qr,List.replicate a 120++List.replicate (b - a) 121):=by
  unfold Qz
  dsimp only
  have:(List.replicate a 120++List.replicate (b - a) 121).length=b:=by simp;omega
  rw[this]
  split<;>rfl
 have eu:(Qz (.tx (List.replicate a 120++List.replicate (b - a) 121),(3,[]))).2.2=[]:=by
  unfold Qz
  dsimp only
  split<;>rfl
 rw[er] at e
 rw[eu] at hl
 refine⟨.dct []::g,l,?_,by rw[show s++.dct []::g=s++[.dct []]++g by simp];exact hl⟩
 have ed:Tr.d (.join [.txt (List.replicate a 120),.txt (List.replicate (b - a) 121)])=.tup [.str [106,111,105,110],.tup [.str [116,101,120,116],.str (List.replicate a 120)],.tup [.str [116,101,120,116],.str (List.replicate (b - a) 121)]]:=rfl
 rw[ed] at e
 have k1:0 <= (a:Int)/\(a:Int).natAbs <= 1000000/\1 * (a:Int).natAbs <= 1000000:=by omega
 have k2:0 <= (b:Int) - (a:Int)/\((b:Int) - (a:Int)).natAbs <= 1000000/\1 * ((b:Int) - (a:Int)).natAbs <= 1000000:=by omega
 have k3:((b:Int) - (a:Int)).toNat=b - a:=by omega
 rw[show s++.dct []::g=s++[.dct []]++g by simp]
 generalize (if 900 < b then (zv,qW) else (Qr,List.replicate a 120++List.replicate (b - a) 121))=r at *
 simp only[Q3,zh,zS,jS,zD,zH,eC,zC,eOp,zA5,List.getElem?_cons_zero,List.getElem?_cons_succ,R.bind_ok,ZA,zAo,List.length_cons,List.length_nil,Nat.zero_add,Nat.reduceAdd,k1,k2,k3,and_self,if_true,zCP,z2,z3,Int.toNat_natCast,alloc,e,R.stm_ok,List.set_cons_zero,List.set_cons_succ]
theorem zOI {c1 c2 c3 c4 c5 c6 c7 c8:Option D}{s:M.S}{a b l:Nat} (ha:2 <= a) (ha':a <= 891) (hb:898 <= b) (hb':b <= 902) (hl:s[l]? = some (.lst [])):∃ g,Qw [some (R0 ns),c1,c2,c3,c4,c5,c6,c7,c8,some (.int (a:Int)),some (.int (b:Int)),some (.tup [zn (if 900 < b then (zv,qW) else (Qr,List.replicate a 120++List.replicate (b - a) 121)),.ref l]),none,none] s=.nx [some (R0 ns),c1,c2,c3,c4,c5,c6,c7,c8,some (.int (a:Int)),some (.int (b:Int)),some (.tup [zn (if 900 < b then (zv,qW) else (Qr,List.replicate a 120++List.replicate (b - a) 121)),.ref l]),none,none] (s++g):=by
 have z2:(2:Nat) <= SZ:=by decide
 have z0:(0:Nat) <= SZ:=by decide
 have k1:0 <= (a:Int)/\(a:Int).natAbs <= 1000000/\1 * (a:Int).natAbs <= 1000000:=by omega
 have k2:0 <= (b:Int) - (a:Int)/\((b:Int) - (a:Int)).natAbs <= 1000000/\1 * ((b:Int) - (a:Int)).natAbs <= 1000000:=by omega
 have k3:((b:Int) - (a:Int)).toNat=b - a:=by omega
 have k4:(List.replicate a 120).length+(List.replicate (b - a) 121).length <= SZ:=by simp;unfold SZ;omega
 obtain⟨o1,ho⟩:∃ o1:O,o1=.lst [.tup [.str [116,101,120,116],.str (List.replicate a 120++List.replicate (b - a) 121)],.tup [.str [102,97,105,108,115],.str [116,111,111,32,108,111,110,103]]]:=⟨_,rfl⟩
 refine⟨[o1,.lst []],?_⟩
 have hp:l < s.length:=(List.getElem?_eq_some_iff.mp hl).1
 have h1:(s++[o1]++[O.lst []])[l]? = some (.lst []):=by
  rw[List.getElem?_append_left (by simp;omega),List.getElem?_append_left hp];exact hl
 have h2:(s++[o1]++[O.lst []])[(s++[o1]).length]? = some (.lst []):=by simp
 have h3:(s++[o1])[s.length]? = some o1:=by simp
 have key:=zNS (if 900 < b then (zv,qW) else (Qr,List.replicate a 120++List.replicate (b - a) 121)) h1 h2
 have e3:zY (.ref s.length) (.int (if decide ((900:Int) < (b:Int)) then 1 else 0)) (s++[o1])=.ok (zn (if 900 < b then (zv,qW) else (Qr,List.replicate a 120++List.replicate (b - a) 121))) (s++[o1]):=by
  simp only[zY,h3,ho]
  by_cases h:900 < b
  ·have:(900:Int) < (b:Int):=by omega
   simp[h,this,atI,ixN,zn,zv,qW]
  ·have:¬ (900:Int) < (b:Int):=by omega
   simp[h,this,atI,ixN,zn,Qr]
 generalize (if 900 < b then (zv,qW) else (Qr,List.replicate a 120++List.replicate (b - a) 121))=r at *
 rw[show s++[o1,O.lst []]=s++[o1]++[O.lst []] by simp]
 unfold Qw
 rw[sIf]
 have et:(jM cNe (zC 11) (jS (zD (eOp zY (Zi (zD (jS (zD (eC (.str [116,101,120,116])) (zD (eOp jO (eOp ZA (eC (.str [120])) (zC 9)) (eOp ZA (eC (.str [121])) (eOp zAo (zC 10) (zC 9)))) zH))) (zD (jS (zD (eC (.str [102,97,105,108,115])) (zD (eC (.str [116,111,111,32,108,111,110,103])) zH))) zH))) (zS zAd (zD (Zv cGt (zC 10) (eC (.int 900))) zH))) (zD (Zi zH) zH)))) [some (R0 ns),c1,c2,c3,c4,c5,c6,c7,c8,some (.int (a:Int)),some (.int (b:Int)),some (.tup [zn r,.ref l]),none,none] s=.ok false (s++[o1]++[O.lst []]):=by
  simp only[jM,jS,zD,zH,eC,zC,eOp,Zi,zS,Zv,List.getElem?_cons_zero,List.getElem?_cons_succ,R.bind_ok,ZA,zAo,jO,List.length_cons,List.length_nil,Nat.zero_add,Nat.reduceAdd,k1,k2,k3,k4,and_self,if_true,zCP,z2,z0,Int.toNat_natCast,alloc,cGt,zAd,<- ho,e3,cNe,key,Bool.not_true]
 rw[et]
 rfl
end
section
variable {ns:List Int}
theorem zMd {w:T} (hw:Z6 w) {qs:List Tr} (hq:∀ q∈qs,q.few) (hl:qs.length <= 40) (m:Nat) {ah:Nat} (hah:ah <= 5):(ev [] .non (4+ah) (bk (.each (.txt (z7 [32] (List.replicate m w))) (.join qs)) ah) .non (0,[])).1=zCf ah (Jz w qs m (ah+2) [])/\(ev [] .non (4+ah) (bk (.each (.txt (z7 [32] (List.replicate m w))) (.join qs)) ah) .non (0,[])).2.2=[]:=by
 obtain⟨h1,h2⟩:=zOq (ans:=[]) (st:=.non) (i:=.non) (u:=[]) hw hq hl 0 m (0+ah) (by omega)
 rw[zI0 ah 0 (by omega) fun x c h=>by
  rw[h] at h1
  exact zHb m _ [] x (Nat.zero_le _) h1.symm]
 refine⟨?_,h2⟩
 show zCf ah _=_
 rw[h1,Nat.zero_add]
theorem zNL {c0 c1 c3 c5 c8 c9 c10 c11:Option D}{s:M.S}{w:T} (hw:Z6 w) {qs:List Tr} (hq:∀ q∈qs,q.few) (hl1:1 <= qs.length) (hl:qs.length <= 5) {m ah:Nat} (hm:m * (w.length+1) <= 901) (hah:ah <= 5) (h1:s[1]? = some (.lst (qs.map Tr.d))) (h8:c8=some (bk (.each (.txt (z7 [32] (List.replicate m w))) (.join qs)) ah).d):∃ s',((Q0 [c0,c1,some (.str w),c3,some (.ref 1),c5,some (.int (ah:Int)),some (.int (m:Int)),c8,c9,c10,c11,none,none] s).then (zO QA Q2)).out=.ok (.bl true) s':=by
 subst h8
 have hm2:m * 1 <= 901:=Nat.le_trans (Nat.mul_le_mul_left m (by omega)) hm
 have ed:=zQb h1 (Nat.le_trans hw.1 (by decide)) hq (by omega) (ah:=ah) (m:=m) (by omega) (by omega)
 obtain⟨e1,e2⟩:=zMd hw hq (by omega) m hah
 obtain⟨l,g,ew,hu⟩:=zGX (S:=s++[.dct []]) (st:=.non) (a:=s.length) (ans:=[]) (by simp) (fun q h=>nomatch h) (by decide) (n:=4+ah) (by omega) (zJO (zKd (st:=.non) hq hl1 (by omega) (zMO hm)) ah)
 rw[e1] at ew
 rw[e2] at hu
 generalize zA2 (zCf ah (Jz w qs m (ah+2) []))=r at *
 generalize (bk (.each (.txt (z7 [32] (List.replicate m w))) (.join qs)) ah).d=td at *
 have f16:Q0 [c0,c1,some (.str w),c3,some (.ref 1),c5,some (.int (ah:Int)),some (.int (m:Int)),some td,c9,c10,c11,none,none] s=.nx [c0,c1,some (.str w),c3,some (.ref 1),c5,some (.int (ah:Int)),some (.int (m:Int)),some td,c9,c10,c11,some (zn r),none] s:=by
  simp only[Q0,zh,zS,zD,zH,zC,List.getElem?_cons_zero,List.getElem?_cons_succ,R.bind_ok,ed,R.stm_ok,List.set_cons_zero,List.set_cons_succ]
 rw[f16,RS.then_nx]
 have f17:QA [c0,c1,some (.str w),c3,some (.ref 1),c5,some (.int (ah:Int)),some (.int (m:Int)),some td,c9,c10,c11,some (zn r),none] s=.nx [c0,c1,some (.str w),c3,some (.ref 1),c5,some (.int (ah:Int)),some (.int (m:Int)),some td,c9,c10,c11,some (zn r),some (.tup [zn r,.ref l])] (s++[.dct []]++g):=by
  simp only[QA,zh,zS,zD,zH,zC,eC,zA5,alloc,List.getElem?_cons_zero,List.getElem?_cons_succ,R.bind_ok,ew,R.stm_ok,List.set_cons_zero,List.set_cons_succ]
 show ∃ s',(((QA _ _).then Q2).out)=_
 rw[f17,RS.then_nx]
 generalize s++[.dct []]++g=S at *
 have hp:l < S.length:=(List.getElem?_eq_some_iff.mp hu).1
 have q1:=zMn (s:=S) r
 have q2:=zPB (s:=S++[.lst []]) (l:=l) (l':=S.length) (by rw[List.getElem?_append_left hp];exact hu) (by simp)
 have q0:eqD (.int ((2:Nat):Int)) (.int 2) S=.ok true S:=by simp
 have at0':atI [zn r,D.ref l] 0=some (zn r):=rfl
 have at1':atI [zn r,D.ref l] 1=some (.ref l):=rfl
 have z0:(0:Nat) <= SZ:=by decide
 refine⟨S++[.lst []],?_⟩
 simp only[Q2,jn,zDF,zS,zDP,JX,zD,zH,zC,eC,Zv,eOp,ZC,Zi,alloc,List.getElem?_cons_zero,List.getElem?_cons_succ,R.bind_ok,asB,if_true,List.length_cons,List.length_nil,Nat.zero_add,Nat.reduceAdd,cEq,zY,at0',at1',q0,q1,q2,z0,R.stm_ok,RS.out]
end
theorem zMs (ns:List Int) (hl:ns.length <= 63):∃ s,zJx [.ro (ns.map .int)] []=.ok (.bl true) s:=by
 obtain⟨c,w,z,o0,hw,hw4,hz1,hz2,hc,e14⟩:=zPq ns
 obtain⟨qs,v5,hql,hq,e5⟩:=zRm (ns:=ns) (o0:=o0) (c:=(c:Int)) (w:=w) hz2
 obtain⟨ah,m,hah,hm,e69⟩:=zQV (ns:=ns) (c:=c) (z:=z) (w:=w) hw4 hz2 (v4:=some (.ref 1)) (v5:=v5) [o0,.lst (qs.map Tr.d)]
 have hw1:1 <= w.length:=List.length_pos_iff.mpr hw.2.2.2
 obtain⟨g10,e10⟩:=zQ9 (ns:=ns) (o0:=o0) (c:=c) (z:=z) (ah:=ah) (m:=m) (w:=w) (qs:=qs) (v5:=v5) hw1 (by omega) hm
 obtain⟨v5',e11⟩:=zLG (t:=.each (.txt (z7 [32] (List.replicate m w))) (.join qs)) (σ0:=[]) (c0:=some (R0 ns)) (c1:=some (.int (c:Int))) (c2:=some (.str w)) (c3:=some (.int (z:Int))) (c4:=some (.ref 1)) (c7:=some (.int (m:Int))) (s:=o0::.lst (qs.map Tr.d)::g10) ah v5 hah rfl
 obtain⟨a,b,ha1,ha2,hb1,hb2,e12⟩:=zMz (ns:=ns) (c:=c) (c2:=some (.str w)) (c3:=some (.int (z:Int))) (c4:=some (.ref 1)) (c5:=v5') (c6:=some (.int (ah:Int))) (c7:=some (.int (m:Int))) (c8:=some (bk (.each (.txt (z7 [32] (List.replicate m w))) (.join qs)) ah).d) (s:=o0::.lst (qs.map Tr.d)::g10)
 obtain⟨g14,l,e14',hl14⟩:=zOt (ns:=ns) (c1:=some (.int (c:Int))) (c2:=some (.str w)) (c3:=some (.int (z:Int))) (c4:=some (.ref 1)) (c5:=v5') (c6:=some (.int (ah:Int))) (c7:=some (.int (m:Int))) (c8:=some (bk (.each (.txt (z7 [32] (List.replicate m w))) (.join qs)) ah).d) (s:=o0::.lst (qs.map Tr.d)::g10) ha1 ha2 hb1 hb2
 obtain⟨g15,e15⟩:=zOI (ns:=ns) (c1:=some (.int (c:Int))) (c2:=some (.str w)) (c3:=some (.int (z:Int))) (c4:=some (.ref 1)) (c5:=v5') (c6:=some (.int (ah:Int))) (c7:=some (.int (m:Int))) (c8:=some (bk (.each (.txt (z7 [32] (List.replicate m w))) (.join qs)) ah).d) ha1 ha2 hb1 hb2 hl14
 obtain⟨s',e16⟩:=zNL (c0:=some (R0 ns)) (c1:=some (.int (c:Int))) (c3:=some (.int (z:Int))) (c5:=v5') (c9:=some (.int (a:Int))) (c10:=some (.int (b:Int))) (c11:=some (.tup [zn (if 900 < b then (zv,qW) else (Qr,List.replicate a 120++List.replicate (b - a) 121)),.ref l])) (s:=o0::.lst (qs.map Tr.d)::g10++g14++g15) hw hq (by omega) (by omega) hm hah rfl rfl
 refine⟨s',?_⟩
 show ((J5 [some (R0 ns),none,none,none,none,none,none,none,none,none,none,none,none,none] []).then (zO JC (zO Q6 (zO JN (zO J8 (zO JG (zO Qe (zO Zq (zO QY (zO Q4 (zO Qt (zO Qx (zO Qv (zO Q3 (zO Qw (zO Q0 (zO QA Q2))))))))))))))))).out=_
 rw[e14]
 show ((J8 _ _).then _).out=_
 rw[e5,RS.then_nx]
 show ((JG _ _).then (zO Qe (zO Zq (zO QY _)))).out=_
 rw[e69]
 show ((Q4 _ _).then _).out=_
 rw[e10,RS.then_nx]
 show ((Qt _ _).then _).out=_
 rw[e11,RS.then_nx]
 show ((Qx _ _).then (zO Qv _)).out=_
 rw[e12]
 show ((Q3 _ _).then _).out=_
 rw[e14',RS.then_nx]
 show ((Qw _ _).then _).out=_
 rw[e15,RS.then_nx]
 exact e16
end
end M
namespace My
open PySem L2 PyProof.Rows
noncomputable def top (i:Nat):Stmt:=PySem.Challenge.pw_thingyard_k44_steps_and_signs.main.body.getD i (.Pass ⟨0,0,0,0⟩)
theorem vv {X:Cx}{Θ:Tab}{pos:Pos}{x:Str} (i:Nat) (h1:X.N[i]? = some x:=by rfl) (h2:Vis X.env.scope x:=by exact Or.inl (by kernel_rfl)) (h3:(x == ("__debug__" : Str))=false:=by kernel_rfl) (h4:(x == ("__classdict__" : Str))=false:=by kernel_rfl):WE X Θ (.Name x pos) (M.zC i):=zHv i h1 h2 h3 h4
theorem vc {X:Cx}{Θ:Tab}{pos:Pos}{x:Str} (i:Nat) (h1:X.N[i]? = some x:=by rfl) (h2:Vis X.env.scope x:=by exact Or.inr (Or.inl (by kernel_rfl))) (h3:(x == ("__debug__" : Str))=false:=by kernel_rfl) (h4:(x == ("__classdict__" : Str))=false:=by kernel_rfl):WE X Θ (.Name x pos) (M.zC i):=zHv i h1 h2 h3 h4
theorem zz {X:Cx}{Θ:Tab}{pos:Pos}{y:M.T}{x:Str}{j:Nat} (h:x=ofT y:=by decide +kernel) (ok:okT y:=by decide +kernel):WE X Θ (.Constant (.str x) j pos) (M.eC (.str y)):=zMD h ok
theorem gk {X:Cx}{x:Str} (h:X.env.kindOf x=some .globalImplicit:=by kernel_rfl):Gl X x:=h
noncomputable abbrev cX (P:Program) (w:World) (K:PySem.W.Frag) (mg:Str->Option Value) (base:Heap) (N:List Str) (n:Str) (st:Stmt) (f:Addr) (cdv:Value) (A:Around) (outer:List Env) (s:Shared) (H:Hp) (E:XK):Cx:=(zBB CX0 P w K mg base N n (zK st) f cdv A outer s H E).nox
noncomputable abbrev RM (k:Nat) (n:Str) (st:Stmt) (A:Around) (s:Shared) (f:Addr) (cdv:Value):Prop:=jL k (A.deeper (envOfC n (zK st) s.heap.objs.size f cdv))
noncomputable abbrev bd (st:Stmt) (j:Nat):Stmt:=(zi st).getD j (.Pass ⟨0,0,0,0⟩)
noncomputable def zGy (K:PySem.W.Frag):Sp:=fun vs H Q E=>∀ Θ:Tab,SpM K Θ 1 M.zJx vs H Q E
theorem zNm {K:PySem.W.Frag}{H:Hp}{a:Addr}{ns:List Int}{E:XK} (hl:ns.length <= 63) (hO:zIJ H) (hS:SqL K H a (ns.map V.int)):zGy K [.ref a] H (fun v _=>v=.bl true) E:=fun _=>zPX M.zMs hl hO hS
noncomputable def Θ1 (zA:Addr):Tab:=fun c=>if c=4 then some (zA,["stem","answers","used","steps","texts","todo","ended"]) else none
section
variable (P:Program) (w:World) (K:PySem.W.Frag) (mg:Str->Option Value) (base:Heap) (zA:Addr)
noncomputable abbrev zDI:Prop:=Has P w K mg base "_law_mixed" 1 ["_law_cell","_law_k"] (SpM K (Θ1 zA) 2 M.QC)
noncomputable abbrev ZU:Prop:=Has P w K mg base "_law_cell_at" 2 ["_law_script","_law_k"] (SpM K (Θ1 zA) 2 M.zc)
noncomputable abbrev zAP:Prop:=zNB P w K mg base zA "Working" 1 ["self","tree","stem","answers"] (SpM K (Θ1 zA) 4 M.yS)
noncomputable abbrev Qd:Prop:=Zx P w K mg base zA "fail" 1 ["self","words"] (SpM K (Θ1 zA) 2 M.yM)
noncomputable abbrev q8:Prop:=Zx P w K mg base zA "come_to" 2 ["self","text"] (SpM K (Θ1 zA) 2 M.zr)
noncomputable abbrev Jn:Prop:=Zx P w K mg base zA "bare_text" 1 ["self","part","it"] (SpM K (Θ1 zA) 3 M.je)
noncomputable abbrev y0:Prop:=Zx P w K mg base zA "come_to_answer" 3 ["self","name"] (SpM K (Θ1 zA) 2 M.zk)
noncomputable abbrev Jm:Prop:=Zx P w K mg base zA "put_parts" 1 ["self","parts","it"] (SpM K (Θ1 zA) 3 M.qC)
noncomputable abbrev JB:Prop:=Zx P w K mg base zA "begin_inner" 2 ["self","part","it"] (SpM K (Θ1 zA) 3 M.jg)
noncomputable abbrev zBW:Prop:=Zx P w K mg base zA "begin" 4 ["self","part","it"] (SpM K (Θ1 zA) 3 M.jx)
noncomputable abbrev zAR:Prop:=Zx P w K mg base zA "end_join" 3 ["self","number"] (SpM K (Θ1 zA) 2 M.jy)
noncomputable abbrev zA4:Prop:=Zx P w K mg base zA "choose" 1 ["self","part","it"] (SpM K (Θ1 zA) 3 M.yH)
noncomputable abbrev Qc:Prop:=Has P w K mg base "words_of" 1 ["text"] (SpM K (Θ1 zA) 1 M.jq)
noncomputable abbrev ZP:Prop:=Zx P w K mg base zA "go_on_round" 1 ["self","part","words","number"] (SpM K (Θ1 zA) 4 M.jG)
noncomputable abbrev JV:Prop:=Zx P w K mg base zA "begin_each" 2 ["self","part"] (SpM K (Θ1 zA) 2 M.qY)
noncomputable abbrev zAV:Prop:=Zx P w K mg base zA "go_round" 3 ["self","part","words","number"] (SpM K (Θ1 zA) 4 M.qo)
noncomputable abbrev zDy:Prop:=Has P w K mg base "is_letter" 1 ["sign"] (SpM K (Θ1 zA) 1 M.Zs)
noncomputable abbrev zE9:Prop:=Has P w K mg base "is_plain" 2 ["thing"] (SpM K (Θ1 zA) 1 M.qG)
noncomputable abbrev zGM:Prop:=Has P w K mg base "is_name" 3 ["thing"] (SpM K (Θ1 zA) 1 M.qR)
noncomputable abbrev Ju:Prop:=Has P w K mg base "sorted_words" 2 ["text"] (SpM K (Θ1 zA) 1 M.ZT)
noncomputable abbrev zAC:Prop:=Has P w K mg base "turned_about" 1 ["text"] (SpM K (Θ1 zA) 1 M.ZR)
noncomputable abbrev zAx:Prop:=Has P w K mg base "first_word" 2 ["text"] (SpM K (Θ1 zA) 1 M.QI)
noncomputable abbrev zAw:Prop:=Has P w K mg base "rest_words" 2 ["text"] (SpM K (Θ1 zA) 1 M.QE)
noncomputable abbrev zDY:Prop:=Has P w K mg base "counted" 2 ["text"] (SpM K (Θ1 zA) 1 M.zAY)
noncomputable abbrev zGD:Prop:=Has P w K mg base "made_of" 3 ["kind","text"] (SpM K (Θ1 zA) 2 M.zAT)
noncomputable abbrev JY:Prop:=Zx P w K mg base zA "end_single" 4 ["self","kind"] (SpM K (Θ1 zA) 2 M.jZ)
noncomputable abbrev zCz:Prop:=Zx P w K mg base zA "run" 5 ["self"] (SpM K (Θ1 zA) 1 M.ZE)
noncomputable abbrev zCI:Prop:=Has P w K mg base "worked" 6 ["tree","stem","answers"] (SpM K (Θ1 zA) 3 M.Jw)
noncomputable abbrev zCc:Prop:=Has P w K mg base "_law_due" 1 ["_law_word","_law_many","_law_parts","_law_ahead"] (SpM K (Θ1 zA) 4 M.Ji)
end
variable {P:Program}{w:World}{K:PySem.W.Frag}{mg:Str->Option Value}{base:Heap}{f:Addr}{fd:FuncData}{cdv:Value}{A:Around}{outer:List Env}{s:Shared}{H:Hp}{E:XK}{zA:Addr}
noncomputable abbrev jA (K:PySem.W.Frag) (zA:Addr):Prop:=Qh K (Θ1 zA) 4 zA ["stem","answers","used","steps","texts","todo","ended"]
noncomputable abbrev ZN:Stmt:=top 20
noncomputable abbrev zHs:List Str:=["_law_cell","_law_k"]
theorem zGv:zy zHs ["_law_cell","_law_k"] (zK ZN):=⟨rfl,rfl,rfl,by decide +kernel,rfl,by decide +kernel,by decide +kernel⟩
theorem zGw (F:Fun K "_law_mixed" "_law_mixed" ZN f fd) :
  jU P w K mg base CX0 1 f fd ["_law_cell","_law_k"] (SpM K (Θ1 zA) 2 M.QC):=by
 refine yw (b:=M.JT) F zGv M.zGq fun cdv A outer s H E hr=>?_
 unfold M.JT
 exact (zI (z8 (zR Qq Zl (zR Jh JZ (zR (OpR.or yD jz) qb (vv 0) (zR Jh JZ zJ (vv 1))) zJ) zJ)))
noncomputable abbrev yx:Stmt:=top 21
noncomputable abbrev zFh:List Str:=["_law_script","_law_k"]
theorem zEs:zy zFh ["_law_script","_law_k"] (zK yx):=⟨rfl,rfl,rfl,by decide +kernel,rfl,by decide +kernel,by decide +kernel⟩
theorem zEr (F:Fun K "_law_cell_at" "_law_cell_at" yx f fd) (zBC:zDI P w K mg base zA) (jf:mg "len" = none) :
  jU P w K mg base CX0 2 f fd ["_law_script","_law_k"] (SpM K (Θ1 zA) 2 M.zc):=by
 refine yw (b:=M.ZQ) F zEs M.zEm fun cdv A outer s H E hr=>?_
 unfold M.ZQ
 exact (zL (jC (zj zP6 zNu (vv 1) (jj yP QB gk jf QK (zB (vv 0) zF)) (jI _))
  (zI (z8 (jN zBC hr (by decide) gk (zB (zm (j0 hr) ja (vv 0) (vv 1)) (zB (vv 1) zF)) (zM (zM ze)))))
  jl)
  (zI (z8 zJ)))
noncomputable abbrev zQ:Stmt:=yJ (top 17) 0
noncomputable abbrev jk:List Str:=["self","tree","stem","answers"]
theorem zC6:zy jk ["self","tree","stem","answers"] (zK zQ):=⟨rfl,rfl,rfl,by decide +kernel,rfl,by decide +kernel,by decide +kernel⟩
theorem zBz (zE:jA K zA) (hr:RM 0 "Working.__init__" zQ A s f cdv):WS (cX P w K mg base jk "Working.__init__" zQ f cdv A outer s H E) (Θ1 zA) (bd zQ 0) M.ye:=by
 unfold M.ye
 exact (ZZ (i:=0) zE rfl (vv 0) (vv 2))
theorem zBq (zE:jA K zA) (hr:RM 0 "Working.__init__" zQ A s f cdv):WS (cX P w K mg base jk "Working.__init__" zQ f cdv A outer s H E) (Θ1 zA) (bd zQ 1) M.yg:=by
 unfold M.yg
 exact (ZZ (i:=1) zE rfl (vv 0) (vv 3))
theorem zCD (zE:jA K zA) (hr:RM 0 "Working.__init__" zQ A s f cdv):WS (cX P w K mg base jk "Working.__init__" zQ f cdv A outer s H E) (Θ1 zA) (bd zQ 2) M.yf:=by
 unfold M.yf
 exact (ZZ (i:=2) zE rfl (vv 0) zDN)
theorem zBm (zE:jA K zA) (hr:RM 0 "Working.__init__" zQ A s f cdv):WS (cX P w K mg base jk "Working.__init__" zQ f cdv A outer s H E) (Θ1 zA) (bd zQ 3) M.yb:=by
 unfold M.yb
 exact (ZZ (i:=3) zE rfl (vv 0) zJ)
theorem zB3 (zE:jA K zA) (hr:RM 0 "Working.__init__" zQ A s f cdv):WS (cX P w K mg base jk "Working.__init__" zQ f cdv A outer s H E) (Θ1 zA) (bd zQ 4) M.yk:=by
 unfold M.yk
 exact (ZZ (i:=4) zE rfl (vv 0) (Zh zF))
theorem zBo (zE:jA K zA) (hr:RM 0 "Working.__init__" zQ A s f cdv):WS (cX P w K mg base jk "Working.__init__" zQ f cdv A outer s H E) (Θ1 zA) (bd zQ 5) M.yj:=by
 unfold M.yj
 exact (ZZ (i:=5) zE rfl (vv 0) (Zh (zB (jE (zB zz (zB (vv 1) (zB zCF zF)))) zF)))
theorem zB4 (zE:jA K zA) (hr:RM 0 "Working.__init__" zQ A s f cdv):WS (cX P w K mg base jk "Working.__init__" zQ f cdv A outer s H E) (Θ1 zA) (bd zQ 6) M.yi:=by
 unfold M.yi
 exact (ZZ (i:=6) zE rfl (vv 0) zCF)
theorem zC5 (F:Fun K "__init__" "Working.__init__" zQ f fd) (zE:jA K zA) :
  jU P w K mg base CX0 1 f fd ["self","tree","stem","answers"] (SpM K (Θ1 zA) 4 M.yS):=by
 refine qS (N:=jk) (b:=M.ZF) F zC6 fun cdv A outer s H E hr=>?_
 unfold M.ZF
 exact (zL (zBz zE hr) (zL (zBq zE hr) (zL (zCD zE hr) (zL (zBm zE hr) (zL (zB3 zE hr) (zL (zBo zE hr) (zI (zB4 zE hr))))))))
noncomputable abbrev yr:Stmt:=yJ (top 17) 2
noncomputable abbrev zB6:List Str:=["self","words"]
theorem zFD:zy zB6 ["self","words"] (zK yr):=⟨rfl,rfl,rfl,by decide +kernel,rfl,by decide +kernel,by decide +kernel⟩
theorem zFH (F:Fun K "fail" "Working.fail" yr f fd) (zE:jA K zA) :
  jU P w K mg base CX0 1 f fd ["self","words"] (SpM K (Θ1 zA) 2 M.yM):=by
 refine qS (N:=zB6) (b:=M.Qb) F zFD fun cdv A outer s H E hr=>?_
 unfold M.Qb
 exact (zI (ZZ (i:=6) zE rfl (vv 0) (jE (zB zz (zB (vv 1) zF)))))
noncomputable abbrev yA:Stmt:=yJ (top 17) 3
noncomputable abbrev zAg:List Str:=["self","text"]
theorem zDX:zy zAg ["self","text"] (zK yA):=⟨rfl,rfl,rfl,by decide +kernel,rfl,by decide +kernel,by decide +kernel⟩
theorem zDR (F:Fun K "come_to" "Working.come_to" yA f fd) (zE:jA K zA) (qB:Qd P w K mg base zA) (jf:mg "len" = none) (zBD:Jy mg "MOST_SIGNS" (.int 900)) :
  jU P w K mg base CX0 2 f fd ["self","text"] (SpM K (Θ1 zA) 2 M.zr):=by
 refine qS (N:=zAg) (b:=M.yZ) F zDX fun cdv A outer s H E hr=>?_
 unfold M.yZ
 exact (zI (jC (zj zEI zCo (jj yP QB gk jf QK (zB (vv 1) zF)) (zCW zBD gk (fun _ _=>rfl)) (jI _))
  (zI (zZ (jJ zE qB hr (by decide) (by decide +kernel) (vv 0) (zB zz zF) (zM ze))))
  (zI (zZ (yY PySem.F.plainAttrs_list PySem.F.slot_list_append PySem.F.type_list_append yn ym rfl (jH (i:=4) zE rfl (vv 0)) (zB (vv 1) zF))))))
noncomputable abbrev zV:Stmt:=yJ (top 17) 6
noncomputable abbrev qf:List Str:=["self","part","it"]
theorem zCT:zy qf ["self","part","it"] (zK zV):=⟨rfl,rfl,rfl,by decide +kernel,rfl,by decide +kernel,by decide +kernel⟩
theorem zBk (hr:RM 0 "Working.bare_text" zV A s f cdv):WS (cX P w K mg base qf "Working.bare_text" zV f cdv A outer s H E) (Θ1 zA) (bd zV 0) M.jt:=by
 unfold M.jt
 exact (jC (zj (ju hr) qV (zm (j0 hr) ja (vv 1) zJ) zz (jI _))
  (zI (z8 (zm (j0 hr) ja (vv 1) zJ)))
  jl)
theorem zBg (hr:RM 0 "Working.bare_text" zV A s f cdv):WS (cX P w K mg base qf "Working.bare_text" zV f cdv A outer s H E) (Θ1 zA) (bd zV 1) M.qJ:=by
 unfold M.qJ
 exact (jC (zj (ju hr) qV (zm (j0 hr) ja (vv 1) zJ) zz (jI _))
  (zI (z8 zz))
  jl)
theorem zBb (hr:RM 0 "Working.bare_text" zV A s f cdv):WS (cX P w K mg base qf "Working.bare_text" zV f cdv A outer s H E) (Θ1 zA) (bd zV 2) M.qp:=by
 unfold M.qp
 exact (jC (zj (ju hr) qV (zm (j0 hr) ja (vv 1) zJ) zz (jI _))
  (zI (z8 (vv 2)))
  jl)
theorem zBc (zE:jA K zA) (hr:RM 0 "Working.bare_text" zV A s f cdv):WS (cX P w K mg base qf "Working.bare_text" zV f cdv A outer s H E) (Θ1 zA) (bd zV 3) M.yV:=by
 unfold M.yV
 exact (z8 (jH (i:=0) zE rfl (vv 0)))
theorem zCk (F:Fun K "bare_text" "Working.bare_text" zV f fd) (zE:jA K zA) :
  jU P w K mg base CX0 1 f fd ["self","part","it"] (SpM K (Θ1 zA) 3 M.je):=by
 refine qS (N:=qf) (b:=M.qE) F zCT fun cdv A outer s H E hr=>?_
 unfold M.qE
 exact (zL (zBk hr) (zL (zBg hr) (zL (zBb hr) (zI (zBc zE hr)))))
noncomputable abbrev jw:Stmt:=yJ (top 17) 4
noncomputable abbrev QH:List Str:=["self","name"]
theorem zAl:zy QH ["self","name"] (zK jw):=⟨rfl,rfl,rfl,by decide +kernel,rfl,by decide +kernel,by decide +kernel⟩
theorem zAh (F:Fun K "come_to_answer" "Working.come_to_answer" jw f fd) (zE:jA K zA) (zu:q8 P w K mg base zA) :
  jU P w K mg base CX0 3 f fd ["self","name"] (SpM K (Θ1 zA) 2 M.zk):=by
 refine qS (N:=QH) (b:=M.qQ) F zAl fun cdv A outer s H E hr=>?_
 unfold M.qQ
 exact (zI (jC (zj (zKr hr) zN0 (vv 1) (jH (i:=1) zE rfl (vv 0)) (by rfl))
  (zL (zEC hr (jH (i:=2) zE rfl (vv 0)) (vv 1) zDl)
  (zI (zZ (jJ zE zu hr (by decide) (by decide +kernel) (vv 0) (zB (zm (j0 hr) ja (jH (i:=1) zE rfl (vv 0)) (vv 1)) zF) (zM ze)))))
  (zI (ZZ (i:=6) zE rfl (vv 0) (jE (zB zz (zB (vv 1) zF)))))))
noncomputable abbrev qe:Stmt:=yJ (top 17) 8
noncomputable abbrev Jq:List Str:=["self","parts","it","part"]
theorem JW:zy Jq ["self","parts","it"] (zK qe):=⟨rfl,rfl,rfl,by decide +kernel,rfl,by decide +kernel,by decide +kernel⟩
theorem zCd (F:Fun K "put_parts" "Working.put_parts" qe f fd) (zE:jA K zA) (Qg:mg "reversed" = none) :
  jU P w K mg base CX0 1 f fd ["self","parts","it"] (SpM K (Θ1 zA) 3 M.qC):=by
 refine qS (N:=Jq) (b:=M.Zw) F JW fun cdv A outer s H E hr=>?_
 unfold M.Zw
 exact (zI (Js PassesOwn.never rfl (zGu gk Qg (vv 1)) (yl (i:=3) JW.nd rfl (Or.inl (by kernel_rfl)) (.inl rfl))
  (zI (zZ (yY PySem.F.plainAttrs_list PySem.F.slot_list_append PySem.F.type_list_append yn ym rfl (jH (i:=5) zE rfl (vv 0)) (zB (jE (zB zz (zB (vv 3) (zB (vv 2) zF)))) zF))))))
noncomputable abbrev qK:Stmt:=yJ (top 17) 7
noncomputable abbrev JD:List Str:=["self","part","it","kind"]
theorem Qm:zy JD ["self","part","it"] (zK qK):=⟨rfl,rfl,rfl,by decide +kernel,rfl,by decide +kernel,by decide +kernel⟩
theorem zBi (F:Fun K "begin_inner" "Working.begin_inner" qK f fd) (zE:jA K zA) (qh:Jm P w K mg base zA) (jf:mg "len" = none) :
  jU P w K mg base CX0 2 f fd ["self","part","it"] (SpM K (Θ1 zA) 3 M.jg):=by
 refine qS (N:=JD) (b:=M.jv) F Qm fun cdv A outer s H E hr=>?_
 unfold M.jv
 exact (zL (jD (i:=3) Qm.nd rfl (Or.inl (by kernel_rfl)) (zm (j0 hr) ja (vv 1) zJ))
  (zI (jC (zj (ju hr) qV (vv 3) zz (jI _))
  (zL (zZ (yY PySem.F.plainAttrs_list PySem.F.slot_list_append PySem.F.type_list_append yn ym rfl (jH (i:=5) zE rfl (vv 0)) (zB (jE (zB zz (zB (zR zE6 zDU (jj yP QB gk jf QK (zB (vv 1) zF)) zJ) zF))) zF)))
  (zI (zZ (jJ zE qh hr (by decide) (by decide +kernel) (vv 0) (zB (zAD zEa zCb (vv 1) (ZH zJ) zAO) (zB (vv 2) zF)) (zM (zM ze))))))
  (zI (jC (zj (ju hr) qV (vv 3) zz (jI _))
  (zL (zZ (yY PySem.F.plainAttrs_list PySem.F.slot_list_append PySem.F.type_list_append yn ym rfl (jH (i:=5) zE rfl (vv 0)) (zB (jE (zB zz (zB (vv 1) (zB (vv 2) zF)))) zF)))
  (zI (zZ (jJ zE qh hr (by decide) (by decide +kernel) (vv 0) (zB (zAD zEa zCb (vv 1) (ZH zJ) (ZH zJ)) (zB (vv 2) zF)) (zM (zM ze))))))
  (zI (jC (zj (ju hr) qV (vv 3) zz (jI _))
  (zL (zZ (yY PySem.F.plainAttrs_list PySem.F.slot_list_append PySem.F.type_list_append yn ym rfl (jH (i:=5) zE rfl (vv 0)) (zB (jE (zB zz (zB (zm (j0 hr) ja (vv 1) zJ) zF))) zF)))
  (zI (zZ (jJ zE qh hr (by decide) (by decide +kernel) (vv 0) (zB (zAD zEa zCb (vv 1) (ZH zJ) (ZH zJ)) (zB (vv 2) zF)) (zM (zM ze))))))
  (zL (zZ (yY PySem.F.plainAttrs_list PySem.F.slot_list_append PySem.F.type_list_append yn ym rfl (jH (i:=5) zE rfl (vv 0)) (zB (jE (zB (vv 3) zF)) zF)))
  (zI (zZ (jJ zE qh hr (by decide) (by decide +kernel) (vv 0) (zB (zAD zEa zCb (vv 1) (ZH zJ) zAO) (zB (vv 2) zF)) (zM (zM ze)))))))))))))
noncomputable abbrev yU:Stmt:=yJ (top 17) 5
noncomputable abbrev zBP:List Str:=["self","part","it"]
theorem zEM:zy zBP ["self","part","it"] (zK yU):=⟨rfl,rfl,rfl,by decide +kernel,rfl,by decide +kernel,by decide +kernel⟩
theorem zED (F:Fun K "begin" "Working.begin" yU f fd) (zE:jA K zA) (qB:Qd P w K mg base zA) (zu:q8 P w K mg base zA) (Z0:Jn P w K mg base zA) (jd:y0 P w K mg base zA) (ZV:JB P w K mg base zA) (zBE:Jy mg "MOST_STEPS" (.int 500)) :
  jU P w K mg base CX0 4 f fd ["self","part","it"] (SpM K (Θ1 zA) 3 M.jx):=by
 refine qS (N:=zBP) (b:=M.jX) F zEM fun cdv A outer s H E hr=>?_
 unfold M.jX
 exact (zL (zIZ (i:=3) zE rfl (vv 0) zJ zO2 zM8)
  (zI (jC (zj zEI zCo (jH (i:=3) zE rfl (vv 0)) (zCW zBE gk (fun _ _=>rfl)) (jI _))
  (zI (zZ (jJ zE qB hr (by decide) (by decide +kernel) (vv 0) (zB zz zF) (zM ze))))
  (zI (jC (zj (zKr hr) zN0 (zm (j0 hr) ja (vv 1) zJ) (jE (zB zz (zB zz (zB zz (zB zz zF))))) (by rfl))
  (zI (zZ (jJ zE zu hr (by decide) (by decide +kernel) (vv 0) (zB (jJ zE Z0 hr (by decide) (by decide +kernel) (vv 0) (zB (vv 1) (zB (vv 2) zF)) (zM (zM ze))) zF) (zM ze))))
  (zI (jC (zj (ju hr) qV (zm (j0 hr) ja (vv 1) zJ) zz (jI _))
  (zI (zZ (jJ zE jd hr (by decide) (by decide +kernel) (vv 0) (zB (zm (j0 hr) ja (vv 1) zJ) zF) (zM ze))))
  (zI (jC (zj (ju hr) qV (zm (j0 hr) ja (vv 1) zJ) zz (jI _))
  (zI (zZ (jJ zE jd hr (by decide) (by decide +kernel) (vv 0) (zB (zR (OpR.or yD jz) qb (zR (OpR.or yD jz) qb (zm (j0 hr) ja (vv 1) zJ) zz) (jH (i:=0) zE rfl (vv 0))) zF) (zM ze))))
  (zI (zZ (jJ zE ZV hr (by decide) (by decide +kernel) (vv 0) (zB (vv 1) (zB (vv 2) zF)) (zM (zM ze))))))))))))))
noncomputable abbrev qr:Stmt:=yJ (top 17) 9
noncomputable abbrev zAU:List Str:=["self","number","texts"]
theorem Jo:zy zAU ["self","number"] (zK qr):=⟨rfl,rfl,rfl,by decide +kernel,rfl,by decide +kernel,by decide +kernel⟩
theorem zB9:(["self","number","texts","part"]:List Str).Nodup:=by decide +kernel
theorem zC4 (F:Fun K "end_join" "Working.end_join" qr f fd) (zE:jA K zA) (zu:q8 P w K mg base zA) (qa:mg "range" = none) (Qg:mg "reversed" = none) :
  jU P w K mg base CX0 3 f fd ["self","number"] (SpM K (Θ1 zA) 2 M.jy):=by
 refine qS (N:=zAU) (b:=M.yT) F Jo fun cdv A outer s H E hr=>?_
 unfold M.yT
 exact (zL (zHn (vars:=["part"]) (i:=2) rfl ⟨rfl,rfl,(by kernel_rfl),(by kernel_rfl),(by decide +kernel),⟨(by kernel_rfl),trivial⟩,(by kernel_rfl)⟩ Jo.nd rfl (Or.inl (by kernel_rfl)) (Qk gk qa (vv 1)) (fun _ _ _ _=>(yl (i:=3) zB9 rfl (Or.inl (by kernel_rfl)) (.inr (by kernel_rfl)))) (fun _ _ _ _=>zEe) (fun _ _ _ _=>(JM PySem.F.plainAttrs_list PySem.F.slot_list_pop PySem.F.type_list_pop zAS zAM rfl (jH (i:=4) zE rfl (vc 0)))) (by kernel_rfl))
  (zI (zZ (jJ zE zu hr (by decide) (by decide +kernel) (vc 0) (zB (zG7 (by decide +kernel) (by decide +kernel) hr gk Qg (vv 2)) zF) (zM ze)))))
noncomputable abbrev yK:Stmt:=yJ (top 17) 10
noncomputable abbrev zA9:List Str:=["self","part","it","second","first"]
theorem Qj:zy zA9 ["self","part","it"] (zK yK):=⟨rfl,rfl,rfl,by decide +kernel,rfl,by decide +kernel,by decide +kernel⟩
theorem zDv (F:Fun K "choose" "Working.choose" yK f fd) (zE:jA K zA) :
  jU P w K mg base CX0 1 f fd ["self","part","it"] (SpM K (Θ1 zA) 3 M.yH):=by
 refine qS (N:=zA9) (b:=M.yz) F Qj fun cdv A outer s H E hr=>?_
 unfold M.yz
 exact (zL (jD (i:=3) Qj.nd rfl (Or.inl (by kernel_rfl)) (JM PySem.F.plainAttrs_list PySem.F.slot_list_pop PySem.F.type_list_pop zAS zAM rfl (jH (i:=4) zE rfl (vv 0))))
  (zL (jD (i:=4) Qj.nd rfl (Or.inl (by kernel_rfl)) (JM PySem.F.plainAttrs_list PySem.F.slot_list_pop PySem.F.type_list_pop zAS zAM rfl (jH (i:=4) zE rfl (vv 0))))
  (zI (zZ (yY PySem.F.plainAttrs_list PySem.F.slot_list_append PySem.F.type_list_append yn ym rfl (jH (i:=5) zE rfl (vv 0)) (zB (jE (zB zz (zB (zJo (zj (ju hr) qV (vv 4) (vv 3) (jI _)) (zm (j0 hr) ja (vv 1) zJ) (zm (j0 hr) ja (vv 1) zJ)) (zB (vv 2) zF)))) zF))))))
noncomputable abbrev QU:Stmt:=top 7
noncomputable abbrev zKH:List Str:=["text"]
theorem zIm:zy zKH ["text"] (zK QU):=⟨rfl,rfl,rfl,by decide +kernel,rfl,by decide +kernel,by decide +kernel⟩
theorem zGr:(["text","word"]:List Str).Nodup:=by decide +kernel
theorem zIe (F:Fun K "words_of" "words_of" QU f fd) :
  jU P w K mg base CX0 1 f fd ["text"] (SpM K (Θ1 zA) 1 M.jq):=by
 refine yw (b:=M.zAm) F zIm M.zIr fun cdv A outer s H E hr=>?_
 unfold M.zAm
 exact (zI (z8 (zK8 (vars:=["word"]) rfl ⟨rfl,rfl,(by kernel_rfl),(by kernel_rfl),(by decide +kernel),trivial,(by kernel_rfl)⟩ (zFC (yY PySem.F.plainAttrs_str PySem.F.slot_str_split PySem.F.type_str_split zHf zHL rfl (zKm (vv 0) (by decide +kernel) (by decide +kernel) rfl (by decide +kernel)) (zB zz zF))) (fun _ _ _ _=>(yl (i:=1) zGr rfl (Or.inl (by kernel_rfl)) (.inr (by kernel_rfl)))) (fun _ _ _ _=>(zPS (zj (zH3 hr) zKF (vv 1) zz (jI _)))) (fun _ _ _ _=>(vv 1)) (by kernel_rfl))))
noncomputable abbrev qL:Stmt:=yJ (top 17) 13
noncomputable abbrev JF:List Str:=["self","part","words","number"]
theorem zBY:zy JF ["self","part","words","number"] (zK qL):=⟨rfl,rfl,rfl,by decide +kernel,rfl,by decide +kernel,by decide +kernel⟩
theorem zBf (F:Fun K "go_on_round" "Working.go_on_round" qL f fd) (zE:jA K zA) (jf:mg "len" = none) :
  jU P w K mg base CX0 1 f fd ["self","part","words","number"] (SpM K (Θ1 zA) 4 M.jG):=by
 refine qS (N:=JF) (b:=M.qq) F zBY fun cdv A outer s H E hr=>?_
 unfold M.qq
 exact (zI (jC (zj zP6 zNu (vv 3) (jj yP QB gk jf QK (zB (vv 2) zF)) (jI _))
  (zL (zZ (yY PySem.F.plainAttrs_list PySem.F.slot_list_append PySem.F.type_list_append yn ym rfl (jH (i:=5) zE rfl (vv 0)) (zB (jE (zB zz (zB (vv 1) (zB (vv 2) (zB (zR (OpR.or yD jz) qb (vv 3) zJ) zF))))) zF)))
  (zI (zZ (yY PySem.F.plainAttrs_list PySem.F.slot_list_append PySem.F.type_list_append yn ym rfl (jH (i:=5) zE rfl (vv 0)) (zB (jE (zB zz (zB (vv 1) (zB (zm (j0 hr) ja (vv 2) (vv 3)) zF)))) zF)))))
  jl))
noncomputable abbrev qX:Stmt:=yJ (top 17) 11
noncomputable abbrev JR:List Str:=["self","part","words"]
theorem JA:zy JR ["self","part"] (zK qX):=⟨rfl,rfl,rfl,by decide +kernel,rfl,by decide +kernel,by decide +kernel⟩
theorem zCB (F:Fun K "begin_each" "Working.begin_each" qX f fd) (zE:jA K zA) (j7:Qc P w K mg base zA) (qM:ZP P w K mg base zA) :
  jU P w K mg base CX0 2 f fd ["self","part"] (SpM K (Θ1 zA) 2 M.qY):=by
 refine qS (N:=JR) (b:=M.Zf) F JA fun cdv A outer s H E hr=>?_
 unfold M.Zf
 exact (zL (jD (i:=2) JA.nd rfl (Or.inl (by kernel_rfl)) (jN j7 hr (by decide) gk (zB (JM PySem.F.plainAttrs_list PySem.F.slot_list_pop PySem.F.type_list_pop zAS zAM rfl (jH (i:=4) zE rfl (vv 0))) zF) (zM ze)))
  (zL (zZ (yY PySem.F.plainAttrs_list PySem.F.slot_list_append PySem.F.type_list_append yn ym rfl (jH (i:=4) zE rfl (vv 0)) (zB zz zF)))
  (zI (zZ (jJ zE qM hr (by decide) (by decide +kernel) (vv 0) (zB (vv 1) (zB (vv 2) (zB zJ zF))) (zM (zM (zM ze))))))))
noncomputable abbrev qm:Stmt:=yJ (top 17) 12
noncomputable abbrev zAQ:List Str:=["self","part","words","number","text"]
theorem Jp:zy zAQ ["self","part","words","number"] (zK qm):=⟨rfl,rfl,rfl,by decide +kernel,rfl,by decide +kernel,by decide +kernel⟩
theorem zC3 (F:Fun K "go_round" "Working.go_round" qm f fd) (zE:jA K zA) (zu:q8 P w K mg base zA) (qM:ZP P w K mg base zA) :
  jU P w K mg base CX0 3 f fd ["self","part","words","number"] (SpM K (Θ1 zA) 4 M.qo):=by
 refine qS (N:=zAQ) (b:=M.QL) F Jp fun cdv A outer s H E hr=>?_
 unfold M.QL
 exact (zL (jD (i:=4) Jp.nd rfl (Or.inl (by kernel_rfl)) (JM PySem.F.plainAttrs_list PySem.F.slot_list_pop PySem.F.type_list_pop zAS zAM rfl (jH (i:=4) zE rfl (vv 0))))
  (zL (zZ (jJ zE zu hr (by decide) (by decide +kernel) (vv 0) (zB (zR (OpR.or yD jz) qb (JM PySem.F.plainAttrs_list PySem.F.slot_list_pop PySem.F.type_list_pop zAS zAM rfl (jH (i:=4) zE rfl (vv 0))) (vv 4)) zF) (zM ze)))
  (zI (zZ (jJ zE qM hr (by decide) (by decide +kernel) (vv 0) (zB (vv 1) (zB (vv 2) (zB (vv 3) zF))) (zM (zM (zM ze))))))))
noncomputable abbrev Zp:Stmt:=top 4
noncomputable abbrev zIU:List Str:=["sign"]
theorem zHq:zy zIU ["sign"] (zK Zp):=⟨rfl,rfl,rfl,by decide +kernel,rfl,by decide +kernel,by decide +kernel⟩
theorem zHY (F:Fun K "is_letter" "is_letter" Zp f fd) :
  jU P w K mg base CX0 1 f fd ["sign"] (SpM K (Θ1 zA) 1 M.Zs):=by
 refine yw (b:=M.zAF) F zHq M.zIA fun cdv A outer s H E hr=>?_
 unfold M.zAF
 exact (zI (z8 (zKL zHU zHU zEv zEv zz (vv 0) zz)))
noncomputable abbrev QZ:Stmt:=top 5
noncomputable abbrev zJd:List Str:=["thing"]
theorem zIX:zy zJd ["thing"] (zK QZ):=⟨rfl,rfl,rfl,by decide +kernel,rfl,by decide +kernel,by decide +kernel⟩
theorem zGk:(["thing","sign"]:List Str).Nodup:=by decide +kernel
theorem zIo (F:Fun K "is_plain" "is_plain" QZ f fd) (zBl:zDy P w K mg base zA) (zDu:mg "all" = none) (qT:mg "isinstance" = none) (zAs:mg "str" = none) (jf:mg "len" = none) {y7:Addr} (zBF:Jy mg "KEPT_WORDS" (.ref y7)) (zBG:∀ H,SqT K H y7 [(.str "of"),(.str "if"),(.str "is"),(.str "then"),(.str "else"),(.str "each"),(.str "do"),(.str "it"),(.str "back"),(.str "first"),(.str "rest"),(.str "count"),(.str "sorted"),(.str "fail"),(.str "line"),(.str "more")]) (zAE:Jy mg "MOST_LETTERS" (.int 8)) :
  jU P w K mg base CX0 2 f fd ["thing"] (SpM K (Θ1 zA) 1 M.qG):=by
 refine yw (b:=M.qF) F zIX M.zIk fun cdv A outer s H E hr=>?_
 unfold M.qF
 exact (zL (jC (zHt (zPN (zEH (zEY (jj zEJ zHc gk qT zAe (zB (vv 0) (zB (zFm .str gk zAs zIG) zF))))) (zIa (zEH (zJf zHU zHU zEv zEv zJ (jj yP QB gk jf QK (zB (vv 0) zF)) (zCW zAE gk (fun _ _=>rfl)))))))
  (zI (z8 zDl))
  jl)
  (zI (z8 (zA8 (zFI (zIH rfl) zJM gk zDu zKe (vars:=["sign"]) rfl ⟨rfl,rfl,(by kernel_rfl),(by kernel_rfl),(by decide +kernel),trivial,(by kernel_rfl)⟩ (zFC (vv 0)) (fun _ _ _ _=>(yl (i:=1) zGk rfl (Or.inl (by kernel_rfl)) (.inr (by kernel_rfl)))) (fun _ _ _ _=>zEe) (fun _ _ _ _=>(jN zBl hr (by decide) gk (zB (vv 1) zF) (zM ze))) (by kernel_rfl)) (zEc (Z9 (zLW hr) zMf (vv 0) (zKc zBF gk fun ρ H=>⟨_,_,rfl,zBG H,⟨_,_,rfl,⟨by decide +kernel,by decide +kernel⟩,⟨_,_,rfl,⟨by decide +kernel,by decide +kernel⟩,⟨_,_,rfl,⟨by decide +kernel,by decide +kernel⟩,⟨_,_,rfl,⟨by decide +kernel,by decide +kernel⟩,⟨_,_,rfl,⟨by decide +kernel,by decide +kernel⟩,⟨_,_,rfl,⟨by decide +kernel,by decide +kernel⟩,⟨_,_,rfl,⟨by decide +kernel,by decide +kernel⟩,⟨_,_,rfl,⟨by decide +kernel,by decide +kernel⟩,⟨_,_,rfl,⟨by decide +kernel,by decide +kernel⟩,⟨_,_,rfl,⟨by decide +kernel,by decide +kernel⟩,⟨_,_,rfl,⟨by decide +kernel,by decide +kernel⟩,⟨_,_,rfl,⟨by decide +kernel,by decide +kernel⟩,⟨_,_,rfl,⟨by decide +kernel,by decide +kernel⟩,⟨_,_,rfl,⟨by decide +kernel,by decide +kernel⟩,⟨_,_,rfl,⟨by decide +kernel,by decide +kernel⟩,⟨_,_,rfl,⟨by decide +kernel,by decide +kernel⟩,rfl⟩⟩⟩⟩⟩⟩⟩⟩⟩⟩⟩⟩⟩⟩⟩⟩⟩) (by rfl)))))))
noncomputable abbrev Q8:Stmt:=top 6
noncomputable abbrev zLD:List Str:=["thing","parts"]
theorem zFO:zy zLD ["thing"] (zK Q8):=⟨rfl,rfl,rfl,by decide +kernel,rfl,by decide +kernel,by decide +kernel⟩
theorem zH0:(["thing","parts","part"]:List Str).Nodup:=by decide +kernel
theorem zJm (F:Fun K "is_name" "is_name" Q8 f fd) (zCp:zE9 P w K mg base zA) (qT:mg "isinstance" = none) (zAs:mg "str" = none) (zDu:mg "all" = none) (jf:mg "len" = none) :
  jU P w K mg base CX0 3 f fd ["thing"] (SpM K (Θ1 zA) 1 M.qR):=by
 refine yw (b:=M.yB) F zFO M.zKW fun cdv A outer s H E hr=>?_
 unfold M.yB
 exact (zL (jC (zEH (zEY (jj zEJ zHc gk qT zAe (zB (vv 0) (zB (zFm .str gk zAs zIG) zF)))))
  (zI (z8 zDl))
  jl)
  (zL (jD (i:=1) zFO.nd rfl (Or.inl (by kernel_rfl)) (yY PySem.F.plainAttrs_str PySem.F.slot_str_split PySem.F.type_str_split zHf zHL rfl (vv 0) (zB zz zF)))
  (zI (z8 (zA8 (Z9 zHU zEv (jj yP QB gk jf QK (zB (vv 1) zF)) zJ (jI _)) (zEc (zFI (zIH rfl) zJM gk zDu zKe (vars:=["part"]) rfl ⟨rfl,rfl,(by kernel_rfl),(by kernel_rfl),(by decide +kernel),trivial,(by kernel_rfl)⟩ (zFC (vv 1)) (fun _ _ _ _=>(yl (i:=2) zH0 rfl (Or.inl (by kernel_rfl)) (.inr (by kernel_rfl)))) (fun _ _ _ _=>zEe) (fun _ _ _ _=>(jN zCp hr (by decide) gk (zB (vv 2) zF) (zM ze))) (by kernel_rfl))))))))
noncomputable abbrev yu:Stmt:=top 13
noncomputable abbrev zFi:List Str:=["text"]
theorem zEn:zy zFi ["text"] (zK yu):=⟨rfl,rfl,rfl,by decide +kernel,rfl,by decide +kernel,by decide +kernel⟩
theorem zFV (F:Fun K "sorted_words" "sorted_words" yu f fd) (j7:Qc P w K mg base zA) (zEg:mg "sorted" = none) :
  jU P w K mg base CX0 2 f fd ["text"] (SpM K (Θ1 zA) 1 M.ZT):=by
 refine yw (b:=M.QT) F zEn M.zEk fun cdv A outer s H E hr=>?_
 unfold M.QT
 exact (zI (z8 (yY PySem.F.plainAttrs_str PySem.F.slot_str_join PySem.F.type_str_join zDm zDf rfl zz (zB (jj (zII hr) zKl gk zEg zLS (zB (jN j7 hr (by decide) gk (zB (vv 0) zF) (zM ze)) zF)) zF))))
noncomputable abbrev yq:Stmt:=top 9
noncomputable abbrev zF7:List Str:=["text"]
theorem zEz:zy zF7 ["text"] (zK yq):=⟨rfl,rfl,rfl,by decide +kernel,rfl,by decide +kernel,by decide +kernel⟩
theorem zEo (F:Fun K "turned_about" "turned_about" yq f fd) :
  jU P w K mg base CX0 1 f fd ["text"] (SpM K (Θ1 zA) 1 M.ZR):=by
 refine yw (b:=M.QX) F zEz M.zE7 fun cdv A outer s H E hr=>?_
 unfold M.QX
 exact (zI (z8 (zHB (vv 0))))
noncomputable abbrev ZO:Stmt:=top 10
noncomputable abbrev zHV:List Str:=["text"]
theorem zGn:zy zHV ["text"] (zK ZO):=⟨rfl,rfl,rfl,by decide +kernel,rfl,by decide +kernel,by decide +kernel⟩
theorem zGd (F:Fun K "first_word" "first_word" ZO f fd) (j7:Qc P w K mg base zA) :
  jU P w K mg base CX0 2 f fd ["text"] (SpM K (Θ1 zA) 1 M.QI):=by
 refine yw (b:=M.JU) F zGn M.zGj fun cdv A outer s H E hr=>?_
 unfold M.JU
 exact (zI (z8 (yY PySem.F.plainAttrs_str PySem.F.slot_str_join PySem.F.type_str_join zDm zDf rfl zz (zB (zAD zEa zCb (jN j7 hr (by decide) gk (zB (vv 0) zF) (zM ze)) zAO (ZH zJ)) zF))))
noncomputable abbrev ZS:Stmt:=top 11
noncomputable abbrev zHS:List Str:=["text"]
theorem zGa:zy zHS ["text"] (zK ZS):=⟨rfl,rfl,rfl,by decide +kernel,rfl,by decide +kernel,by decide +kernel⟩
theorem zGf (F:Fun K "rest_words" "rest_words" ZS f fd) (j7:Qc P w K mg base zA) :
  jU P w K mg base CX0 2 f fd ["text"] (SpM K (Θ1 zA) 1 M.QE):=by
 refine yw (b:=M.Je) F zGa M.zGb fun cdv A outer s H E hr=>?_
 unfold M.Je
 exact (zI (z8 (yY PySem.F.plainAttrs_str PySem.F.slot_str_join PySem.F.type_str_join zDm zDf rfl zz (zB (zAD zEa zCb (jN j7 hr (by decide) gk (zB (vv 0) zF) (zM ze)) (ZH zJ) zAO) zF))))
noncomputable abbrev Q7:Stmt:=top 12
noncomputable abbrev zLU:List Str:=["text"]
theorem zJ6:zy zLU ["text"] (zK Q7):=⟨rfl,rfl,rfl,by decide +kernel,rfl,by decide +kernel,by decide +kernel⟩
theorem zKM (F:Fun K "counted" "counted" Q7 f fd) (j7:Qc P w K mg base zA) (zAs:mg "str" = none) (jf:mg "len" = none) :
  jU P w K mg base CX0 2 f fd ["text"] (SpM K (Θ1 zA) 1 M.zAY):=by
 refine yw (b:=M.zBV) F zJ6 M.zKT fun cdv A outer s H E hr=>?_
 unfold M.zBV
 exact (zI (z8 (Zu zK6 zPv gk zAs zIG (zB (jj yP QB gk jf QK (zB (jN j7 hr (by decide) gk (zB (vv 0) zF) (zM ze)) zF)) zF))))
noncomputable abbrev jb:Stmt:=top 16
noncomputable abbrev JK:List Str:=["kind","text"]
theorem zKO:zy JK ["kind","text"] (zK jb):=⟨rfl,rfl,rfl,by decide +kernel,rfl,by decide +kernel,by decide +kernel⟩
theorem zIF (ZW:zAC P w K mg base zA) (hr:RM 2 "made_of" jb A s f cdv):WS (cX P w K mg base JK "made_of" jb f cdv A outer s H E) (Θ1 zA) (bd jb 0) M.yo:=by
 unfold M.yo
 exact (jC (zj (ju hr) qV (vv 0) zz (jI _))
  (zI (z8 (jN ZW hr (by decide) gk (zB (vv 1) zF) (zM ze))))
  jl)
theorem zIN (QM:zAx P w K mg base zA) (hr:RM 2 "made_of" jb A s f cdv):WS (cX P w K mg base JK "made_of" jb f cdv A outer s H E) (Θ1 zA) (bd jb 1) M.ZI:=by
 unfold M.ZI
 exact (jC (zj (ju hr) qV (vv 0) zz (jI _))
  (zI (z8 (jN QM hr (by decide) gk (zB (vv 1) zF) (zM ze))))
  jl)
theorem zIE (QN:zAw P w K mg base zA) (hr:RM 2 "made_of" jb A s f cdv):WS (cX P w K mg base JK "made_of" jb f cdv A outer s H E) (Θ1 zA) (bd jb 2) M.Zr:=by
 unfold M.Zr
 exact (jC (zj (ju hr) qV (vv 0) zz (jI _))
  (zI (z8 (jN QN hr (by decide) gk (zB (vv 1) zF) (zM ze))))
  jl)
theorem zHQ (zAa:zDY P w K mg base zA) (hr:RM 2 "made_of" jb A s f cdv):WS (cX P w K mg base JK "made_of" jb f cdv A outer s H E) (Θ1 zA) (bd jb 3) M.Qn:=by
 unfold M.Qn
 exact (jC (zj (ju hr) qV (vv 0) zz (jI _))
  (zI (z8 (jN zAa hr (by decide) gk (zB (vv 1) zF) (zM ze))))
  jl)
theorem zH9 (ZX:Ju P w K mg base zA) (hr:RM 2 "made_of" jb A s f cdv):WS (cX P w K mg base JK "made_of" jb f cdv A outer s H E) (Θ1 zA) (bd jb 4) M.zAJ:=by
 unfold M.zAJ
 exact (z8 (jN ZX hr (by decide) gk (zB (vv 1) zF) (zM ze)))
theorem zKK (F:Fun K "made_of" "made_of" jb f fd) (ZX:Ju P w K mg base zA) (ZW:zAC P w K mg base zA) (QM:zAx P w K mg base zA) (QN:zAw P w K mg base zA) (zAa:zDY P w K mg base zA) :
  jU P w K mg base CX0 3 f fd ["kind","text"] (SpM K (Θ1 zA) 2 M.zAT):=by
 refine yw (b:=M.ZY) F zKO M.zKG fun cdv A outer s H E hr=>?_
 unfold M.ZY
 exact (zL (zIF ZW hr) (zL (zIN QM hr) (zL (zIE QN hr) (zL (zHQ zAa hr) (zI (zH9 ZX hr))))))
noncomputable abbrev qZ:Stmt:=yJ (top 17) 14
noncomputable abbrev Jg:List Str:=["self","kind","text"]
theorem JH:zy Jg ["self","kind"] (zK qZ):=⟨rfl,rfl,rfl,by decide +kernel,rfl,by decide +kernel,by decide +kernel⟩
theorem zBy (F:Fun K "end_single" "Working.end_single" qZ f fd) (zE:jA K zA) (qB:Qd P w K mg base zA) (zu:q8 P w K mg base zA) (zDd:zGM P w K mg base zA) (zDe:zGD P w K mg base zA) (jd:y0 P w K mg base zA) :
  jU P w K mg base CX0 4 f fd ["self","kind"] (SpM K (Θ1 zA) 2 M.jZ):=by
 refine qS (N:=Jg) (b:=M.jK) F JH fun cdv A outer s H E hr=>?_
 unfold M.jK
 exact (zL (jD (i:=2) JH.nd rfl (Or.inl (by kernel_rfl)) (JM PySem.F.plainAttrs_list PySem.F.slot_list_pop PySem.F.type_list_pop zAS zAM rfl (jH (i:=4) zE rfl (vv 0))))
  (zI (jC (zj (ju hr) qV (vv 1) zz (jI _))
  (zI (zZ (jJ zE qB hr (by decide) (by decide +kernel) (vv 0) (zB (vv 2) zF) (zM ze))))
  (zI (jC (zj (zH3 hr) zKF (vv 1) zz (jI _))
  (zI (zZ (jJ zE zu hr (by decide) (by decide +kernel) (vv 0) (zB (jN zDe hr (by decide) gk (zB (vv 1) (zB (vv 2) zF)) (zM (zM ze))) zF) (zM ze))))
  (zI (jC (zEY (jN zDd hr (by decide) gk (zB (vv 2) zF) (zM ze)))
  (zI (zZ (jJ zE jd hr (by decide) (by decide +kernel) (vv 0) (zB (vv 2) zF) (zM ze))))
  (zI (zZ (jJ zE qB hr (by decide) (by decide +kernel) (vv 0) (zB zz zF) (zM ze)))))))))))
noncomputable abbrev ZD:Stmt:=yJ (top 17) 1
noncomputable abbrev zCy:List Str:=["self","task"]
theorem zB0:zy zCy ["self"] (zK ZD):=⟨rfl,rfl,rfl,by decide +kernel,rfl,by decide +kernel,by decide +kernel⟩
theorem zFw (F:Fun K "run" "Working.run" ZD f fd) (zE:jA K zA) (Jj:zBW P w K mg base zA) (QO:zAR P w K mg base zA) (Q5:zA4 P w K mg base zA) (Zj:JV P w K mg base zA) (QP:zAV P w K mg base zA) (Zk:JY P w K mg base zA) (jf:mg "len" = none) :
  jU P w K mg base CX0 5 f fd ["self"] (SpM K (Θ1 zA) 1 M.ZE):=by
 refine qS (N:=zCy) (b:=M.Zo) F zB0 fun cdv A outer s H E hr=>?_
 unfold M.Zo
 exact (zL (zJi PassesOwn.never (zHt (zMQ (zHX (jH (i:=6) zE rfl (vv 0))) (zHD (zj zEI zCo (jj yP QB gk jf QK (zB (jH (i:=5) zE rfl (vv 0)) zF)) zJ (jI _)))))
  (zL (jD (i:=1) zB0.nd rfl (Or.inl (by kernel_rfl)) (JM PySem.F.plainAttrs_list PySem.F.slot_list_pop PySem.F.type_list_pop zAS zAM rfl (jH (i:=5) zE rfl (vv 0))))
  (zI (jC (zj (ju hr) qV (zm (j0 hr) ja (vv 1) zJ) zz (jI _))
  (zI (zZ (jJ zE Jj hr (by decide) (by decide +kernel) (vv 0) (zB (zm (j0 hr) ja (vv 1) zJ) (zB (zm (j0 hr) ja (vv 1) zJ) zF)) (zM (zM ze)))))
  (zI (jC (zj (ju hr) qV (zm (j0 hr) ja (vv 1) zJ) zz (jI _))
  (zI (zZ (jJ zE QO hr (by decide) (by decide +kernel) (vv 0) (zB (zm (j0 hr) ja (vv 1) zJ) zF) (zM ze))))
  (zI (jC (zj (ju hr) qV (zm (j0 hr) ja (vv 1) zJ) zz (jI _))
  (zI (zZ (jJ zE Q5 hr (by decide) (by decide +kernel) (vv 0) (zB (zm (j0 hr) ja (vv 1) zJ) (zB (zm (j0 hr) ja (vv 1) zJ) zF)) (zM (zM ze)))))
  (zI (jC (zj (ju hr) qV (zm (j0 hr) ja (vv 1) zJ) zz (jI _))
  (zI (zZ (jJ zE Zj hr (by decide) (by decide +kernel) (vv 0) (zB (zm (j0 hr) ja (vv 1) zJ) zF) (zM ze))))
  (zI (jC (zj (ju hr) qV (zm (j0 hr) ja (vv 1) zJ) zz (jI _))
  (zI (zZ (jJ zE QP hr (by decide) (by decide +kernel) (vv 0) (zB (zm (j0 hr) ja (vv 1) zJ) (zB (zm (j0 hr) ja (vv 1) zJ) (zB (zm (j0 hr) ja (vv 1) zJ) zF))) (zM (zM (zM ze))))))
  (zI (zZ (jJ zE Zk hr (by decide) (by decide +kernel) (vv 0) (zB (zm (j0 hr) ja (vv 1) zJ) zF) (zM ze))))))))))))))))
  (zL (jC (zHX (jH (i:=6) zE rfl (vv 0)))
  (zI (z8 (jE (zB zz (zB (zm (j0 hr) ja (jH (i:=4) zE rfl (vv 0)) zJ) zF)))))
  jl)
  (zI (z8 (jH (i:=6) zE rfl (vv 0))))))
noncomputable abbrev J0:Stmt:=top 18
noncomputable abbrev zHr:List Str:=["tree","stem","answers","working","came"]
theorem zDL:zy zHr ["tree","stem","answers"] (zK J0):=⟨rfl,rfl,rfl,by decide +kernel,rfl,by decide +kernel,by decide +kernel⟩
theorem zLf (F:Fun K "worked" "worked" J0 f fd) (zE:jA K zA) (QQ:zAP P w K mg base zA) (zAf:zCz P w K mg base zA) (zIQ:mg "list" = none) :
  jU P w K mg base CX0 6 f fd ["tree","stem","answers"] (SpM K (Θ1 zA) 3 M.Jw):=by
 refine qS (N:=zHr) (b:=M.zA6) F zDL fun cdv A outer s H E hr=>?_
 unfold M.zA6
 exact (zL (jD (i:=3) zDL.nd rfl (Or.inl (by kernel_rfl)) (zK0 zE QQ hr (by decide) rfl gk (zB (vv 0) (zB (vv 1) (zB (vv 2) zF))) (zM (zM (zM ze)))))
  (zL (jD (i:=4) zDL.nd rfl (Or.inl (by kernel_rfl)) (zKZ zE zAf hr (by decide) (by decide +kernel) (vv 3)))
  (zI (z8 (jE (zB (vv 4) (zB (Zu (zJ4 hr) zOW gk zIQ zOG (zB (jH (i:=2) zE rfl (vv 3)) zF)) zF)))))))
noncomputable abbrev jQ:Stmt:=top 22
noncomputable abbrev Qf:List Str:=["_law_word","_law_many","_law_parts","_law_ahead","_law_steps","_law_text","_law_k","_law_part"]
theorem qy:zy Qf ["_law_word","_law_many","_law_parts","_law_ahead"] (zK jQ):=⟨rfl,rfl,rfl,by decide +kernel,rfl,by decide +kernel,by decide +kernel⟩
theorem zGg (hr:RM 0 "_law_due" jQ A s f cdv):WS (cX P w K mg base Qf "_law_due" jQ f cdv A outer s H E) (Θ1 zA) (bd jQ 0) M.Z7:=by
 unfold M.Z7
 exact (jD (i:=4) qy.nd rfl (Or.inl (by kernel_rfl)) (zR (OpR.or yD jz) qb (vv 3) zJ))
theorem zGi (hr:RM 0 "_law_due" jQ A s f cdv):WS (cX P w K mg base Qf "_law_due" jQ f cdv A outer s H E) (Θ1 zA) (bd jQ 1) M.QD:=by
 unfold M.QD
 exact (jD (i:=5) qy.nd rfl (Or.inl (by kernel_rfl)) zz)
theorem zGo (qa:mg "range" = none) (jf:mg "len" = none) (Jk:mg "int" = none) (hr:RM 0 "_law_due" jQ A s f cdv):WS (cX P w K mg base Qf "_law_due" jQ f cdv A outer s H E) (Θ1 zA) (bd jQ 2) M.QJ:=by
 unfold M.QJ
 exact (Js PassesOwn.never rfl (Qk gk qa (vv 1)) (yl (i:=6) qy.nd rfl (Or.inl (by kernel_rfl)) (.inl rfl))
  (zL (jD (i:=4) qy.nd rfl (Or.inl (by kernel_rfl)) (zR (OpR.or yD jz) qb (vv 4) zJ))
  (zL (jC (zj zEI zCo (vv 4) zJ (jI _))
  (zI (z8 (jE (zB zz (zB zz zF)))))
  jl)
  (zL (Js PassesOwn.never rfl (zFC (vv 2)) (yl (i:=7) qy.nd rfl (Or.inl (by kernel_rfl)) (.inl rfl))
  (zL (jD (i:=4) qy.nd rfl (Or.inl (by kernel_rfl)) (zR (OpR.or yD jz) qb (zR (OpR.or yD jz) qb (vv 4) zJ) (Zu zDJ zG9 gk Jk zHM (zB (Z9 (ju hr) qV (zm (j0 hr) ja (vv 7) zJ) zz (jI _)) zF))))
  (zL (jC (zj zEI zCo (vv 4) zJ (jI _))
  (zI (z8 (jE (zB zz (zB zz zF)))))
  jl)
  (zI (jD (i:=5) qy.nd rfl (Or.inl (by kernel_rfl)) (zR (OpR.or yD jz) qb (vv 5) (zm (j0 hr) ja (Zh (zB (vv 0) (zB (zm (j0 hr) ja (vv 7) (zPC zHm zQw zJ)) zF))) (Zu zDJ zG9 gk Jk zHM (zB (Z9 (ju hr) qV (zm (j0 hr) ja (vv 7) zJ) zz (jI _)) zF)))))))))
  (zI (jC (zj zEI zCo (jj yP QB gk jf QK (zB (vv 5) zF)) zJ (jI _))
  (zI (z8 (jE (zB zz (zB zz zF)))))
  jl))))))
theorem zGs (qa:mg "range" = none) (hr:RM 0 "_law_due" jQ A s f cdv):WS (cX P w K mg base Qf "_law_due" jQ f cdv A outer s H E) (Θ1 zA) (bd jQ 3) M.yO:=by
 unfold M.yO
 exact (Js PassesOwn.never rfl (Qk gk qa (vv 3)) (yl (i:=6) qy.nd rfl (Or.inl (by kernel_rfl)) (.inl rfl))
  (zI (jD (i:=5) qy.nd rfl (Or.inl (by kernel_rfl)) (zHB (vv 5)))))
theorem zGm (hr:RM 0 "_law_due" jQ A s f cdv):WS (cX P w K mg base Qf "_law_due" jQ f cdv A outer s H E) (Θ1 zA) (bd jQ 4) M.y1:=by
 unfold M.y1
 exact (z8 (jE (zB zz (zB (vv 5) zF))))
theorem zIf (F:Fun K "_law_due" "_law_due" jQ f fd) (qa:mg "range" = none) (jf:mg "len" = none) (Jk:mg "int" = none) :
  jU P w K mg base CX0 1 f fd ["_law_word","_law_many","_law_parts","_law_ahead"] (SpM K (Θ1 zA) 4 M.Ji):=by
 refine yw (b:=M.zCl) F qy M.zIp fun cdv A outer s H E hr=>?_
 unfold M.zCl
 exact (zL (zGg hr) (zL (zGi hr) (zL (zGo qa jf Jk hr) (zL (zGs qa hr) (zI (zGm hr))))))
noncomputable abbrev zd:Stmt:=top 23
noncomputable abbrev yW:List Str:=["_law_script","_law_cell","_law_word","_law_size","_law_parts","_law_k","_law_ahead","_law_many","_law_tree","_law_one","_law_total","_law_both","_law_due_here","_law_gave"]
theorem yE:zy yW ["_law_script"] (zK zd):=⟨rfl,rfl,rfl,by decide +kernel,rfl,by decide +kernel,by decide +kernel⟩
theorem zMw (jY:ZU P w K mg base zA) (hr:RM 6 "law" zd A s f cdv):WS (cX P w K mg base yW "law" zd f cdv A outer s H E) (Θ1 zA) (bd zd 0) M.J5:=by
 unfold M.J5
 exact (jD (i:=1) yE.nd rfl (Or.inl (by kernel_rfl)) (jN jY hr (by decide) gk (zB (vv 0) (zB zJ zF)) (zM (zM ze))))
theorem zMl (hr:RM 6 "law" zd A s f cdv):WS (cX P w K mg base yW "law" zd f cdv A outer s H E) (Θ1 zA) (bd zd 1) M.JC:=by
 unfold M.JC
 exact (jD (i:=2) yE.nd rfl (Or.inl (by kernel_rfl)) (zAD zEa zCb zz zAO (ZH (zR (OpR.or yD jz) qb zJ (zR Qq Zl (vv 1) zJ)))))
theorem zMm (hr:RM 6 "law" zd A s f cdv):WS (cX P w K mg base yW "law" zd f cdv A outer s H E) (Θ1 zA) (bd zd 2) M.Q6:=by
 unfold M.Q6
 exact (jD (i:=3) yE.nd rfl (Or.inl (by kernel_rfl)) (zR (OpR.or yD jz) qb zJ (zR Qq Zl (zR zAq JS (vv 1) zJ) zJ)))
theorem zM0 (hr:RM 6 "law" zd A s f cdv):WS (cX P w K mg base yW "law" zd f cdv A outer s H E) (Θ1 zA) (bd zd 3) M.JN:=by
 unfold M.JN
 exact (jD (i:=4) yE.nd rfl (Or.inl (by kernel_rfl)) (zR Jh JZ (Zh (zB (jE (zB zz zF)) zF)) (vv 3)))
theorem zMC (jY:ZU P w K mg base zA) (qa:mg "range" = none) (hr:RM 6 "law" zd A s f cdv):WS (cX P w K mg base yW "law" zd f cdv A outer s H E) (Θ1 zA) (bd zd 4) M.J8:=by
 unfold M.J8
 exact (Js PassesOwn.never rfl (Qk gk qa (vv 3)) (yl (i:=5) yE.nd rfl (Or.inl (by kernel_rfl)) (.inl rfl))
  (zL (jC (zj (ju hr) qV (zR Qq Zl (jN jY hr (by decide) gk (zB (vv 0) (zB (zR (OpR.or yD jz) qb zJ (vv 5)) zF)) (zM (zM ze))) zJ) zJ (jI _))
  (zI (zEC hr (vv 4) (vv 5) (jE (zB zz (zB (zR Jh JZ zz (zR Qq Zl (zR zAq JS (jN jY hr (by decide) gk (zB (vv 0) (zB (zR (OpR.or yD jz) qb zJ (vv 5)) zF)) (zM (zM ze))) zJ) zJ)) zF)))))
  jl)
  (zI (jC (zj (ju hr) qV (zR Qq Zl (jN jY hr (by decide) gk (zB (vv 0) (zB (zR (OpR.or yD jz) qb zJ (vv 5)) zF)) (zM (zM ze))) zJ) zJ (jI _))
  (zI (zEC hr (vv 4) (vv 5) (jE (zB zz (zB (jE (zB zz zF)) zF)))))
  jl))))
theorem zNF (hr:RM 6 "law" zd A s f cdv):WS (cX P w K mg base yW "law" zd f cdv A outer s H E) (Θ1 zA) (bd zd 5) M.JG:=by
 unfold M.JG
 exact (jD (i:=6) yE.nd rfl (Or.inl (by kernel_rfl)) (zR Qq Zl (zR zAq JS (vv 1) zJ) zJ))
theorem zNT (hr:RM 6 "law" zd A s f cdv):WS (cX P w K mg base yW "law" zd f cdv A outer s H E) (Θ1 zA) (bd zd 6) M.Qe:=by
 unfold M.Qe
 exact (jD (i:=7) yE.nd rfl (Or.inl (by kernel_rfl)) (zR Qq Zl (zR zAq JS (vv 1) zJ) zJ))
theorem zNZ (jY:ZU P w K mg base zA) (zFZ:mg "max" = none) (hr:RM 6 "law" zd A s f cdv):WS (cX P w K mg base yW "law" zd f cdv A outer s H E) (Θ1 zA) (bd zd 7) M.Zq:=by
 unfold M.Zq
 exact (jC (zj (ju hr) qV (zR Qq Zl (jN jY hr (by decide) gk (zB (vv 0) (zB zJ zF)) (zM (zM ze))) zJ) zJ (jI _))
  (zI (jD (i:=7) yE.nd rfl (Or.inl (by kernel_rfl)) (jj (zK2 rfl) zN6 gk zFZ zQy (zB zJ (zB (zR (OpR.or yD jz) qb (zR zE6 zDU (zR zAq JS (zR zE6 zDU zJ (vv 6)) (zR (OpR.or yD jz) qb zJ (vv 3))) zJ) (zR Qq Zl (zR zAq JS (jN jY hr (by decide) gk (zB (vv 0) (zB zJ zF)) (zM (zM ze))) zJ) zJ)) zF)))))
  jl)
theorem zMb (zFa:mg "min" = none) (jf:mg "len" = none) (hr:RM 6 "law" zd A s f cdv):WS (cX P w K mg base yW "law" zd f cdv A outer s H E) (Θ1 zA) (bd zd 8) M.QY:=by
 unfold M.QY
 exact (jD (i:=7) yE.nd rfl (Or.inl (by kernel_rfl)) (jj (zL6 rfl) zOZ gk zFa zPk (zB (vv 7) (zB (zR zAq JS zJ (zR (OpR.or yD jz) qb (jj yP QB gk jf QK (zB (vv 2) zF)) zJ)) zF))))
theorem zKv (JO:mg "tuple" = none) (hr:RM 6 "law" zd A s f cdv):WS (cX P w K mg base yW "law" zd f cdv A outer s H E) (Θ1 zA) (bd zd 9) M.Q4:=by
 unfold M.Q4
 exact (jD (i:=8) yE.nd rfl (Or.inl (by kernel_rfl)) (jE (zB zz (zB (jE (zB zz (zB (yY PySem.F.plainAttrs_str PySem.F.slot_str_join PySem.F.type_str_join zDm zDf rfl zz (zB (zR Jh JZ (Zh (zB (vv 2) zF)) (vv 7)) zF)) zF))) (zB (Zu zIl zM7 gk JO zH5 (zB (zR (OpR.or yD jz) qb (Zh (zB zz zF)) (vv 4)) zF)) zF)))))
theorem zLO (qa:mg "range" = none) (hr:RM 6 "law" zd A s f cdv):WS (cX P w K mg base yW "law" zd f cdv A outer s H E) (Θ1 zA) (bd zd 10) M.Qt:=by
 unfold M.Qt
 exact (Js PassesOwn.never rfl (Qk gk qa (vv 6)) (yl (i:=5) yE.nd rfl (Or.inl (by kernel_rfl)) (.inl rfl))
  (zI (jD (i:=8) yE.nd rfl (Or.inl (by kernel_rfl)) (jE (zB zz (zB (vv 8) zF))))))
theorem zLR (hr:RM 6 "law" zd A s f cdv):WS (cX P w K mg base yW "law" zd f cdv A outer s H E) (Θ1 zA) (bd zd 11) M.Qx:=by
 unfold M.Qx
 exact (jD (i:=9) yE.nd rfl (Or.inl (by kernel_rfl)) (zR (OpR.or yD jz) qb zJ (zR Qq Zl (zR zAq JS (vv 1) zJ) zJ)))
theorem zLL (hr:RM 6 "law" zd A s f cdv):WS (cX P w K mg base yW "law" zd f cdv A outer s H E) (Θ1 zA) (bd zd 12) M.Qv:=by
 unfold M.Qv
 exact (jD (i:=10) yE.nd rfl (Or.inl (by kernel_rfl)) (zR (OpR.or yD jz) qb zJ (zR Qq Zl (zR zAq JS (vv 1) zJ) zJ)))
theorem zLu (QR:zCI P w K mg base zA) (hr:RM 6 "law" zd A s f cdv):WS (cX P w K mg base yW "law" zd f cdv A outer s H E) (Θ1 zA) (bd zd 13) M.Q3:=by
 unfold M.Q3
 exact (jD (i:=11) yE.nd rfl (Or.inl (by kernel_rfl)) (jN QR hr (by decide) gk (zB (jE (zB zz (zB (jE (zB zz (zB (zR Jh JZ zz (vv 9)) zF))) (zB (jE (zB zz (zB (zR Jh JZ zz (zR zE6 zDU (vv 10) (vv 9))) zF))) zF)))) (zB zCF (zB zDN zF))) (zM (zM (zM ze)))))
theorem zKw (Jk:mg "int" = none) (hr:RM 6 "law" zd A s f cdv):WS (cX P w K mg base yW "law" zd f cdv A outer s H E) (Θ1 zA) (bd zd 14) M.Qw:=by
 unfold M.Qw
 exact (jC (zj (zH3 hr) zKF (vv 11) (jE (zB (zm (j0 hr) ja (Zh (zB (jE (zB zz (zB (zR (OpR.or yD jz) qb (zR Jh JZ zz (vv 9)) (zR Jh JZ zz (zR zE6 zDU (vv 10) (vv 9)))) zF))) (zB (jE (zB zz (zB zz zF))) zF))) (Zu zDJ zG9 gk Jk zHM (zB (Z9 zEI zCo (vv 10) zJ (jI _)) zF))) (zB (Zh zF) zF))) (jI _))
  (zI (z8 zDl))
  jl)
theorem zKq (Jl:zCc P w K mg base zA) (hr:RM 6 "law" zd A s f cdv):WS (cX P w K mg base yW "law" zd f cdv A outer s H E) (Θ1 zA) (bd zd 15) M.Q0:=by
 unfold M.Q0
 exact (jD (i:=12) yE.nd rfl (Or.inl (by kernel_rfl)) (jN Jl hr (by decide) gk (zB (vv 2) (zB (vv 7) (zB (vv 4) (zB (vv 6) zF)))) (zM (zM (zM (zM ze))))))
theorem zLn (QR:zCI P w K mg base zA) (hr:RM 6 "law" zd A s f cdv):WS (cX P w K mg base yW "law" zd f cdv A outer s H E) (Θ1 zA) (bd zd 16) M.QA:=by
 unfold M.QA
 exact (jD (i:=13) yE.nd rfl (Or.inl (by kernel_rfl)) (jN QR hr (by decide) gk (zB (vv 8) (zB zCF (zB zDN zF))) (zM (zM (zM ze)))))
theorem zLb (JO:mg "tuple" = none) (qT:mg "isinstance" = none) (jf:mg "len" = none) (hr:RM 6 "law" zd A s f cdv):WS (cX P w K mg base yW "law" zd f cdv A outer s H E) (Θ1 zA) (bd zd 17) M.Q2:=by
 unfold M.Q2
 exact (z8 (zA8 (jj zEJ zHc gk qT zAe (zB (vv 13) (zB (zFm .tuple gk JO zH5) zF))) (zA8 (Z9 (ju hr) qV (jj yP QB gk jf QK (zB (vv 13) zF)) zJ (jI _)) (zA8 (Z9 (ju hr) qV (zm (j0 hr) ja (vv 13) zJ) (vv 12) (jI _)) (zEc (Z9 (ju hr) qV (zm (j0 hr) ja (vv 13) zJ) (Zh zF) (jI _)))))))
theorem zPY (F:Fun K "law" "law" zd f fd) (jY:ZU P w K mg base zA) (QR:zCI P w K mg base zA) (Jl:zCc P w K mg base zA) (qa:mg "range" = none) (zFa:mg "min" = none) (zFZ:mg "max" = none) (JO:mg "tuple" = none) (qT:mg "isinstance" = none) (jf:mg "len" = none) (Jk:mg "int" = none) :
  jU P w K mg base CX0 7 f fd ["_law_script"] (SpM K (Θ1 zA) 1 M.zJx):=by
 refine qS (N:=yW) (b:=M.zJn) F yE fun cdv A outer s H E hr=>?_
 unfold M.zJn
 exact (zL (zMw jY hr) (zL (zMl hr) (zL (zMm hr) (zL (zM0 hr) (zL (zMC jY qa hr) (zL (zNF hr) (zL (zNT hr) (zL (zNZ jY zFZ hr) (zL (zMb zFa jf hr) (zL (zKv JO hr) (zL (zLO qa hr) (zL (zLR hr) (zL (zLL hr) (zL (zLu QR hr) (zL (zKw Jk hr) (zL (zKq Jl hr) (zL (zLn QR hr) (zI (zLb JO qT jf hr)))))))))))))))))))
theorem zPy {l:PySem.W.OpenLaw}{w:World}{K:PySem.W.Frag}{h:Heap}{mg:Str->Option Value}{fa f1 f2 f3 f4 f5 f6 f7 f8 f9 f10 f11 f12 f13 f14 f15 f16 f17 f18 f19 f20 f21 f22 f23 f24 f25 f26 f27 f28 f29 f30:Addr}{zA:Addr} (X:K.In h) (G:h.Ns mainGlobals mg) (hfa:mg "law" = some (.ref fa))
  {od1 an1 od2 an2 od3 an3 od4 an4 od5 an5 od6 an6 od7 an7 od8 an8 od9 an9 od10 an10 od11 an11 od12 an12 od13 an13 od14 an14 od15 an15 od16 an16 od17 an17 od18 an18 od19 an19 od20 an20 od21 an21 od22 an22 od23 an23 od24 an24 od25 an25 od26 an26 od27 an27 od28 an28 od29 an29 od30 an30:Option Addr}{sl1 sl2 sl3 sl4 sl5 sl6 sl7 sl8 sl9 sl10 sl11 sl12 sl13 sl14 sl15 sl16 sl17 sl18 sl19 sl20 sl21 sl22 sl23 sl24 sl25 sl26 sl27 sl28 sl29 sl30:Array (Option Value)}{oc1 kV1 dc1 pm1 cd1 ct1 oc2 kV2 dc2 pm2 cd2 ct2 oc3 kV3 dc3 pm3 cd3 ct3 oc4 kV4 dc4 pm4 cd4 ct4 oc5 kV5 dc5 pm5 cd5 ct5 oc6 kV6 dc6 pm6 cd6 ct6 oc7 kV7 dc7 pm7 cd7 ct7 oc8 kV8 dc8 pm8 cd8 ct8 oc9 kV9 dc9 pm9 cd9 ct9 oc10 kV10 dc10 pm10 cd10 ct10 oc11 kV11 dc11 pm11 cd11 ct11 oc12 kV12 dc12 pm12 cd12 ct12 oc13 kV13 dc13 pm13 cd13 ct13 oc14 kV14 dc14 pm14 cd14 ct14 oc15 kV15 dc15 pm15 cd15 ct15 oc16 kV16 dc16 pm16 cd16 ct16 oc17 kV17 dc17 pm17 cd17 ct17 oc18 kV18 dc18 pm18 cd18 ct18 oc19 kV19 dc19 pm19 cd19 ct19 oc20 kV20 dc20 pm20 cd20 ct20 oc21 kV21 dc21 pm21 cd21 ct21 oc22 kV22 dc22 pm22 cd22 ct22 oc23 kV23 dc23 pm23 cd23 ct23 oc24 kV24 dc24 pm24 cd24 ct24 oc25 kV25 dc25 pm25 cd25 ct25 oc26 kV26 dc26 pm26 cd26 ct26 oc27 kV27 dc27 pm27 cd27 ct27 oc28 kV28 dc28 pm28 cd28 ct28 oc29 kV29 dc29 pm29 cd29 ct29 oc30 kV30 dc30 pm30 cd30 ct30:Value}
  (zCq:PySem.W.nsIn K mainGlobals "Working" = some (some (.ref zA))) (zCr:PySem.W.plainGet K zA Str.empty=true) (zCs:PySem.W.hasDictIn K zA=true) (zCt:PySem.W.plainOver K zA=true) (zCu:PySem.W.findIn K (.ref zA) "__setattr__" = some (some (.builtin "object.__setattr__"))) (zCv:PySem.W.makesIn K zA=true) (zCw:PySem.W.keepIn K (.ref zA)=true)
  (zBH:PySem.W.findIn K (.ref zA) "stem" = some none)
  (zBI:PySem.W.findIn K (.ref zA) "answers" = some none)
  (zBJ:PySem.W.findIn K (.ref zA) "used" = some none)
  (zBK:PySem.W.findIn K (.ref zA) "steps" = some none)
  (zBL:PySem.W.findIn K (.ref zA) "texts" = some none)
  (zBM:PySem.W.findIn K (.ref zA) "todo" = some none)
  (zBN:PySem.W.findIn K (.ref zA) "ended" = some none)
  (a1:PySem.W.nsIn K mainGlobals "_law_mixed" = some (some (.ref f1))) (l1:K.lookup f1=some ⟨oc1,od1,.func (PySem.W.fnOf "_law_mixed" "_law_mixed" (jF ZN) (zi ZN) (zK ZN) .none kV1 dc1 pm1 an1 cd1 ct1),sl1⟩) (c1:PySem.W.codeIn K cd1 "_law_mixed" = true) (k1:PySem.W.keepIn K (.ref f1)=true)
  (a2:PySem.W.nsIn K mainGlobals "_law_cell_at" = some (some (.ref f2))) (l2:K.lookup f2=some ⟨oc2,od2,.func (PySem.W.fnOf "_law_cell_at" "_law_cell_at" (jF yx) (zi yx) (zK yx) .none kV2 dc2 pm2 an2 cd2 ct2),sl2⟩) (c2:PySem.W.codeIn K cd2 "_law_cell_at" = true) (k2:PySem.W.keepIn K (.ref f2)=true)
  (a3:PySem.W.findIn K (.ref zA) "__init__" = some (some (.ref f3))) (i3:PySem.W.isFn K (.ref f3)=true) (l3:K.lookup f3=some ⟨oc3,od3,.func (PySem.W.fnOf "__init__" "Working.__init__" (jF zQ) (zi zQ) (zK zQ) .none kV3 dc3 pm3 an3 cd3 ct3),sl3⟩) (c3:PySem.W.codeIn K cd3 "Working.__init__" = true) (k3:PySem.W.keepIn K (.ref f3)=true)
  (a4:PySem.W.findIn K (.ref zA) "fail" = some (some (.ref f4))) (i4:PySem.W.isFn K (.ref f4)=true) (l4:K.lookup f4=some ⟨oc4,od4,.func (PySem.W.fnOf "fail" "Working.fail" (jF yr) (zi yr) (zK yr) .none kV4 dc4 pm4 an4 cd4 ct4),sl4⟩) (c4:PySem.W.codeIn K cd4 "Working.fail" = true) (k4:PySem.W.keepIn K (.ref f4)=true)
  (a5:PySem.W.findIn K (.ref zA) "come_to" = some (some (.ref f5))) (i5:PySem.W.isFn K (.ref f5)=true) (l5:K.lookup f5=some ⟨oc5,od5,.func (PySem.W.fnOf "come_to" "Working.come_to" (jF yA) (zi yA) (zK yA) .none kV5 dc5 pm5 an5 cd5 ct5),sl5⟩) (c5:PySem.W.codeIn K cd5 "Working.come_to" = true) (k5:PySem.W.keepIn K (.ref f5)=true)
  (a6:PySem.W.findIn K (.ref zA) "bare_text" = some (some (.ref f6))) (i6:PySem.W.isFn K (.ref f6)=true) (l6:K.lookup f6=some ⟨oc6,od6,.func (PySem.W.fnOf "bare_text" "Working.bare_text" (jF zV) (zi zV) (zK zV) .none kV6 dc6 pm6 an6 cd6 ct6),sl6⟩) (c6:PySem.W.codeIn K cd6 "Working.bare_text" = true) (k6:PySem.W.keepIn K (.ref f6)=true)
  (a7:PySem.W.findIn K (.ref zA) "come_to_answer" = some (some (.ref f7))) (i7:PySem.W.isFn K (.ref f7)=true) (l7:K.lookup f7=some ⟨oc7,od7,.func (PySem.W.fnOf "come_to_answer" "Working.come_to_answer" (jF jw) (zi jw) (zK jw) .none kV7 dc7 pm7 an7 cd7 ct7),sl7⟩) (c7:PySem.W.codeIn K cd7 "Working.come_to_answer" = true) (k7:PySem.W.keepIn K (.ref f7)=true)
  (a8:PySem.W.findIn K (.ref zA) "put_parts" = some (some (.ref f8))) (i8:PySem.W.isFn K (.ref f8)=true) (l8:K.lookup f8=some ⟨oc8,od8,.func (PySem.W.fnOf "put_parts" "Working.put_parts" (jF qe) (zi qe) (zK qe) .none kV8 dc8 pm8 an8 cd8 ct8),sl8⟩) (c8:PySem.W.codeIn K cd8 "Working.put_parts" = true) (k8:PySem.W.keepIn K (.ref f8)=true)
  (a9:PySem.W.findIn K (.ref zA) "begin_inner" = some (some (.ref f9))) (i9:PySem.W.isFn K (.ref f9)=true) (l9:K.lookup f9=some ⟨oc9,od9,.func (PySem.W.fnOf "begin_inner" "Working.begin_inner" (jF qK) (zi qK) (zK qK) .none kV9 dc9 pm9 an9 cd9 ct9),sl9⟩) (c9:PySem.W.codeIn K cd9 "Working.begin_inner" = true) (k9:PySem.W.keepIn K (.ref f9)=true)
  (a10:PySem.W.findIn K (.ref zA) "begin" = some (some (.ref f10))) (i10:PySem.W.isFn K (.ref f10)=true) (l10:K.lookup f10=some ⟨oc10,od10,.func (PySem.W.fnOf "begin" "Working.begin" (jF yU) (zi yU) (zK yU) .none kV10 dc10 pm10 an10 cd10 ct10),sl10⟩) (c10:PySem.W.codeIn K cd10 "Working.begin" = true) (k10:PySem.W.keepIn K (.ref f10)=true)
  (a11:PySem.W.findIn K (.ref zA) "end_join" = some (some (.ref f11))) (i11:PySem.W.isFn K (.ref f11)=true) (l11:K.lookup f11=some ⟨oc11,od11,.func (PySem.W.fnOf "end_join" "Working.end_join" (jF qr) (zi qr) (zK qr) .none kV11 dc11 pm11 an11 cd11 ct11),sl11⟩) (c11:PySem.W.codeIn K cd11 "Working.end_join" = true) (k11:PySem.W.keepIn K (.ref f11)=true)
  (a12:PySem.W.findIn K (.ref zA) "choose" = some (some (.ref f12))) (i12:PySem.W.isFn K (.ref f12)=true) (l12:K.lookup f12=some ⟨oc12,od12,.func (PySem.W.fnOf "choose" "Working.choose" (jF yK) (zi yK) (zK yK) .none kV12 dc12 pm12 an12 cd12 ct12),sl12⟩) (c12:PySem.W.codeIn K cd12 "Working.choose" = true) (k12:PySem.W.keepIn K (.ref f12)=true)
  (a13:PySem.W.nsIn K mainGlobals "words_of" = some (some (.ref f13))) (l13:K.lookup f13=some ⟨oc13,od13,.func (PySem.W.fnOf "words_of" "words_of" (jF QU) (zi QU) (zK QU) .none kV13 dc13 pm13 an13 cd13 ct13),sl13⟩) (c13:PySem.W.codeIn K cd13 "words_of" = true) (k13:PySem.W.keepIn K (.ref f13)=true)
  (a14:PySem.W.findIn K (.ref zA) "go_on_round" = some (some (.ref f14))) (i14:PySem.W.isFn K (.ref f14)=true) (l14:K.lookup f14=some ⟨oc14,od14,.func (PySem.W.fnOf "go_on_round" "Working.go_on_round" (jF qL) (zi qL) (zK qL) .none kV14 dc14 pm14 an14 cd14 ct14),sl14⟩) (c14:PySem.W.codeIn K cd14 "Working.go_on_round" = true) (k14:PySem.W.keepIn K (.ref f14)=true)
  (a15:PySem.W.findIn K (.ref zA) "begin_each" = some (some (.ref f15))) (i15:PySem.W.isFn K (.ref f15)=true) (l15:K.lookup f15=some ⟨oc15,od15,.func (PySem.W.fnOf "begin_each" "Working.begin_each" (jF qX) (zi qX) (zK qX) .none kV15 dc15 pm15 an15 cd15 ct15),sl15⟩) (c15:PySem.W.codeIn K cd15 "Working.begin_each" = true) (k15:PySem.W.keepIn K (.ref f15)=true)
  (a16:PySem.W.findIn K (.ref zA) "go_round" = some (some (.ref f16))) (i16:PySem.W.isFn K (.ref f16)=true) (l16:K.lookup f16=some ⟨oc16,od16,.func (PySem.W.fnOf "go_round" "Working.go_round" (jF qm) (zi qm) (zK qm) .none kV16 dc16 pm16 an16 cd16 ct16),sl16⟩) (c16:PySem.W.codeIn K cd16 "Working.go_round" = true) (k16:PySem.W.keepIn K (.ref f16)=true)
  (a17:PySem.W.nsIn K mainGlobals "is_letter" = some (some (.ref f17))) (l17:K.lookup f17=some ⟨oc17,od17,.func (PySem.W.fnOf "is_letter" "is_letter" (jF Zp) (zi Zp) (zK Zp) .none kV17 dc17 pm17 an17 cd17 ct17),sl17⟩) (c17:PySem.W.codeIn K cd17 "is_letter" = true) (k17:PySem.W.keepIn K (.ref f17)=true)
  (a18:PySem.W.nsIn K mainGlobals "is_plain" = some (some (.ref f18))) (l18:K.lookup f18=some ⟨oc18,od18,.func (PySem.W.fnOf "is_plain" "is_plain" (jF QZ) (zi QZ) (zK QZ) .none kV18 dc18 pm18 an18 cd18 ct18),sl18⟩) (c18:PySem.W.codeIn K cd18 "is_plain" = true) (k18:PySem.W.keepIn K (.ref f18)=true)
  (a19:PySem.W.nsIn K mainGlobals "is_name" = some (some (.ref f19))) (l19:K.lookup f19=some ⟨oc19,od19,.func (PySem.W.fnOf "is_name" "is_name" (jF Q8) (zi Q8) (zK Q8) .none kV19 dc19 pm19 an19 cd19 ct19),sl19⟩) (c19:PySem.W.codeIn K cd19 "is_name" = true) (k19:PySem.W.keepIn K (.ref f19)=true)
  (a20:PySem.W.nsIn K mainGlobals "sorted_words" = some (some (.ref f20))) (l20:K.lookup f20=some ⟨oc20,od20,.func (PySem.W.fnOf "sorted_words" "sorted_words" (jF yu) (zi yu) (zK yu) .none kV20 dc20 pm20 an20 cd20 ct20),sl20⟩) (c20:PySem.W.codeIn K cd20 "sorted_words" = true) (k20:PySem.W.keepIn K (.ref f20)=true)
  (a21:PySem.W.nsIn K mainGlobals "turned_about" = some (some (.ref f21))) (l21:K.lookup f21=some ⟨oc21,od21,.func (PySem.W.fnOf "turned_about" "turned_about" (jF yq) (zi yq) (zK yq) .none kV21 dc21 pm21 an21 cd21 ct21),sl21⟩) (c21:PySem.W.codeIn K cd21 "turned_about" = true) (k21:PySem.W.keepIn K (.ref f21)=true)
  (a22:PySem.W.nsIn K mainGlobals "first_word" = some (some (.ref f22))) (l22:K.lookup f22=some ⟨oc22,od22,.func (PySem.W.fnOf "first_word" "first_word" (jF ZO) (zi ZO) (zK ZO) .none kV22 dc22 pm22 an22 cd22 ct22),sl22⟩) (c22:PySem.W.codeIn K cd22 "first_word" = true) (k22:PySem.W.keepIn K (.ref f22)=true)
  (a23:PySem.W.nsIn K mainGlobals "rest_words" = some (some (.ref f23))) (l23:K.lookup f23=some ⟨oc23,od23,.func (PySem.W.fnOf "rest_words" "rest_words" (jF ZS) (zi ZS) (zK ZS) .none kV23 dc23 pm23 an23 cd23 ct23),sl23⟩) (c23:PySem.W.codeIn K cd23 "rest_words" = true) (k23:PySem.W.keepIn K (.ref f23)=true)
  (a24:PySem.W.nsIn K mainGlobals "counted" = some (some (.ref f24))) (l24:K.lookup f24=some ⟨oc24,od24,.func (PySem.W.fnOf "counted" "counted" (jF Q7) (zi Q7) (zK Q7) .none kV24 dc24 pm24 an24 cd24 ct24),sl24⟩) (c24:PySem.W.codeIn K cd24 "counted" = true) (k24:PySem.W.keepIn K (.ref f24)=true)
  (a25:PySem.W.nsIn K mainGlobals "made_of" = some (some (.ref f25))) (l25:K.lookup f25=some ⟨oc25,od25,.func (PySem.W.fnOf "made_of" "made_of" (jF jb) (zi jb) (zK jb) .none kV25 dc25 pm25 an25 cd25 ct25),sl25⟩) (c25:PySem.W.codeIn K cd25 "made_of" = true) (k25:PySem.W.keepIn K (.ref f25)=true)
  (a26:PySem.W.findIn K (.ref zA) "end_single" = some (some (.ref f26))) (i26:PySem.W.isFn K (.ref f26)=true) (l26:K.lookup f26=some ⟨oc26,od26,.func (PySem.W.fnOf "end_single" "Working.end_single" (jF qZ) (zi qZ) (zK qZ) .none kV26 dc26 pm26 an26 cd26 ct26),sl26⟩) (c26:PySem.W.codeIn K cd26 "Working.end_single" = true) (k26:PySem.W.keepIn K (.ref f26)=true)
  (a27:PySem.W.findIn K (.ref zA) "run" = some (some (.ref f27))) (i27:PySem.W.isFn K (.ref f27)=true) (l27:K.lookup f27=some ⟨oc27,od27,.func (PySem.W.fnOf "run" "Working.run" (jF ZD) (zi ZD) (zK ZD) .none kV27 dc27 pm27 an27 cd27 ct27),sl27⟩) (c27:PySem.W.codeIn K cd27 "Working.run" = true) (k27:PySem.W.keepIn K (.ref f27)=true)
  (a28:PySem.W.nsIn K mainGlobals "worked" = some (some (.ref f28))) (l28:K.lookup f28=some ⟨oc28,od28,.func (PySem.W.fnOf "worked" "worked" (jF J0) (zi J0) (zK J0) .none kV28 dc28 pm28 an28 cd28 ct28),sl28⟩) (c28:PySem.W.codeIn K cd28 "worked" = true) (k28:PySem.W.keepIn K (.ref f28)=true)
  (a29:PySem.W.nsIn K mainGlobals "_law_due" = some (some (.ref f29))) (l29:K.lookup f29=some ⟨oc29,od29,.func (PySem.W.fnOf "_law_due" "_law_due" (jF jQ) (zi jQ) (zK jQ) .none kV29 dc29 pm29 an29 cd29 ct29),sl29⟩) (c29:PySem.W.codeIn K cd29 "_law_due" = true) (k29:PySem.W.keepIn K (.ref f29)=true)
  (a30:PySem.W.nsIn K mainGlobals "law" = some (some (.ref f30))) (l30:K.lookup f30=some ⟨oc30,od30,.func (PySem.W.fnOf "law" "law" (jF zd) (zi zd) (zK zd) .none kV30 dc30 pm30 an30 cd30 ct30),sl30⟩) (c30:PySem.W.codeIn K cd30 "law" = true) (k30:PySem.W.keepIn K (.ref f30)=true)
  (z_len:PySem.W.nsIn K mainGlobals "len" = some none)
  (z_reversed:PySem.W.nsIn K mainGlobals "reversed" = some none)
  (z_range:PySem.W.nsIn K mainGlobals "range" = some none)
  (z_all:PySem.W.nsIn K mainGlobals "all" = some none)
  (z_isinstance:PySem.W.nsIn K mainGlobals "isinstance" = some none)
  (z_str:PySem.W.nsIn K mainGlobals "str" = some none)
  (z_sorted:PySem.W.nsIn K mainGlobals "sorted" = some none)
  (z_list:PySem.W.nsIn K mainGlobals "list" = some none)
  (z_int:PySem.W.nsIn K mainGlobals "int" = some none)
  (z_min:PySem.W.nsIn K mainGlobals "min" = some none)
  (z_max:PySem.W.nsIn K mainGlobals "max" = some none)
  (z_tuple:PySem.W.nsIn K mainGlobals "tuple" = some none)
  {u_MOST_SIGNS:Value} (v_MOST_SIGNS:PySem.W.nsIn K mainGlobals "MOST_SIGNS" = some (some u_MOST_SIGNS)) (r_MOST_SIGNS:zF2 (.int 900) u_MOST_SIGNS=true)
  {u_MOST_STEPS:Value} (v_MOST_STEPS:PySem.W.nsIn K mainGlobals "MOST_STEPS" = some (some u_MOST_STEPS)) (r_MOST_STEPS:zF2 (.int 500) u_MOST_STEPS=true)
  {y7:Addr}{its_KEPT_WORDS:Array Value}{n_KEPT_WORDS:Nat}{d_KEPT_WORDS:Option Addr}{s_KEPT_WORDS:Array (Option Value)} (v_KEPT_WORDS:PySem.W.nsIn K mainGlobals "KEPT_WORDS" = some (some (.ref y7))) (w_KEPT_WORDS:K.lookup y7=some ⟨.type "tuple",d_KEPT_WORDS,.seq its_KEPT_WORDS n_KEPT_WORDS,s_KEPT_WORDS⟩) (r_KEPT_WORDS:zFX [(.str "of"),(.str "if"),(.str "is"),(.str "then"),(.str "else"),(.str "each"),(.str "do"),(.str "it"),(.str "back"),(.str "first"),(.str "rest"),(.str "count"),(.str "sorted"),(.str "fail"),(.str "line"),(.str "more")] its_KEPT_WORDS.toList=true)
  {u_MOST_LETTERS:Value} (v_MOST_LETTERS:PySem.W.nsIn K mainGlobals "MOST_LETTERS" = some (some u_MOST_LETTERS)) (r_MOST_LETTERS:zF2 (.int 8) u_MOST_LETTERS=true)
  : ∃ fd:FuncData,(∀ (s:Shared) (v:Value),BindsTo s fd ⟨[v],[]⟩ [("_law_script",v)])/\fd.scope.names.lookup ("_law_script" : Str)=some .local/\∀ base:Heap,K.In base->base.Ns mainGlobals mg->jU l.prog w K mg base CX0 7 fa fd ["_law_script"] (zGy K):=by
 have e:=hfa.symm.trans (PySem.W.mg_of X G a30)
 cases e
 have F1:=jh (x := "_law_mixed") (qual := "_law_mixed") (st:=ZN) l1 c1 k1
 have B1:=F1.binds (ps:=["_law_cell","_law_k"]) fun _ _ _ _ _ _ us hl=>match us,hl with | [_,_],_=>rfl
 have F2:=jh (x := "_law_cell_at") (qual := "_law_cell_at") (st:=yx) l2 c2 k2
 have B2:=F2.binds (ps:=["_law_script","_law_k"]) fun _ _ _ _ _ _ us hl=>match us,hl with | [_,_],_=>rfl
 have F3:=jh (x := "__init__") (qual := "Working.__init__") (st:=zQ) l3 c3 k3
 have B3:=F3.binds (ps:=["self","tree","stem","answers"]) fun _ _ _ _ _ _ us hl=>match us,hl with | [_,_,_,_],_=>rfl
 have F4:=jh (x := "fail") (qual := "Working.fail") (st:=yr) l4 c4 k4
 have B4:=F4.binds (ps:=["self","words"]) fun _ _ _ _ _ _ us hl=>match us,hl with | [_,_],_=>rfl
 have F5:=jh (x := "come_to") (qual := "Working.come_to") (st:=yA) l5 c5 k5
 have B5:=F5.binds (ps:=["self","text"]) fun _ _ _ _ _ _ us hl=>match us,hl with | [_,_],_=>rfl
 have F6:=jh (x := "bare_text") (qual := "Working.bare_text") (st:=zV) l6 c6 k6
 have B6:=F6.binds (ps:=["self","part","it"]) fun _ _ _ _ _ _ us hl=>match us,hl with | [_,_,_],_=>rfl
 have F7:=jh (x := "come_to_answer") (qual := "Working.come_to_answer") (st:=jw) l7 c7 k7
 have B7:=F7.binds (ps:=["self","name"]) fun _ _ _ _ _ _ us hl=>match us,hl with | [_,_],_=>rfl
 have F8:=jh (x := "put_parts") (qual := "Working.put_parts") (st:=qe) l8 c8 k8
 have B8:=F8.binds (ps:=["self","parts","it"]) fun _ _ _ _ _ _ us hl=>match us,hl with | [_,_,_],_=>rfl
 have F9:=jh (x := "begin_inner") (qual := "Working.begin_inner") (st:=qK) l9 c9 k9
 have B9:=F9.binds (ps:=["self","part","it"]) fun _ _ _ _ _ _ us hl=>match us,hl with | [_,_,_],_=>rfl
 have F10:=jh (x := "begin") (qual := "Working.begin") (st:=yU) l10 c10 k10
 have B10:=F10.binds (ps:=["self","part","it"]) fun _ _ _ _ _ _ us hl=>match us,hl with | [_,_,_],_=>rfl
 have F11:=jh (x := "end_join") (qual := "Working.end_join") (st:=qr) l11 c11 k11
 have B11:=F11.binds (ps:=["self","number"]) fun _ _ _ _ _ _ us hl=>match us,hl with | [_,_],_=>rfl
 have F12:=jh (x := "choose") (qual := "Working.choose") (st:=yK) l12 c12 k12
 have B12:=F12.binds (ps:=["self","part","it"]) fun _ _ _ _ _ _ us hl=>match us,hl with | [_,_,_],_=>rfl
 have F13:=jh (x := "words_of") (qual := "words_of") (st:=QU) l13 c13 k13
 have B13:=F13.binds (ps:=["text"]) fun _ _ _ _ _ _ us hl=>match us,hl with | [_],_=>rfl
 have F14:=jh (x := "go_on_round") (qual := "Working.go_on_round") (st:=qL) l14 c14 k14
 have B14:=F14.binds (ps:=["self","part","words","number"]) fun _ _ _ _ _ _ us hl=>match us,hl with | [_,_,_,_],_=>rfl
 have F15:=jh (x := "begin_each") (qual := "Working.begin_each") (st:=qX) l15 c15 k15
 have B15:=F15.binds (ps:=["self","part"]) fun _ _ _ _ _ _ us hl=>match us,hl with | [_,_],_=>rfl
 have F16:=jh (x := "go_round") (qual := "Working.go_round") (st:=qm) l16 c16 k16
 have B16:=F16.binds (ps:=["self","part","words","number"]) fun _ _ _ _ _ _ us hl=>match us,hl with | [_,_,_,_],_=>rfl
 have F17:=jh (x := "is_letter") (qual := "is_letter") (st:=Zp) l17 c17 k17
 have B17:=F17.binds (ps:=["sign"]) fun _ _ _ _ _ _ us hl=>match us,hl with | [_],_=>rfl
 have F18:=jh (x := "is_plain") (qual := "is_plain") (st:=QZ) l18 c18 k18
 have B18:=F18.binds (ps:=["thing"]) fun _ _ _ _ _ _ us hl=>match us,hl with | [_],_=>rfl
 have F19:=jh (x := "is_name") (qual := "is_name") (st:=Q8) l19 c19 k19
 have B19:=F19.binds (ps:=["thing"]) fun _ _ _ _ _ _ us hl=>match us,hl with | [_],_=>rfl
 have F20:=jh (x := "sorted_words") (qual := "sorted_words") (st:=yu) l20 c20 k20
 have B20:=F20.binds (ps:=["text"]) fun _ _ _ _ _ _ us hl=>match us,hl with | [_],_=>rfl
 have F21:=jh (x := "turned_about") (qual := "turned_about") (st:=yq) l21 c21 k21
 have B21:=F21.binds (ps:=["text"]) fun _ _ _ _ _ _ us hl=>match us,hl with | [_],_=>rfl
 have F22:=jh (x := "first_word") (qual := "first_word") (st:=ZO) l22 c22 k22
 have B22:=F22.binds (ps:=["text"]) fun _ _ _ _ _ _ us hl=>match us,hl with | [_],_=>rfl
 have F23:=jh (x := "rest_words") (qual := "rest_words") (st:=ZS) l23 c23 k23
 have B23:=F23.binds (ps:=["text"]) fun _ _ _ _ _ _ us hl=>match us,hl with | [_],_=>rfl
 have F24:=jh (x := "counted") (qual := "counted") (st:=Q7) l24 c24 k24
 have B24:=F24.binds (ps:=["text"]) fun _ _ _ _ _ _ us hl=>match us,hl with | [_],_=>rfl
 have F25:=jh (x := "made_of") (qual := "made_of") (st:=jb) l25 c25 k25
 have B25:=F25.binds (ps:=["kind","text"]) fun _ _ _ _ _ _ us hl=>match us,hl with | [_,_],_=>rfl
 have F26:=jh (x := "end_single") (qual := "Working.end_single") (st:=qZ) l26 c26 k26
 have B26:=F26.binds (ps:=["self","kind"]) fun _ _ _ _ _ _ us hl=>match us,hl with | [_,_],_=>rfl
 have F27:=jh (x := "run") (qual := "Working.run") (st:=ZD) l27 c27 k27
 have B27:=F27.binds (ps:=["self"]) fun _ _ _ _ _ _ us hl=>match us,hl with | [_],_=>rfl
 have F28:=jh (x := "worked") (qual := "worked") (st:=J0) l28 c28 k28
 have B28:=F28.binds (ps:=["tree","stem","answers"]) fun _ _ _ _ _ _ us hl=>match us,hl with | [_,_,_],_=>rfl
 have F29:=jh (x := "_law_due") (qual := "_law_due") (st:=jQ) l29 c29 k29
 have B29:=F29.binds (ps:=["_law_word","_law_many","_law_parts","_law_ahead"]) fun _ _ _ _ _ _ us hl=>match us,hl with | [_,_,_,_],_=>rfl
 have F30:=jh (x := "law") (qual := "law") (st:=zd) l30 c30 k30
 have jf:=PySem.W.mg_none_of X G z_len
 have Qg:=PySem.W.mg_none_of X G z_reversed
 have qa:=PySem.W.mg_none_of X G z_range
 have zDu:=PySem.W.mg_none_of X G z_all
 have qT:=PySem.W.mg_none_of X G z_isinstance
 have zAs:=PySem.W.mg_none_of X G z_str
 have zEg:=PySem.W.mg_none_of X G z_sorted
 have zIQ:=PySem.W.mg_none_of X G z_list
 have Jk:=PySem.W.mg_none_of X G z_int
 have zFa:=PySem.W.mg_none_of X G z_min
 have zFZ:=PySem.W.mg_none_of X G z_max
 have JO:=PySem.W.mg_none_of X G z_tuple
 have zBD:Jy mg "MOST_SIGNS" (.int 900):=⟨_,PySem.W.mg_of X G v_MOST_SIGNS,zDn r_MOST_SIGNS⟩
 have zBE:Jy mg "MOST_STEPS" (.int 500):=⟨_,PySem.W.mg_of X G v_MOST_STEPS,zDn r_MOST_STEPS⟩
 have zBF:Jy mg "KEPT_WORDS" (.ref y7):=⟨_,PySem.W.mg_of X G v_KEPT_WORDS,rfl⟩
 have zBG:∀ H,SqT K H y7 [(.str "of"),(.str "if"),(.str "is"),(.str "then"),(.str "else"),(.str "each"),(.str "do"),(.str "it"),(.str "back"),(.str "first"),(.str "rest"),(.str "count"),(.str "sorted"),(.str "fail"),(.str "line"),(.str "more")]:=fun H=>zOL w_KEPT_WORDS r_KEPT_WORDS
 have zAE:Jy mg "MOST_LETTERS" (.int 8):=⟨_,PySem.W.mg_of X G v_MOST_LETTERS,zDn r_MOST_LETTERS⟩
 have zE:jA K zA:=⟨rfl,⟨zCr,zCs,zCt,zCu⟩,zAB zBH (zAB zBI (zAB zBJ (zAB zBK (zAB zBL (zAB zBM (zAB zBN (fun f hf=>nomatch hf))))))),by decide +kernel,by decide +kernel⟩
 refine⟨(PySem.W.fnOf "law" "law" (jF zd) (zi zd) (zK zd) .none kV30 dc30 pm30 an30 cd30 ct30),fun s v=>.of_eq rfl,by kernel_rfl,fun base _ _=>?_⟩
 have zBC:zDI l.prog w K mg base zA:=⟨⟨_,_,zGw F1,B1,k1,PySem.W.mg_of X G a1⟩⟩
 have jY:ZU l.prog w K mg base zA:=⟨⟨_,_,zEr F2 zBC jf,B2,k2,PySem.W.mg_of X G a2⟩⟩
 have QQ:zAP l.prog w K mg base zA:=⟨⟨_,_,zC5 F3 zE,B3,⟨zCv,a3,i3,zCw⟩,PySem.W.mg_of X G zCq⟩⟩
 have qB:Qd l.prog w K mg base zA:=⟨⟨_,_,zFH F4 zE,B4,⟨a4,i4,k4⟩⟩⟩
 have zu:q8 l.prog w K mg base zA:=⟨⟨_,_,zDR F5 zE qB jf zBD,B5,⟨a5,i5,k5⟩⟩⟩
 have Z0:Jn l.prog w K mg base zA:=⟨⟨_,_,zCk F6 zE,B6,⟨a6,i6,k6⟩⟩⟩
 have jd:y0 l.prog w K mg base zA:=⟨⟨_,_,zAh F7 zE zu,B7,⟨a7,i7,k7⟩⟩⟩
 have qh:Jm l.prog w K mg base zA:=⟨⟨_,_,zCd F8 zE Qg,B8,⟨a8,i8,k8⟩⟩⟩
 have ZV:JB l.prog w K mg base zA:=⟨⟨_,_,zBi F9 zE qh jf,B9,⟨a9,i9,k9⟩⟩⟩
 have Jj:zBW l.prog w K mg base zA:=⟨⟨_,_,zED F10 zE qB zu Z0 jd ZV zBE,B10,⟨a10,i10,k10⟩⟩⟩
 have QO:zAR l.prog w K mg base zA:=⟨⟨_,_,zC4 F11 zE zu qa Qg,B11,⟨a11,i11,k11⟩⟩⟩
 have Q5:zA4 l.prog w K mg base zA:=⟨⟨_,_,zDv F12 zE,B12,⟨a12,i12,k12⟩⟩⟩
 have j7:Qc l.prog w K mg base zA:=⟨⟨_,_,zIe F13,B13,k13,PySem.W.mg_of X G a13⟩⟩
 have qM:ZP l.prog w K mg base zA:=⟨⟨_,_,zBf F14 zE jf,B14,⟨a14,i14,k14⟩⟩⟩
 have Zj:JV l.prog w K mg base zA:=⟨⟨_,_,zCB F15 zE j7 qM,B15,⟨a15,i15,k15⟩⟩⟩
 have QP:zAV l.prog w K mg base zA:=⟨⟨_,_,zC3 F16 zE zu qM,B16,⟨a16,i16,k16⟩⟩⟩
 have zBl:zDy l.prog w K mg base zA:=⟨⟨_,_,zHY F17,B17,k17,PySem.W.mg_of X G a17⟩⟩
 have zCp:zE9 l.prog w K mg base zA:=⟨⟨_,_,zIo F18 zBl zDu qT zAs jf zBF zBG zAE,B18,k18,PySem.W.mg_of X G a18⟩⟩
 have zDd:zGM l.prog w K mg base zA:=⟨⟨_,_,zJm F19 zCp qT zAs zDu jf,B19,k19,PySem.W.mg_of X G a19⟩⟩
 have ZX:Ju l.prog w K mg base zA:=⟨⟨_,_,zFV F20 j7 zEg,B20,k20,PySem.W.mg_of X G a20⟩⟩
 have ZW:zAC l.prog w K mg base zA:=⟨⟨_,_,zEo F21,B21,k21,PySem.W.mg_of X G a21⟩⟩
 have QM:zAx l.prog w K mg base zA:=⟨⟨_,_,zGd F22 j7,B22,k22,PySem.W.mg_of X G a22⟩⟩
 have QN:zAw l.prog w K mg base zA:=⟨⟨_,_,zGf F23 j7,B23,k23,PySem.W.mg_of X G a23⟩⟩
 have zAa:zDY l.prog w K mg base zA:=⟨⟨_,_,zKM F24 j7 zAs jf,B24,k24,PySem.W.mg_of X G a24⟩⟩
 have zDe:zGD l.prog w K mg base zA:=⟨⟨_,_,zKK F25 ZX ZW QM QN zAa,B25,k25,PySem.W.mg_of X G a25⟩⟩
 have Zk:JY l.prog w K mg base zA:=⟨⟨_,_,zBy F26 zE qB zu zDd zDe jd,B26,⟨a26,i26,k26⟩⟩⟩
 have zAf:zCz l.prog w K mg base zA:=⟨⟨_,_,zFw F27 zE Jj QO Q5 Zj QP Zk jf,B27,⟨a27,i27,k27⟩⟩⟩
 have QR:zCI l.prog w K mg base zA:=⟨⟨_,_,zLf F28 zE QQ zAf zIQ,B28,k28,PySem.W.mg_of X G a28⟩⟩
 have Jl:zCc l.prog w K mg base zA:=⟨⟨_,_,zIf F29 qa jf Jk,B29,k29,PySem.W.mg_of X G a29⟩⟩
 exact (zPY F30 jY QR Jl qa zFa zFZ JO qT jf Jk).imp fun _ _ _ _ h=>h _
theorem zSO {l:PySem.W.OpenLaw}{q:Program}{loose:List Str}{XP:(Str->Option Value)->Heap->Prop}{YP:World->Heap->Prop}{d:DefRec}{K:Params->PySem.W.Frag} (hn:l.most=some 63) (hdf:d.params.defaults=[])
  (hY:∀ (w:World) (h:Heap),YP w h->(K w.params).In h)
  (F:∀ (w:World) (mg:Str->Option Value) (fa:Addr) (h:Heap),(K w.params).In h->h.Ns mainGlobals mg->mg d.name=some (.ref fa) ->
   ∃ fd:FuncData,(∀ (s:Shared) (u:Value),BindsTo s fd ⟨[u],[]⟩ [("_law_script",u)])/\fd.scope.names.lookup ("_law_script" : Str)=some .local/\∀ base:Heap,(K w.params).In base->base.Ns mainGlobals mg->jU l.prog w (K w.params) mg base CX0 7 fa fd ["_law_script"] (zGy (K w.params))) :
  PySem.W.WalkO q loose XP YP l.row.toRowW d [] (fun f vs=>PySem.call f vs) :=
 L2.zPK (n:=63) (k:=7) (x := "_law_script") (CX:=fun _=>CX0) (sp:=fun w=>zGy (K w.params)) hn (by decide) hdf ⟨rfl,by decide,by decide⟩ hY F (fun _ _ _ _ hl hO hS=>zNm hl hO hS) fun _ _ _ _ _ z=>z
end My
theorem PySem.W.Fast.tw15886216258942747263:True:=trivial
theorem PySem.W.Fast.tw7595229177065474432:True:=trivial
theorem PySem.W.Fast.tw3352180806412475354:True:=trivial
theorem PySem.W.Fast.tw14113849567149481780:True:=trivial
theorem PySem.W.Fast.tw1215213738951965085:True:=trivial
theorem PySem.W.Fast.tw16171749833217175326:True:=trivial
theorem PySem.W.Fast.tw6678462797959933567:True:=trivial
theorem PySem.W.Fast.tw9478741349478257068:True:=trivial
theorem PySem.W.Fast.tw8576331664086304406:True:=trivial
theorem PySem.W.Fast.tw15777597371603638334:True:=trivial
theorem PySem.W.Fast.tw17583724105713056059:True:=trivial
theorem PySem.W.Fast.tw17376710521787429522:True:=trivial
theorem PySem.W.Fast.tw7715649696710884214:True:=trivial
theorem PySem.W.Fast.tw17015444081473840723:True:=trivial
theorem PySem.W.Fast.tw7762508094396114403:True:=trivial
theorem PySem.W.Fast.tw10279495539238347332:True:=trivial
theorem PySem.W.Fast.tw6125127924143318983:True:=trivial
theorem PySem.W.Fast.tw5523167294172162211:True:=trivial
theorem PySem.W.Fast.tw2975081629812345251:True:=trivial
theorem PySem.W.Fast.tw2770114201880253560:True:=trivial
theorem PySem.W.Fast.tw17819456293534989950:True:=trivial
theorem PySem.W.Fast.tw1958733806191951256:True:=trivial
theorem PySem.W.Fast.tw961171427984946197:True:=trivial
theorem PySem.W.Fast.tw5247019199221493548:True:=trivial
theorem PySem.W.Fast.tw14347392479114752143:True:=trivial
theorem PySem.W.Fast.tw13816450843753841232:True:=trivial
theorem PySem.W.Fast.tw2483320432392507835:True:=trivial
theorem PySem.W.Fast.tw13190047366874875847:True:=trivial
theorem PySem.W.Fast.tw2085101250604227445:True:=trivial
theorem PySem.W.Fast.tw3679212697529324266:True:=trivial
theorem PySem.W.Fast.tw15115164454705777617:True:=trivial
theorem PySem.W.Fast.tw15563951951770438373:True:=trivial
theorem PySem.W.Fast.tw17629805370364711762:True:=trivial
theorem PySem.W.Fast.tw15071416616237277754:True:=trivial
theorem PySem.W.Fast.tw242237797966254063:True:=trivial
theorem PySem.W.Fast.tw11895743881014315318:True:=trivial
theorem PySem.W.Fast.tw15368037456204874687:True:=trivial
theorem PySem.W.Fast.tw8693652243094666117:True:=trivial
theorem PySem.W.Fast.tw16823472363655373418:True:=trivial
theorem PySem.W.Fast.tw2599862035431343992:True:=trivial
theorem PySem.W.Fast.tw6297732154312921791:True:=trivial
theorem PySem.W.Fast.tw12204682794901422803:True:=trivial
theorem PySem.W.Fast.tw6284281997311812616:True:=trivial
theorem PySem.W.Fast.tw4794799749781715560:True:=trivial
theorem PySem.W.Fast.tw668902731314535962:True:=trivial
theorem PySem.W.Fast.tw4571730376474930665:True:=trivial
theorem PySem.W.Fast.tw5454004772769009951:True:=trivial
theorem PySem.W.Fast.tw7419196502929025425:True:=trivial
theorem PySem.W.Fast.tw13430998046587715105:True:=trivial
theorem PySem.W.Fast.tw9572609033731072957:True:=trivial
theorem PySem.W.Fast.tw9125846751781510899:True:=trivial
theorem PySem.W.Fast.tw14340846634817191728:True:=trivial
theorem PySem.W.Fast.tw17999255517181491949:True:=trivial
theorem PySem.W.Fast.tw15433622103463242434:True:=trivial
theorem PySem.W.Fast.tw7832006848343350526:True:=trivial
theorem PySem.W.Fast.tw17977977723796478442:True:=trivial
theorem PySem.W.Fast.tw1300778566812219466:True:=trivial
theorem PySem.W.Fast.tw4494153335477599899:True:=trivial
theorem PySem.W.Fast.tw1162244385083037196:True:=trivial
theorem PySem.W.Fast.tw4732964035414773611:True:=trivial
theorem PySem.W.Fast.tw12408704313995131231:True:=trivial
theorem PySem.W.Fast.tw13458576863170869002:True:=trivial
theorem PySem.W.Fast.tw9200729583384366265:True:=trivial
theorem PySem.W.Fast.tw9347633683142132853:True:=trivial
open PySem PySem.W PyProof.Rows
set_option maxRecDepth 100000 in
set_option maxHeartbeats 0 in
theorem PySem.Challenge.cw_thingyard_k44_steps_and_signs_holds : PySem.Challenge.rw_thingyard_k44_steps_and_signs.Holds := by
 w_on;o_law;k_head;(case hw=>w_witness2)
 k_fill
 refine My.zSO (l:=PySem.Challenge.rw_thingyard_k44_steps_and_signs) rfl rfl (fun w h Y=>PySem.W.kIn_of Y) ?F
 case F =>
  intro w mg fa h KX G hmg
  refine' My.zPy KX G hmg ?zCq ?zCr ?zCs ?zCt ?zCu ?zCv ?zCw ?zBH ?zBI ?zBJ ?zBK ?zBL ?zBM ?zBN ?a1 ?l1 ?c1 ?k1 ?a2 ?l2 ?c2 ?k2 ?a3 ?i3 ?l3 ?c3 ?k3 ?a4 ?i4 ?l4 ?c4 ?k4 ?a5 ?i5 ?l5 ?c5 ?k5 ?a6 ?i6 ?l6 ?c6 ?k6 ?a7 ?i7 ?l7 ?c7 ?k7 ?a8 ?i8 ?l8 ?c8 ?k8 ?a9 ?i9 ?l9 ?c9 ?k9 ?a10 ?i10 ?l10 ?c10 ?k10 ?a11 ?i11 ?l11 ?c11 ?k11 ?a12 ?i12 ?l12 ?c12 ?k12 ?a13 ?l13 ?c13 ?k13 ?a14 ?i14 ?l14 ?c14 ?k14 ?a15 ?i15 ?l15 ?c15 ?k15 ?a16 ?i16 ?l16 ?c16 ?k16 ?a17 ?l17 ?c17 ?k17 ?a18 ?l18 ?c18 ?k18 ?a19 ?l19 ?c19 ?k19 ?a20 ?l20 ?c20 ?k20 ?a21 ?l21 ?c21 ?k21 ?a22 ?l22 ?c22 ?k22 ?a23 ?l23 ?c23 ?k23 ?a24 ?l24 ?c24 ?k24 ?a25 ?l25 ?c25 ?k25 ?a26 ?i26 ?l26 ?c26 ?k26 ?a27 ?i27 ?l27 ?c27 ?k27 ?a28 ?l28 ?c28 ?k28 ?a29 ?l29 ?c29 ?k29 ?a30 ?l30 ?c30 ?k30 ?z_len ?z_reversed ?z_range ?z_all ?z_isinstance ?z_str ?z_sorted ?z_list ?z_int ?z_min ?z_max ?z_tuple ?v_MOST_SIGNS ?r_MOST_SIGNS ?v_MOST_STEPS ?r_MOST_STEPS ?v_KEPT_WORDS ?w_KEPT_WORDS ?r_KEPT_WORDS ?v_MOST_LETTERS ?r_MOST_LETTERS
  (case zCq=>k_is)
  (case zCr=>k_is)
  (case zCs=>k_is)
  (case zCt=>k_is)
  (case zCu=>k_is)
  (case zCv=>k_is)
  (case zCw=>k_is)
  (case zBH=>k_is)
  (case zBI=>k_is)
  (case zBJ=>k_is)
  (case zBK=>k_is)
  (case zBL=>k_is)
  (case zBM=>k_is)
  (case zBN=>k_is)
  (case a1=>k_is)
  (case l1=>k_is)
  (case c1=>k_is)
  (case k1=>k_is)
  (case a2=>k_is)
  (case l2=>k_is)
  (case c2=>k_is)
  (case k2=>k_is)
  (case a3=>k_is)
  (case i3=>k_is)
  (case l3=>k_is)
  (case c3=>k_is)
  (case k3=>k_is)
  (case a4=>k_is)
  (case i4=>k_is)
  (case l4=>k_is)
  (case c4=>k_is)
  (case k4=>k_is)
  (case a5=>k_is)
  (case i5=>k_is)
  (case l5=>k_is)
  (case c5=>k_is)
  (case k5=>k_is)
  (case a6=>k_is)
  (case i6=>k_is)
  (case l6=>k_is)
  (case c6=>k_is)
  (case k6=>k_is)
  (case a7=>k_is)
  (case i7=>k_is)
  (case l7=>k_is)
  (case c7=>k_is)
  (case k7=>k_is)
  (case a8=>k_is)
  (case i8=>k_is)
  (case l8=>k_is)
  (case c8=>k_is)
  (case k8=>k_is)
  (case a9=>k_is)
  (case i9=>k_is)
  (case l9=>k_is)
  (case c9=>k_is)
  (case k9=>k_is)
  (case a10=>k_is)
  (case i10=>k_is)
  (case l10=>k_is)
  (case c10=>k_is)
  (case k10=>k_is)
  (case a11=>k_is)
  (case i11=>k_is)
  (case l11=>k_is)
  (case c11=>k_is)
  (case k11=>k_is)
  (case a12=>k_is)
  (case i12=>k_is)
  (case l12=>k_is)
  (case c12=>k_is)
  (case k12=>k_is)
  (case a13=>k_is)
  (case l13=>k_is)
  (case c13=>k_is)
  (case k13=>k_is)
  (case a14=>k_is)
  (case i14=>k_is)
  (case l14=>k_is)
  (case c14=>k_is)
  (case k14=>k_is)
  (case a15=>k_is)
  (case i15=>k_is)
  (case l15=>k_is)
  (case c15=>k_is)
  (case k15=>k_is)
  (case a16=>k_is)
  (case i16=>k_is)
  (case l16=>k_is)
  (case c16=>k_is)
  (case k16=>k_is)
  (case a17=>k_is)
  (case l17=>k_is)
  (case c17=>k_is)
  (case k17=>k_is)
  (case a18=>k_is)
  (case l18=>k_is)
  (case c18=>k_is)
  (case k18=>k_is)
  (case a19=>k_is)
  (case l19=>k_is)
  (case c19=>k_is)
  (case k19=>k_is)
  (case a20=>k_is)
  (case l20=>k_is)
  (case c20=>k_is)
  (case k20=>k_is)
  (case a21=>k_is)
  (case l21=>k_is)
  (case c21=>k_is)
  (case k21=>k_is)
  (case a22=>k_is)
  (case l22=>k_is)
  (case c22=>k_is)
  (case k22=>k_is)
  (case a23=>k_is)
  (case l23=>k_is)
  (case c23=>k_is)
  (case k23=>k_is)
  (case a24=>k_is)
  (case l24=>k_is)
  (case c24=>k_is)
  (case k24=>k_is)
  (case a25=>k_is)
  (case l25=>k_is)
  (case c25=>k_is)
  (case k25=>k_is)
  (case a26=>k_is)
  (case i26=>k_is)
  (case l26=>k_is)
  (case c26=>k_is)
  (case k26=>k_is)
  (case a27=>k_is)
  (case i27=>k_is)
  (case l27=>k_is)
  (case c27=>k_is)
  (case k27=>k_is)
  (case a28=>k_is)
  (case l28=>k_is)
  (case c28=>k_is)
  (case k28=>k_is)
  (case a29=>k_is)
  (case l29=>k_is)
  (case c29=>k_is)
  (case k29=>k_is)
  (case a30=>k_is)
  (case l30=>k_is)
  (case c30=>k_is)
  (case k30=>k_is)
  (case z_len=>k_is)
  (case z_reversed=>k_is)
  (case z_range=>k_is)
  (case z_all=>k_is)
  (case z_isinstance=>k_is)
  (case z_str=>k_is)
  (case z_sorted=>k_is)
  (case z_list=>k_is)
  (case z_int=>k_is)
  (case z_min=>k_is)
  (case z_max=>k_is)
  (case z_tuple=>k_is)
  (case v_MOST_SIGNS=>k_is)
  (case r_MOST_SIGNS=>rfl)
  (case v_MOST_STEPS=>k_is)
  (case r_MOST_STEPS=>rfl)
  (case v_KEPT_WORDS=>k_is)
  (case w_KEPT_WORDS=>k_is)
  (case r_KEPT_WORDS=>rfl)
  (case v_MOST_LETTERS=>k_is)
  (case r_MOST_LETTERS=>rfl)
