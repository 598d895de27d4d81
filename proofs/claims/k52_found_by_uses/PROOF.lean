import PyProof.Rows.All
import Wide.All
import OpenK.AllK
import Wide.FinOn
import Lean
import PyProof.EqAt
import PyProof.EqKinds
import PyProof.TupleCall
import PySem.Challenge.RW_thingyard_k52_found_by_uses
set_option Elab.async false
set_option linter.all false
set_option maxRecDepth 100000
noncomputable section
namespace L2
open PySem PySem.Spec PyProof.Rows
noncomputable abbrev Key:=Sum Int Str
noncomputable def zAD:Key->Value->Bool
 | .inl k,v=>Value.isInt k v
 | .inr x,v=>Value.isStrOf x v
noncomputable def zM7 (w:World):Key->Int
 | .inl k=>hashInt k
 | .inr x=>hashStr w x
theorem jv:∀ {k:Key}{v:Value},zAD k v=true->(∃ i t,k=Sum.inl i/\v=Value.int i t)\/(∃ x t,k=Sum.inr x/\v=Value.str x t)
 | .inl i,v,h=>by
  obtain⟨t,e⟩:=Value.isInt_shape (k:=i) (v:=v) h
  exact .inl ⟨i,t,rfl,e⟩
 | .inr x,v,h=>by
  obtain⟨t,e⟩:=Value.isStrOf_shape (x:=x) (v:=v) h
  exact .inr ⟨x,t,rfl,e⟩
theorem zF1 (i:Int) (t:Tok):zAD (.inl i) (.int i t)=true:=by simp[zAD,Value.isInt]
theorem zGH (x:Str) (t:Tok):zAD (.inr x) (.str x t)=true:=by simp[zAD,Value.isStrOf]
theorem zKy (a b:Int):decide ((Sum.inl a:Key)=Sum.inl b)=(a == b):=by
 by_cases e:a=b
 ·subst e;simp
 ·have h:¬ (Sum.inl a:Key)=Sum.inl b:=fun q=>e (Sum.inl.inj q)
  rw[decide_eq_false h]
  exact (beq_eq_false_iff_ne.mpr e).symm
theorem zKn (a b:Str):decide ((Sum.inr a:Key)=Sum.inr b)=decide (a=b):=by
 by_cases e:a=b
 ·subst e;simp
 ·have h:¬ (Sum.inr a:Key)=Sum.inr b:=fun q=>e (Sum.inr.inj q)
  rw[decide_eq_false h,decide_eq_false e]
theorem zKG (a:Int) (b:Str):decide ((Sum.inl a:Key)=Sum.inr b)=false:=decide_eq_false (fun q=>nomatch q)
theorem zLj (a:Str) (b:Int):decide ((Sum.inr a:Key)=Sum.inl b)=false:=decide_eq_false (fun q=>nomatch q)
noncomputable def j2 (prog:Program) (w:World):PySem.KeyKind prog w Key where
 is:=zAD
 hash:=zM7 w
 inj:=fun v a b ha hb=>by
  rcases jv ha with ⟨i,t,rfl,rfl⟩ | ⟨x,t,rfl,rfl⟩
  ·rcases jv hb with ⟨j,u,rfl,e⟩ | ⟨y,u,rfl,e⟩
   ·injection e with e1 _;rw[e1]
   ·exact nomatch e
  ·rcases jv hb with ⟨j,u,rfl,e⟩ | ⟨y,u,rfl,e⟩
   ·exact nomatch e
   ·injection e with e1 _;rw[e1]
 byValue:=fun k v h=>by
  rcases jv h with ⟨i,t,rfl,rfl⟩ | ⟨x,t,rfl,rfl⟩<;>rfl
 pyHash:=fun hv h=>by
  rcases jv hv with ⟨i,t,rfl,rfl⟩ | ⟨x,t,rfl,rfl⟩
  ·exact wpAny_pyHash_int h
  ·exact wpAny_pyHash_str h
 eqBool:=fun hu hv h=>by
  rcases jv hu with ⟨i,t,rfl,rfl⟩ | ⟨x,t,rfl,rfl⟩
  ·rcases jv hv with ⟨j,u,rfl,rfl⟩ | ⟨y,u,rfl,rfl⟩
   ·rw[zKy] at h;exact wpAny_eqBool_int h
   ·rw[zKG] at h;exact SeqAt.EqAt.int_str i t y u _ _ _ _ h
  ·rcases jv hv with ⟨j,u,rfl,rfl⟩ | ⟨y,u,rfl,rfl⟩
   ·rw[zLj] at h;exact SeqAt.EqAt.str_int x t j u _ _ _ _ h
   ·rw[zKn] at h;exact wpAny_eqBool_str h
 «strs» := fun k x t v h=>by
  rcases jv h with ⟨i,u,rfl,e⟩ | ⟨y,u,rfl,e⟩
  ·exact nomatch e
  ·injection e with e1 _
   subst e1
   cases v<;>rfl
theorem zEP (prog:Program) (w:World) (i:Int) (t:Tok):(j2 prog w).is (.inl i) (.int i t)=true:=zF1 i t
theorem zEQ (prog:Program) (w:World) (x:Str) (t:Tok):(j2 prog w).is (.inr x) (.str x t)=true:=zGH x t
end L2
namespace L2
open PySem PySem.Spec PyProof.Rows
inductive V where
 | non | bl (b:Bool) | int (i:Int) | str (x:Str) | byt (b:Array UInt8) | flt (b:UInt64) | ref (a:Addr) | ty (n:String)
 deriving DecidableEq
noncomputable def zZ:V->Value->Prop
 | .non,u=>u=Value.none
 | .bl b,u=>u=Value.bool b
 | .int i,u=>∃ t,u=Value.int i t
 | .str x,u=>∃ t,u=Value.str x t
 | .byt b,u=>∃ t,u=Value.bytes b t
 | .flt b,u=>∃ t,u=Value.float b t
 | .ref a,u=>u=Value.ref a
 | .ty n,u=>u=Value.type n
noncomputable abbrev zY:List V->List Value->Prop:=Paired zZ
theorem zY.length {xs:List V}{us:List Value} (r:zY xs us):xs.length=us.length:=Paired.length r
theorem zY.get:∀ {xs:List V}{us:List Value}{i:Nat}{x:V},zY xs us->xs[i]? = some x->∃ u,us[i]? = some u/\zZ x u
 | _,_,_,_,.nil,e=>by simp at e
 | _,_,0,_,.cons r _,e=>by simp at e;subst e;exact⟨_,rfl,r⟩
 | _,_,i+1,x,.cons _ t,e=>by
  obtain⟨u,h1,h2⟩:=zY.get (i:=i) (x:=x) t (by simpa using e)
  exact⟨u,by simpa using h1,h2⟩
theorem zY.set {x:V}{u:Value} (r:zZ x u):∀ {xs:List V}{us:List Value} (i:Nat),zY xs us->zY (xs.set i x) (us.set i u)
 | _,_,_,.nil=>.nil
 | _,_,0,.cons _ t=>.cons r t
 | _,_,i+1,.cons q t=>.cons q (zY.set r i t)
theorem zY.append:∀ {xs ys:List V}{us ws:List Value},zY xs us->zY ys ws->zY (xs++ys) (us++ws)
 | _,_,_,_,.nil,s=>s
 | _,_,_,_,.cons r t,s=>.cons r (zY.append t s)
theorem zY.take:∀ {xs:List V}{us:List Value} (n:Nat),zY xs us->zY (xs.take n) (us.take n)
 | _,_,0,_=>.nil
 | _,_,_+1,.nil=>.nil
 | _,_,n+1,.cons r t=>.cons r (zY.take n t)
theorem zY.drop:∀ {xs:List V}{us:List Value} (n:Nat),zY xs us->zY (xs.drop n) (us.drop n)
 | _,_,0,r=>r
 | _,_,_+1,.nil=>.nil
 | _,_,n+1,.cons _ t=>zY.drop n t
noncomputable def yn:Option V->Option Value->Prop
 | some v,some u=>zZ v u
 | none,none=>True
 | _,_=>False
noncomputable def KV {κ:Type}:List (κ×V)->List (κ×Value)->Prop:=Paired fun (p:κ×V) (q:κ×Value)=>p.1=q.1/\zZ p.2 q.2
noncomputable def kV:Key->V
 | .inl i=>.int i
 | .inr x=>.str x
inductive HO where
 | lst (xs:List V)
 | tup (xs:List V)
 | dK (kvs:List (Key×V)) | dT (kvs:List (List Key×V))
 | set (S:Int->Bool) (n:Nat)
 | ins (C dx:Addr) (fs:List (Str×V))
 | own (x:Addr)
 | xd (fs:List (Str×V))
 | met (f x:Addr)
 | rng (lo hi:Int)
 | frz (o:Obj) (u:HO)
 | tbl (ps:Array Value)
 | ext (φ:Heap->Prop)
noncomputable abbrev Hp:=Addr->Option HO
noncomputable def upd (H:Hp) (a:Addr) (o:HO):Hp:=fun b=>if b=a then some o else H b
theorem jB {H:Hp}{a:Addr}{o:HO}:upd H a o a=some o:=by unfold upd;rw[if_pos rfl]
theorem zU {H:Hp}{a b:Addr}{o:HO} (h:b≠a):upd H a o b=H b:=by unfold upd;rw[if_neg h]
theorem zMb {H:Hp}{a b:Addr}{o u:HO} (h:H a=some o) (h':H b=some u) (d:o≠u):a≠b:=by
 intro e;subst e;rw[h] at h';exact d (Option.some.inj h')
theorem jm {H:Hp}{a b:Addr}{o:HO} (h:H a=some o) (h':H b=none):a≠b:=by
 intro e;subst e;rw[h] at h';cases h'
section
variable (P:Program) (w:World)
noncomputable def jK (H:Hp) (h:Heap) (a:Addr):HO->Prop
 | .lst xs=>xs.length <= sizeLine/\∃ (its:List Value) (n:Nat),zY xs its/\h.get? a=some { cls:=.type "list",data:=.seq its.toArray n }
 | .tup xs=>xs.length <= sizeLine/\∃ its:List Value,zY xs its/\IsTup h a its.toArray
 | .dK kvs=>kvs.length <= sizeLine/\(a == sysModules)=false/\∃ vs,KV kvs vs/\h.DictOf (j2 P w) a vs
 | .dT kvs=>kvs.length <= sizeLine/\(a == sysModules)=false/\∃ xs:List (List Key×Addr×Value),
   Paired (fun (p:List Key×V) (q:List Key×Addr×Value)=>p.1=q.1/\H q.2.1=some (.tup (p.1.map kV))/\zZ p.2 q.2.2) kvs xs /\
   ∃ o es ep,h.get? a=some o/\o.ExactDict/\o.data=.dict es ep/\es.toList=xs.map (entryOfKey (tupleKind (j2 P w)))/\(xs.map (·.1)).Nodup
 | .set S n=>h.SetOf (intKind P w) a S n
 | .ins C dx fs=>H dx=some (.own a)/\fs.length <= 1000/\dx≠a/\h.get? a=some (PySem.W.instObj C dx) /\
   ∃ mA,h.Ns1 dx mA/\(∀ f,yn (fs.lookup f) (mA f))/\PySem.Within mA (fs.map (·.1))
 | .own _=>∃ o,h.get? a=some o
 | .xd fs=>∃ mA,h.Ns1 a mA/\∀ f,yn (fs.lookup f) (mA f)
 | .rng lo hi=>∃ t u v,h.get? a=some { cls:=.type "range",data:=.fields #[.int lo t,.int hi u,.int 1 v] }
 | .frz o u=>h.get? a=some o/\jK H h a u
 | .tbl ps=>h.get? a=some { cls:=.none,data:=.fields ps }
 | .met f x=>h.get? a=some (PySem.W.methodObj (.ref f) (.ref x))
 | .ext φ=>φ h/\(∃ o,h.get? a=some o)/\∀ h1 h2:Heap,φ h1->(∀ o,h1.get? a=some o->h2.get? a=some o)->φ h2
noncomputable def HOk (H:Hp) (h:Heap):Prop:=∀ a o,H a=some o->jK P w H h a o
end
section
variable {P:Program}{w:World}{H H':Hp}{h h':Heap}{a:Addr}{o:HO}
theorem jK.lt (x:jK P w H h a o):a < h.objs.size:=by
 cases o with
 | lst xs=>obtain⟨_,_,_,_,e⟩:=x;exact Heap.lt_size e
 | tup xs=>obtain⟨_,_,_,p⟩:=x;exact p.lt
 | dK kvs=>obtain⟨_,_,_,_,o,_,_,e,_⟩:=x;exact Heap.lt_size e
 | dT kvs=>obtain⟨_,_,_,_,o,_,_,e,_⟩:=x;exact Heap.lt_size e
 | set S n=>obtain⟨o,_,_,_,e,_⟩:=x;exact Heap.lt_size e
 | ins C dx fs=>obtain⟨_,_,_,e,_⟩:=x;exact Heap.lt_size e
 | own y=>obtain⟨_,e⟩:=x;exact Heap.lt_size e
 | xd fs=>obtain⟨_,⟨_,_,_,e,_⟩,_⟩:=x;exact Heap.lt_size e
 | rng lo hi=>obtain⟨_,_,_,e⟩:=x;exact Heap.lt_size e
 | frz ob u=>obtain⟨e,_⟩:=x;exact Heap.lt_size e
 | tbl ps=>exact Heap.lt_size (show h.get? a=some _ from x)
 | met f y=>exact Heap.lt_size (show h.get? a=some _ from x)
 | ext φ=>obtain⟨_,⟨_,e⟩,_⟩:=x;exact Heap.lt_size e
theorem Paired.mapP {α β:Type}{F G:α->β->Prop}:∀ {l₁:List α}{l₂:List β},Paired F l₁ l₂->(∀ a b,F a b->G a b)->Paired G l₁ l₂
 | _,_,.nil,_=>.nil
 | _,_,.cons r t,f=>.cons (f _ _ r) (Paired.mapP t f)
theorem jK.stay (x:jK P w H h a o) (k:∀ b u,(b=a\/H b=some (.own a))->h.get? b=some u->h'.get? b=some u)
  (ho:∀ b,H b=some (.own a)->H' b=some (.own a)) (ht:∀ b xs,H b=some (.tup xs)->H' b=some (.tup xs)):jK P w H' h' a o:=by
 induction o with
 | lst xs=>obtain⟨z,its,n,r,e⟩:=x;exact⟨z,its,n,r,k _ _ (.inl rfl) e⟩
 | tup xs=>obtain⟨z,its,r,ob,e,c⟩:=x;exact⟨z,its,r,ob,k _ _ (.inl rfl) e,c⟩
 | dK kvs=>obtain⟨z,y,vs,r,ob,es,ep,e,c⟩:=x;exact⟨z,y,vs,r,ob,es,ep,k _ _ (.inl rfl) e,c⟩
 | dT kvs =>
  obtain⟨z,y,xs,r,ob,es,ep,e,c⟩:=x
  exact⟨z,y,xs,Paired.mapP r fun p q z=>⟨z.1,ht _ _ z.2.1,z.2.2⟩,ob,es,ep,k _ _ (.inl rfl) e,c⟩
 | set S n=>obtain⟨ob,es,ep,t,e,c⟩:=x;exact⟨ob,es,ep,t,k _ _ (.inl rfl) e,c⟩
 | ins C dx fs =>
  obtain⟨d,z,ne,e,mA,⟨od,es,ep,e2,c⟩,r⟩:=x
  exact⟨ho _ d,z,ne,k _ _ (.inl rfl) e,mA,⟨od,es,ep,k _ _ (.inr d) e2,c⟩,r⟩
 | own y=>obtain⟨ob,e⟩:=x;exact⟨ob,k _ _ (.inl rfl) e⟩
 | xd fs=>obtain⟨mA,⟨od,es,ep,e,c⟩,r⟩:=x;exact⟨mA,⟨od,es,ep,k _ _ (.inl rfl) e,c⟩,r⟩
 | rng lo hi=>obtain⟨t,u,v,e⟩:=x;exact⟨t,u,v,k _ _ (.inl rfl) e⟩
 | frz ob u ih=>obtain⟨e,q⟩:=x;exact⟨k _ _ (.inl rfl) e,ih q⟩
 | tbl ps =>
  have e:h.get? a=some { cls:=.none,data:=.fields ps }:=x
  show h'.get? a=some { cls:=.none,data:=.fields ps }
  exact k a _ (.inl rfl) e
 | met f y =>
  have e:h.get? a=some (PySem.W.methodObj (.ref f) (.ref y)):=x
  show h'.get? a=some (PySem.W.methodObj (.ref f) (.ref y))
  exact k a _ (.inl rfl) e
 | ext φ=>obtain⟨p,⟨o,e⟩,st⟩:=x;exact⟨st _ _ p fun o q=>k _ _ (.inl rfl) q,⟨o,k _ _ (.inl rfl) e⟩,st⟩
theorem HOk.lt (x:HOk P w H h) (e:H a=some o):a < h.objs.size:=(x a o e).lt
theorem HOk.fresh (x:HOk P w H h) (e:h.objs.size <= a):H a=none:=by
 cases q:H a with
 | none=>rfl
 | some u=>exact absurd (Nat.lt_of_lt_of_le (x.lt q) e) (Nat.lt_irrefl _)
theorem HOk.kept (x:HOk P w H h) (k:∀ b u,h.get? b=some u->h'.get? b=some u):HOk P w H h':=fun a o e =>
 (x a o e).stay (fun b u _ q=>k b u q) (fun _ q=>q) fun _ _ q=>q
theorem HOk.laid (x:HOk P w H h) (k:∀ b u,h.get? b=some u->h'.get? b=some u) (hp:h.objs.size <= a) (new:jK P w (upd H a o) h' a o):HOk P w (upd H a o) h':=fun b u e=>by
 have hn:=x.fresh hp
 by_cases hb:b=a
 ·subst hb;rw[jB] at e;cases e;exact new
 ·rw[zU hb] at e
  exact (x b u e).stay (fun c v _ q=>k c v q) (fun c q=>by rw[zU (jm q hn)];exact q) fun c xs q=>by rw[zU (jm q hn)];exact q
end
noncomputable def Rd (H:Hp) (a:Addr) (u:HO):Prop:=H a=some u\/∃ o,H a=some (.frz o u)
theorem Rd.ok {P:Program}{w:World}{H:Hp}{h:Heap}{a:Addr}{u:HO} (r:Rd H a u) (x:HOk P w H h):jK P w H h a u:=by
 rcases r with r | ⟨o,r⟩
 ·exact x a u r
 ·obtain⟨_,q⟩:=x a _ r
  exact q
noncomputable def Mut:Option HO->Prop
 | some (.lst _)=>True
 | some (.dK _)=>True
 | some (.dT _)=>True
 | some (.set _ _)=>True
 | some (.ins _ _ _)=>True
 | some (.ext _)=>True
 | _=>False
section
variable {P:Program}{w:World}{H:Hp}{h h':Heap}{x e:Addr}{o':HO}
theorem HOk.write (ok:HOk P w H h) (mu:Mut (H x)) (he:e=x\/H e=some (.own x)) (k:∀ b u,b≠e->h.get? b=some u->h'.get? b=some u) (heo:∃ u,h'.get? e=some u)
  (new:jK P w (upd H x o') h' x o'):HOk P w (upd H x o') h':=fun b u q=>by
 have nown:∀ c y,H c=some (.own y)->c≠x:=fun c y r z=>by subst z;rw[r] at mu;exact mu
 have ntup:∀ c xs,H c=some (.tup xs)->c≠x:=fun c xs r z=>by subst z;rw[r] at mu;exact mu
 by_cases hb:b=x
 ·subst hb;rw[jB] at q;cases q;exact new
 ·rw[zU hb] at q
  by_cases hbe:b=e
  ·have q':H b=some (.own x):=by
    rcases he with z | z
    ·exact absurd (hbe.trans z) hb
    ·rw[hbe];exact z
   rw[q] at q';cases q'
   obtain⟨v,hv⟩:=heo
   exact⟨v,by rw[hbe];exact hv⟩
  ·refine (ok b u q).stay (fun c v hc r=>k c v ?_ r) (fun c r=>by rw[zU (nown c b r)];exact r) fun c xs r=>by rw[zU (ntup c xs r)];exact r
   rcases hc with rfl | hc
   ·exact hbe
   ·rintro rfl
    rcases he with z | z
    ·exact nown c b hc z
    ·rw[hc] at z;cases z;exact hb rfl
end
structure Un (fs ex:List Addr) (H H':Hp) (h h':Heap):Prop where
 keep:∀ b o,h.get? b=some o->H b=none->b∉fs->b∉ex->h'.get? b=some o
 slot:∀ b o,h.get? b=some o->H b=none->b∈fs->b∉ex->∃ sl,h'.get? b=some { o with slots:=sl }
 free:∀ b o,h.get? b=some o->H b=none->b∉ex->H' b=none
 there:∀ b o,h.get? b=some o->b∉ex->∃ o',h'.get? b=some o'
 tups:∀ b xs,H b=some (.tup xs)->H' b=some (.tup xs)
 frzs:∀ b o u,H b=some (.frz o u)->H' b=some (.frz o u)
 tbls:∀ b ps,H b=some (.tbl ps)->∃ more,H' b=some (.tbl (ps++more))
section
variable {fs fs' ex ex':List Addr}{H H1 H2:Hp}{h h1 h2 h':Heap}{a x e:Addr}{o:HO}
theorem Un.any (u:Un fs ex H H1 h h1) {b:Addr}{ob:Obj} (q:h.get? b=some ob) (n:H b=none) (hx:b∉ex):∃ sl,h1.get? b=some { ob with slots:=sl }:=by
 by_cases hb:b∈fs
 ·exact u.slot b ob q n hb hx
 ·exact⟨ob.slots,u.keep b ob q n hb hx⟩
theorem Un.kept (k:∀ b u,h.get? b=some u->h'.get? b=some u):Un fs ex H H h h' :=
 ⟨fun b ob q _ _ _=>k b ob q,fun b ob q _ _ _=>⟨ob.slots,k b ob q⟩,fun _ _ _ n _=>n,fun b ob q _=>⟨ob,k b ob q⟩,fun _ _ q=>q,fun _ _ _ q=>q,fun _ ps q=>⟨#[],by rw[q];simp⟩⟩
theorem Un.refl:Un fs ex H H h h:=Un.kept fun _ _ q=>q
theorem Un.laid (k:∀ b u,h.get? b=some u->h'.get? b=some u) (hp:h.objs.size <= a) (hn:H a=none):Un fs ex H (upd H a o) h h' where
 keep:=fun b u q _ _ _=>k b u q
 slot:=fun b u q _ _ _=>⟨u.slots,k b u q⟩
 free:=fun b u q n _=>by rw[zU (Nat.ne_of_lt (Nat.lt_of_lt_of_le (Heap.lt_size q) hp))];exact n
 there:=fun b u q _=>⟨u,k b u q⟩
 tups:=fun b xs q=>by rw[zU (jm q hn)];exact q
 frzs:=fun b u xs q=>by rw[zU (jm q hn)];exact q
 tbls:=fun b ps q=>⟨#[],by rw[zU (jm q hn),q];simp⟩
theorem Un.write (mu:Mut (H x)) (he:e=x\/H e=some (.own x)) (k:∀ b u,b≠e->h.get? b=some u->h'.get? b=some u) (heo:∃ u,h'.get? e=some u):Un fs ex H (upd H x o) h h':=by
 have hx:∀ b,H b=none->b≠x:=fun b n z=>by subst z;rw[n] at mu;exact mu
 have hb:∀ b,H b=none->b≠e:=fun b n z=>by
  subst z
  rcases he with r | r
  ·exact hx b n r
  ·rw[n] at r;cases r
 have hm:∀ b u,H b=some u -> ¬ Mut (some u)->b≠x:=fun b u q nm z=>by subst z;rw[q] at mu;exact nm mu
 refine⟨fun b u q n _ _=>k b u (hb b n) q,fun b u q n _ _=>⟨u.slots,k b u (hb b n) q⟩,fun b u q n _=>by rw[zU (hx b n)];exact n,fun b u q _=>?_,
  fun b xs q=>by rw[zU (hm b _ q fun z=>z)];exact q,fun b u xs q=>by rw[zU (hm b _ q fun z=>z)];exact q,fun b ps q=>⟨#[],by rw[zU (hm b _ q fun z=>z),q];simp⟩⟩
 by_cases hbe:b=e
 ·subst hbe;exact heo
 ·exact⟨u,k b u hbe q⟩
end
noncomputable def trk (h:Heap) (H:Hp):List Addr:=(List.range h.objs.size).filter fun a=>(H a).isSome
noncomputable def JB (h:Heap) (H:Hp):Heap:=PySem.W.hideAll h (trk h H)
theorem zGP (h:Heap) (H:Hp):(JB h H).objs.size=h.objs.size:=PySem.W.hideAll_size _ _
theorem zHJ {h:Heap}{H:Hp}{b:Addr}{o:Obj} (e:h.get? b=some o) (n:H b=none):(JB h H).get? b=some o :=
 PySem.W.hideAll_get _ e fun hm=>by
  have q:(H b).isSome=true:=(List.mem_filter.mp hm).2
  rw[n] at q;simp at q
theorem zJl {h:Heap}{H:Hp}{b:Addr}{o:Obj} (e:(JB h H).get? b=some o):h.get? b=some o/\H b=none:=by
 have e':h.get? b=some o:=PySem.W.of_hideAll (trk h H) e
 refine⟨e',?_⟩
 cases q:H b with
 | none=>rfl
 | some x =>
  have hm:b∈trk h H:=List.mem_filter.mpr ⟨List.mem_range.mpr (Heap.lt_size e'),by simp[q]⟩
  have z:(JB h H).get? b=none:=PySem.W.hideAll_none (trk h H) hm
  rw[z] at e;cases e
noncomputable def zJQ (g h:Heap) (L:Addr):List (Addr×Obj):=(List.range h.objs.size).filterMap fun a=>if a=L\/(g.get? a).isSome=true then none else (h.get? a).map fun o=>(a,o)
noncomputable def j1 (g h:Heap) (L d:Addr):List (Addr×Obj):=(zJQ g h L).filter fun p=>decide (p.1≠d)
end L2
namespace L2
open PySem PySem.Spec PyProof.Rows
structure Mod (K:PySem.W.Frag) (mg:Str->Option Value) (base:Heap):Prop where
 kin:K.In base
 glob:base.Ns mainGlobals mg
 blt:∃ mb,base.Ns builtinsNs mb/\∀ x:Str,x ≠ "__name__" -> mb x=bootBuiltins x
 nolimit:base.NoLimit
structure Cx where
 prog:Program
 w:World
 K:PySem.W.Frag
 mg:Str->Option Value
 base:Heap
 A:Around
 N:List Str
 s₀:Shared
 H₀:Hp
 env:Env
 outer:List Env
 stack:List Env
 ex:List Addr
 fn:Str->Bool
 calm:Bool
 pn:List (Addr×Obj)
 xe:Value->Shared->Prop
noncomputable def frs (l:List Env):List Addr:=l.filterMap (·.frame)
noncomputable abbrev Cx.fs (X:Cx):List Addr:=frs X.outer
noncomputable def Vis (sc:Scope) (x:Str):Prop:=sc.names.lookup x=some .local\/sc.names.lookup x=some .cell\/sc.names.lookup x=some .free
noncomputable def Loc (sc:Scope) (x:Str):Prop:=sc.names.lookup x=some .local\/sc.names.lookup x=some .cell
noncomputable def zM6 (env:Env) (h:Heap) (m:Str->Option Value) (x:Str) (u:Value):Prop :=
 (env.kindOf x=some .local/\m x=some u)\/((env.kindOf x=some .cell\/env.kindOf x=some .free)/\∃ c,env.cells.lookup x=some c/\h.IsCell c (some u))
structure Cx.Ok (X:Cx):Prop where
 mod:Mod X.K X.mg X.base
 kind:X.env.scope.kind=.function
 glob:X.env.globals=mainGlobals
 blt:X.env.builtins=builtinsNs
 above:X.s₀.heap.objs.size <= X.env.locals
 inj:∀ x y c,X.env.cells.lookup x=some c->X.env.cells.lookup y=some c->x=y
 has:∀ x,(X.env.kindOf x=some .cell\/X.env.kindOf x=some .free)->∃ c,X.env.cells.lookup x=some c
 cab:∀ x c,X.fn x=true->X.env.cells.lookup x=some c->X.s₀.heap.objs.size <= c
 hd:X.calm=true->X.A.handled=none
 frames:X.A.frames=some X.stack
 stk:X.stack=X.outer\/(X.stack=X.env::X.outer/\X.env.frame=some X.env.locals)
 exf:∀ b∈X.ex,b≠X.env.locals/\∀ x c,X.env.cells.lookup x=some c->c≠b
 bs:∀ b o,X.base.get? b=some o->X.s₀.heap.get? b=some o/\X.H₀ b=none
 bsz:X.base.objs.size <= X.s₀.heap.objs.size
 noex:∀ b o,X.base.get? b=some o->b∉X.ex
 exfs:∀ b∈X.ex,b∉X.fs
 funs:X.s₀.heap.FunFrames X.base X.outer
 frf:∀ b∈X.fs,X.H₀ b=none
structure Inv (X:Cx) (pins:List (Addr×Obj)) (σ:List (Option V)) (H:Hp) (s:Shared):Prop where
 ok:X.Ok
 os:s.os=X.s₀.os
 bare:AllBare s.gens
 base:Un X.fs X.ex X.H₀ H X.s₀.heap s.heap
 loc:∃ m,s.heap.Ns X.env.locals m/\∀ (i:Nat) (x:Str) (v:V),X.N[i]? = some x->σ[i]? = some (some v)->Vis X.env.scope x->∃ u,zZ v u/\zM6 X.env s.heap m x u
 cell:∀ x c,X.env.cells.lookup x=some c->∃ v,s.heap.IsCell c v
 free:H X.env.locals=none
 freeC:∀ x c,X.env.cells.lookup x=some c->H c=none
 pin:∀ p∈X.pn++pins,s.heap.get? p.1=some p.2/\H p.1=none/\p.1≠X.env.locals/\p.1∉X.fs/\∀ v,p.2.data≠.cell v
 hok:HOk X.prog X.w H s.heap
 len:σ.length=X.N.length
 tk:0 < s.toks
section
variable {X:Cx}{pins:List (Addr×Obj)}{σ:List (Option V)}{H H':Hp}{s:Shared}{h':Heap}
theorem Cx.Ok.nofr (ok:X.Ok) {b:Addr}{o:Obj} (e:X.base.get? b=some o):b∉X.fs:=fun hb=>by
 have:=(ok.funs.mem hb).1
 rw[e] at this;cases this
theorem Inv.bs (I:Inv X pins σ H s):∀ b o,X.base.get? b=some o->s.heap.get? b=some o/\H b=none:=fun b o e =>
 ⟨I.base.keep b o (I.ok.bs b o e).1 (I.ok.bs b o e).2 (I.ok.nofr e) (I.ok.noex b o e),I.base.free b o (I.ok.bs b o e).1 (I.ok.bs b o e).2 (I.ok.noex b o e)⟩
theorem Inv.bk (I:Inv X pins σ H s):∀ b o,X.base.get? b=some o->s.heap.get? b=some o:=fun b o e=>(I.bs b o e).1
theorem Inv.mod (I:Inv X pins σ H s):Mod X.K X.mg X.base:=I.ok.mod
theorem Inv.kIn (I:Inv X pins σ H s):X.K.In s.heap:=I.ok.mod.kin.keeps I.bk
theorem Inv.fr (I:Inv X pins σ H s):∃ m,Fr X.base X.env.locals s.heap m :=
 let ⟨m,hn,_⟩:=I.loc
 ⟨m,hn,I.bk,Nat.le_trans I.ok.bsz I.ok.above⟩
theorem Inv.lt (I:Inv X pins σ H s):X.env.locals < s.heap.objs.size:=let ⟨_,hn,_⟩:=I.loc;hn.lt
theorem Inv.sz (I:Inv X pins σ H s):X.s₀.heap.objs.size <= s.heap.objs.size:=Nat.le_trans I.ok.above (Nat.le_of_lt I.lt)
theorem Inv.nofs (I:Inv X pins σ H s) {a:Addr} (h:s.heap.objs.size <= a):a∉X.fs:=fun hb=>by
 obtain⟨_,o,ho,_⟩:=I.ok.funs.mem hb
 exact absurd (Nat.lt_of_lt_of_le (Heap.lt_size ho) (Nat.le_trans I.sz h)) (Nat.lt_irrefl _)
theorem Inv.cne (I:Inv X pins σ H s):∀ x c,X.env.cells.lookup x=some c->c≠X.env.locals:=fun x c e z=>by
 obtain⟨v,o,ho,hd⟩:=I.cell x c e
 obtain⟨m,⟨o',es,ep,ho',hd',_⟩,_⟩:=I.loc
 rw[z,ho'] at ho;cases ho;rw[hd'] at hd;cases hd
theorem Inv.funs (I:Inv X pins σ H s):s.heap.FunFrames X.base X.outer:=by
 have all:∀ (l:List Env),(∀ b∈frs l,b∈X.fs)->X.s₀.heap.FunFrames X.base l->s.heap.FunFrames X.base l:=by
  intro l
  induction l with
  | nil=>intro _ _;trivial
  | cons env r ih =>
   intro hs hl
   obtain⟨hk,⟨L,o,hf,hn,ho,hd⟩,hr⟩:=hl
   have hL:L∈X.fs:=hs L (by unfold frs;rw[List.filterMap_cons,hf];exact List.mem_cons_self)
   obtain⟨sl,e⟩:=I.base.slot L o ho (I.ok.frf L hL) hL fun z=>I.ok.exfs L z hL
   exact⟨hk,⟨L,_,hf,hn,e,hd⟩,ih (fun b hb=>hs b (by unfold frs;rw[List.filterMap_cons,hf];exact List.mem_cons_of_mem _ hb)) hr⟩
 exact all X.outer (fun _ hb=>hb) I.ok.funs
theorem Inv.stack (I:Inv X pins σ H s):s.heap.FunFrames X.base X.stack:=by
 rcases I.ok.stk with e | ⟨e,hf⟩
 ·rw[e];exact I.funs
 ·rw[e]
  obtain⟨m,hn,_⟩:=I.loc
  refine .cons (by rw[I.ok.kind];decide) hf hn ?_ I.funs
  exact Heap.get?_none_of_le (Nat.le_trans I.ok.bsz I.ok.above)
theorem Inv.stkSub (I:Inv X pins σ H s):∀ b∈frs X.stack,b∈X.env.locals::X.fs:=fun b hb=>by
 rcases I.ok.stk with e | ⟨e,hf⟩
 ·rw[e] at hb;exact List.mem_cons_of_mem _ hb
 ·rw[e] at hb
  unfold frs at hb
  rw[List.filterMap_cons,hf] at hb
  exact hb
theorem Inv.stkFree (I:Inv X pins σ H s):∀ b∈frs X.stack,H b=none:=fun b hb=>by
 rcases List.mem_cons.mp (I.stkSub b hb) with e | hb
 ·rw[e];exact I.free
 ·obtain⟨_,o,ho,_⟩:=I.ok.funs.mem hb
  exact I.base.free b o ho (I.ok.frf b hb) fun z=>I.ok.exfs b z hb
theorem Inv.step {g':Array GenState}{t':Nat}{d':Drawn}{ch:List Addr} (I:Inv X pins σ H s)
  (hch:∀ b∈ch,(b∈X.ex\/X.s₀.heap.objs.size <= b)/\b≠X.env.locals/\(∀ x c,X.env.cells.lookup x=some c->c≠b)/\∀ p∈X.pn++pins,p.1≠b)
  (keep:∀ b o,b≠X.env.locals->b∉X.fs->b∉ch->s.heap.get? b=some o->H b=none->h'.get? b=some o)
  (slot:∀ b o,b≠X.env.locals->b∈X.fs->b∉ch->s.heap.get? b=some o->H b=none->∃ sl,h'.get? b=some { o with slots:=sl }) (free:∀ b o,b∉ch->s.heap.get? b=some o->H b=none->H' b=none)
  (there:∀ b o,b∉ch->s.heap.get? b=some o->∃ o',h'.get? b=some o')
  (tups:∀ b xs,H b=some (.tup xs)->H' b=some (.tup xs)) (frzs:∀ b o u,H b=some (.frz o u)->H' b=some (.frz o u)) (tbls:∀ b ps,H b=some (.tbl ps)->∃ more,H' b=some (.tbl (ps++more)))
  (ns:∀ m,s.heap.Ns X.env.locals m->h'.Ns X.env.locals m) (hok:HOk X.prog X.w H' h') (hg:AllBare g') (ht:0 < t':=by first | exact Nat.succ_pos _ | assumption | exact Inv.tk (by assumption) | omega) :
  Inv X pins σ H' { s with heap:=h',gens:=g',drawn:=d',toks:=t' }:=by
 have neL:∀ b o,X.s₀.heap.get? b=some o->b≠X.env.locals:=fun b o e=>Nat.ne_of_lt (Nat.lt_of_lt_of_le (Heap.lt_size e) I.ok.above)
 have neC:∀ b o,X.s₀.heap.get? b=some o->b∉X.ex->b∉ch:=fun b o e hx hb=>by
  rcases (hch b hb).1 with z | z
  ·exact hx z
  ·exact absurd (Nat.lt_of_lt_of_le (Heap.lt_size e) z) (Nat.lt_irrefl _)
 have cellK:∀ x c,X.env.cells.lookup x=some c->∀ v,s.heap.IsCell c v->h'.IsCell c v:=fun x c e v ⟨o,ho,hd⟩=>by
  have nch:c∉ch:=fun z=>(hch c z).2.2.1 x c e rfl
  by_cases hc:c∈X.fs
  ·obtain⟨sl,q⟩:=slot c o (I.cne x c e) hc nch ho (I.freeC x c e)
   exact⟨_,q,hd⟩
  ·exact⟨o,keep c o (I.cne x c e) hc nch ho (I.freeC x c e),hd⟩
 refine⟨I.ok,I.os,hg,⟨fun b o e n hb hx=>?_,fun b o e n hb hx=>?_,fun b o e n hx=>?_,fun b o e hx=>?_,fun b xs e=>tups b xs (I.base.tups b xs e),fun b o xs e=>frzs b o xs (I.base.frzs b o xs e),fun b ps e=>?_⟩,?_,fun x c e=>?_,?_,fun x c e=>?_,fun p hp=>?_,hok,I.len,ht⟩
 ·exact keep b o (neL b o e) hb (neC b o e hx) (I.base.keep b o e n hb hx) (I.base.free b o e n hx)
 ·obtain⟨sl,e1⟩:=I.base.slot b o e n hb hx
  obtain⟨sl',e2⟩:=slot b _ (neL b o e) hb (neC b o e hx) e1 (I.base.free b o e n hx)
  exact⟨sl',e2⟩
 ·obtain⟨o',e1⟩:=I.base.there b o e hx
  exact free b o' (neC b o e hx) e1 (I.base.free b o e n hx)
 ·obtain⟨o',e1⟩:=I.base.there b o e hx
  exact there b o' (neC b o e hx) e1
 ·obtain⟨m1,e1⟩:=I.base.tbls b ps e
  obtain⟨m2,e2⟩:=tbls b _ e1
  exact⟨m1++m2,by rw[e2,Array.append_assoc]⟩
 ·obtain⟨m,hn,hl⟩:=I.loc
  refine⟨m,ns m hn,fun i x v e1 e2 e3=>?_⟩
  obtain⟨u,r,l⟩:=hl i x v e1 e2 e3
  refine⟨u,r,?_⟩
  rcases l with l | ⟨k,c,e,z⟩
  ·exact .inl l
  ·exact .inr ⟨k,c,e,cellK x c e _ z⟩
 ·obtain⟨v,z⟩:=I.cell x c e
  exact⟨v,cellK x c e v z⟩
 ·obtain⟨m,⟨o,_,_,ho,_⟩,_⟩:=I.loc
  exact free _ o (fun z=>(hch _ z).2.1 rfl) ho I.free
 ·obtain⟨v,o,ho,hd⟩:=I.cell x c e
  exact free c o (fun z=>(hch c z).2.2.1 x c e rfl) ho (I.freeC x c e)
 ·obtain⟨e,n,ne,nf,d⟩:=I.pin p hp
  have nch:p.1∉ch:=fun z=>(hch p.1 z).2.2.2 p hp rfl
  exact⟨keep p.1 p.2 ne nf nch e n,free p.1 p.2 nch e n,ne,nf,d⟩
theorem Inv.un {t':Nat} (I:Inv X pins σ H s) (u:Un X.fs [] H H' s.heap h') (hok:HOk X.prog X.w H' h') (ht:0 < t':=by first | exact Nat.succ_pos _ | assumption | exact Inv.tk (by assumption) | omega):Inv X pins σ H' { s with heap:=h',toks:=t' }:=by
 obtain⟨m,⟨o,es,ep,ho,r⟩,_⟩:=id I.loc
 obtain⟨sl,hL⟩:=u.any ho I.free (by simp)
 exact I.step (g':=s.gens) (d':=s.drawn) (ch:=[]) (fun _ z=>nomatch z) (fun b o _ hb _ e n=>u.keep b o e n hb (by simp)) (fun b o _ hb _ e n=>u.slot b o e n hb (by simp)) (fun b o _ e n=>u.free b o e n (by simp)) (fun b o _ e=>u.there b o e (by simp)) u.tups u.frzs u.tbls (fun m' hm=>by
  obtain⟨o',es',ep',ho',r'⟩:=hm
  rw[ho] at ho';cases ho'
  exact⟨_,es',ep',hL,r'⟩) hok I.bare ht
theorem Inv.call {g':Array GenState}{t':Nat}{d':Drawn}{ch:List Addr} (I:Inv X pins σ H s) (u:Un (frs X.stack) ch H H' s.heap h') (hok:HOk X.prog X.w H' h') (hg:AllBare g')
  (hch:∀ b∈ch,(b∈X.ex\/X.s₀.heap.objs.size <= b)/\b≠X.env.locals/\(∀ x c,X.env.cells.lookup x=some c->c≠b)/\∀ p∈X.pn++pins,p.1≠b) (ht:0 < t':=by first | exact Nat.succ_pos _ | assumption | exact Inv.tk (by assumption) | omega) :
  Inv X pins σ H' { s with heap:=h',gens:=g',drawn:=d',toks:=t' }:=by
 obtain⟨m,⟨o,es,ep,ho,r⟩,_⟩:=id I.loc
 obtain⟨sl,hL⟩:=u.any ho I.free fun z=>(hch _ z).2.1 rfl
 exact I.step (ch:=ch) hch (fun b o hL hb hc e n=>u.keep b o e n (fun z=>(List.mem_cons.mp (I.stkSub b z)).elim hL hb) hc) (fun b o _ _ hc e n=>u.any e n hc) (fun b o hc e n=>u.free b o e n hc) (fun b o hc e=>u.there b o e hc) u.tups u.frzs u.tbls (fun m' hm=>by
  obtain⟨o',es',ep',ho',r'⟩:=hm
  rw[ho] at ho';cases ho'
  exact⟨_,es',ep',hL,r'⟩) hok hg ht
theorem Inv.turned {t':Nat}{it:Addr} (I:Inv X pins σ H s) (k:∀ b o,b≠it->s.heap.get? b=some o->h'.get? b=some o) (hn:H it=none) (hL:it≠X.env.locals)
  (h1:it∈X.ex\/X.s₀.heap.objs.size <= it) (h2:∀ x c,X.env.cells.lookup x=some c->c≠it) (h3:∀ p∈X.pn++pins,p.1≠it) (ht:0 < t':=by first | exact Nat.succ_pos _ | assumption | exact Inv.tk (by assumption) | omega):Inv X pins σ H { s with heap:=h',toks:=t' }:=by
 have nit:∀ b u,H b=some u->b≠it:=fun b u e z=>by rw[z,hn] at e;cases e
 refine I.step (g':=s.gens) (d':=s.drawn) (ch:=[it]) (fun b hb=>?_) (fun b o _ _ hc e _=>k b o (fun z=>hc (by simp[z])) e) (fun b o _ _ hc e _=>⟨o.slots,k b o (fun z=>hc (by simp[z])) e⟩) (fun _ _ _ _ n=>n)
  (fun b o hc e=>⟨o,k b o (fun z=>hc (by simp[z])) e⟩) (fun _ _ e=>e) (fun _ _ _ e=>e) (fun b ps e=>⟨#[],by rw[e];simp⟩) (fun m hm=>?_) (fun b u e=>?_) I.bare ht
 ·have e:b=it:=by simpa using hb
  subst e
  exact⟨h1,hL,h2,h3⟩
 ·obtain⟨o,es,ep,ho,r⟩:=hm
  exact⟨o,es,ep,k _ o (Ne.symm hL) ho,r⟩
 ·refine (I.hok b u e).stay (fun c v hc q=>k c v ?_ q) (fun _ q=>q) fun _ _ q=>q
  rcases hc with z | z
  ·rw[z];exact nit b u e
  ·exact nit c _ z
theorem Inv.tok (I:Inv X pins σ H s) (t:Nat) (ht:0 < t:=by first | exact Nat.succ_pos _ | assumption | exact Inv.tk (by assumption) | omega):Inv X pins σ H { s with toks:=t }:=I.un (h':=s.heap) (t':=t) Un.refl I.hok ht
theorem Inv.kept {t':Nat} (I:Inv X pins σ H s) (k:∀ b u,s.heap.get? b=some u->h'.get? b=some u) (ht:0 < t':=by first | exact Nat.succ_pos _ | assumption | exact Inv.tk (by assumption) | omega):Inv X pins σ H { s with heap:=h',toks:=t' }:=I.un (Un.kept k) (I.hok.kept k) ht
theorem Inv.laid {a:Addr}{o:HO}{t':Nat} (I:Inv X pins σ H s) (k:∀ b u,s.heap.get? b=some u->h'.get? b=some u) (hp:s.heap.objs.size <= a) (new:jK X.prog X.w (upd H a o) h' a o) (ht:0 < t':=by first | exact Nat.succ_pos _ | assumption | exact Inv.tk (by assumption) | omega) :
  Inv X pins σ (upd H a o) { s with heap:=h',toks:=t' }:=I.un (Un.laid k hp (I.hok.fresh hp)) (I.hok.laid k hp new) ht
theorem Inv.write {x e:Addr}{o:HO}{t':Nat} (I:Inv X pins σ H s) (mu:Mut (H x)) (he:e=x\/H e=some (.own x)) (k:∀ b u,b≠e->s.heap.get? b=some u->h'.get? b=some u) (heo:∃ u,h'.get? e=some u)
  (new:jK X.prog X.w (upd H x o) h' x o) (ht:0 < t':=by first | exact Nat.succ_pos _ | assumption | exact Inv.tk (by assumption) | omega):Inv X pins σ (upd H x o) { s with heap:=h',toks:=t' }:=I.un (Un.write mu he k heo) (I.hok.write mu he k heo new) ht
theorem Inv.weak {σ':List (Option V)} (I:Inv X pins σ H s) (hl:σ'.length=σ.length) (w:∀ (i:Nat) v,σ'[i]? = some (some v)->σ[i]? = some (some v)):Inv X pins σ' H s :=
 ⟨I.ok,I.os,I.bare,I.base,let ⟨m,hn,hl'⟩:=I.loc;⟨m,hn,fun i x v e1 e2 e3=>hl' i x v e1 (w i v e2) e3⟩,I.cell,I.free,I.freeC,I.pin,I.hok,hl.trans I.len,I.tk⟩
theorem Inv.pins_of {pins':List (Addr×Obj)} (I:Inv X pins σ H s) (h:∀ p∈pins',s.heap.get? p.1=some p.2/\H p.1=none/\p.1≠X.env.locals/\p.1∉X.fs/\∀ v,p.2.data≠.cell v):Inv X pins' σ H s :=
 ⟨I.ok,I.os,I.bare,I.base,I.loc,I.cell,I.free,I.freeC,fun p hp=>(List.mem_append.mp hp).elim (fun z=>I.pin p (List.mem_append_left _ z)) (h p),I.hok,I.len,I.tk⟩
theorem zC4 {N:List Str} (hN:N.Nodup) {i j:Nat}{x:Str} (a:N[i]? = some x) (b:N[j]? = some x):i=j:=by
 obtain⟨h1,e1⟩:=List.getElem?_eq_some_iff.mp a
 obtain⟨h2,e2⟩:=List.getElem?_eq_some_iff.mp b
 exact (List.getElem_inj hN).mp (e1.trans e2.symm)
theorem zFw {M:Model}{A:Around}{E:Value->Shared->Prop}{i:Nat}{x:Str}{v:V}{u:Value}{Q:Unit->Shared->Prop} (I:Inv X pins σ H s) (hN:X.N.Nodup) (hi:X.N[i]? = some x) (hx:Loc X.env.scope x) (r:zZ v u)
  (h:∀ s',Inv X pins (σ.set i (some v)) H s'->(∃ a,Heap.SameBut a s.heap s'.heap/\(a=X.env.locals\/X.env.cells.lookup x=some a))->Q () s') (hf:X.fn x=true\/X.env.scope.names.lookup x=some .local:=by first | exact .inl rfl | exact .inr rfl | assumption):wpAny M A (storeName X.env x u) Q E s:=by
 obtain⟨m,hn,hl⟩:=id I.loc
 have hcls:(X.env.scope.kind == .class || (X.env.scope.kind == .module && X.env.locals != X.env.globals))=false:=by rw[I.ok.kind];rfl
 have hiσ:i < σ.length:=by rw[I.len];exact (List.getElem?_eq_some_iff.mp hi).1
 have cne:=I.cne
 have tracked:∀ {a:Addr}{h':Heap},(∃ o,s.heap.get? a=some o/\H a=none)->Heap.SameBut a s.heap h'->HOk X.prog X.w H h':=fun {a h'} ha hs b ob e=>by
  obtain⟨_,_,hfree⟩:=ha
  refine (I.hok b ob e).stay (fun c w' hc q=>(hs.2 c ?_).trans q) (fun _ q=>q) fun _ _ q=>q
  rintro rfl
  rcases hc with rfl | hc
  ·rw[hfree] at e;cases e
  ·rw[hfree] at hc;cases hc
 rcases hx with hk | hk
 ·refine wpAny_storeName_local hk hn (fun h' hn' hs=>?_) hcls
  obtain⟨oL,_,_,hoL,_⟩:=id hn
  refine h _ ⟨I.ok,I.os,I.bare,⟨fun b o e n hb hx=>?_,fun b o e n hb hx=>?_,I.base.free,fun b o e hx=>?_,I.base.tups,I.base.frzs,I.base.tbls⟩,⟨_,hn',fun j y v' e1 e2 e3=>?_⟩,fun y c e=>?_,I.free,I.freeC,fun p hp=>?_,tracked ⟨oL,hoL,I.free⟩ hs,by simpa using I.len,Nat.succ_pos _⟩ ⟨_,hs,.inl rfl⟩
  ·exact (hs.2 b (Nat.ne_of_lt (Nat.lt_of_lt_of_le (Heap.lt_size e) I.ok.above))).trans (I.base.keep b o e n hb hx)
  ·obtain⟨sl,e1⟩:=I.base.slot b o e n hb hx
   exact⟨sl,(hs.2 b (Nat.ne_of_lt (Nat.lt_of_lt_of_le (Heap.lt_size e) I.ok.above))).trans e1⟩
  ·obtain⟨o',e1⟩:=I.base.there b o e hx
   exact⟨o',(hs.2 b (Nat.ne_of_lt (Nat.lt_of_lt_of_le (Heap.lt_size e) I.ok.above))).trans e1⟩
  ·by_cases hj:j=i
   ·subst hj
    rw[hi] at e1;cases e1
    rw[List.getElem?_set_self hiσ] at e2
    cases e2
    exact⟨u,r,.inl ⟨hk,by simp⟩⟩
   ·rw[List.getElem?_set_ne (Ne.symm hj)] at e2
    obtain⟨u',r',q⟩:=hl j y v' e1 e2 e3
    refine⟨u',r',?_⟩
    rcases q with ⟨k,e⟩ | ⟨k,c,e,z⟩
    ·refine .inl ⟨k,?_⟩
     have:y≠x:=fun e=>hj (zC4 hN e1 (e ▸ hi))
     simp[this,e]
    ·exact .inr ⟨k,c,e,z.sameBut hs (cne y c e)⟩
  ·obtain⟨w',z⟩:=I.cell y c e
   exact⟨w',z.sameBut hs (cne y c e)⟩
  ·obtain⟨e,n,ne,nf,d⟩:=I.pin p hp
   exact⟨(hs.2 p.1 ne).trans e,n,ne,nf,d⟩
 ·have hfn:X.fn x=true:=by
   rcases hf with z | z
   ·exact z
   ·rw[z] at hk;cases hk
  obtain⟨c,hc⟩:=I.ok.has x (.inl hk)
  obtain⟨w',z⟩:=I.cell x c hc
  refine wpAny_storeName_cell I.ok.kind hk hc z (fun h' hc' hs=>?_)
  obtain⟨oc,hoc,hocd⟩:=id z
  refine h { s with heap:=h' } ⟨I.ok,I.os,I.bare,⟨fun b o e n hb hx=>?_,fun b o e n hb hx=>?_,I.base.free,fun b o e hx=>?_,I.base.tups,I.base.frzs,I.base.tbls⟩,⟨m,hn.sameBut hs (Ne.symm (cne x c hc)),fun j y v' e1 e2 e3=>?_⟩,fun y c' e=>?_,I.free,I.freeC,fun p hp=>?_,tracked ⟨oc,hoc,I.freeC x c hc⟩ hs,by simpa using I.len,I.tk⟩ ⟨c,hs,.inr hc⟩
  ·exact (hs.2 b (Nat.ne_of_lt (Nat.lt_of_lt_of_le (Heap.lt_size e) (I.ok.cab x c hfn hc)))).trans (I.base.keep b o e n hb hx)
  ·obtain⟨sl,e1⟩:=I.base.slot b o e n hb hx
   exact⟨sl,(hs.2 b (Nat.ne_of_lt (Nat.lt_of_lt_of_le (Heap.lt_size e) (I.ok.cab x c hfn hc)))).trans e1⟩
  ·obtain⟨o',e1⟩:=I.base.there b o e hx
   exact⟨o',(hs.2 b (Nat.ne_of_lt (Nat.lt_of_lt_of_le (Heap.lt_size e) (I.ok.cab x c hfn hc)))).trans e1⟩
  ·by_cases hj:j=i
   ·subst hj
    rw[hi] at e1;cases e1
    rw[List.getElem?_set_self hiσ] at e2
    cases e2
    exact⟨u,r,.inr ⟨.inl hk,c,hc,hc'⟩⟩
   ·rw[List.getElem?_set_ne (Ne.symm hj)] at e2
    obtain⟨u',r',q⟩:=hl j y v' e1 e2 e3
    refine⟨u',r',?_⟩
    rcases q with q | ⟨k,c',e,z'⟩
    ·exact .inl q
    ·refine .inr ⟨k,c',e,z'.sameBut hs ?_⟩
     rintro rfl
     exact hj (zC4 hN e1 (I.ok.inj _ _ _ e hc ▸ hi))
  ·by_cases hcc:c'=c
   ·subst hcc;exact⟨_,hc'⟩
   ·obtain⟨w2,z2⟩:=I.cell y c' e
    exact⟨w2,z2.sameBut hs hcc⟩
  ·obtain⟨e,n,ne,nf,d⟩:=I.pin p hp
   refine⟨(hs.2 p.1 ?_).trans e,n,ne,nf,d⟩
   intro q
   rw[q,hoc] at e
   have q':oc=p.2:=Option.some.inj e
   exact d w' (by rw[<- q'];exact hocd)
theorem zDm {M:Model}{A:Around}{E:Value->Shared->Prop}{i:Nat}{x:Str}{v:V}{u:Value}{Q:Unit->Shared->Prop} (I:Inv X pins σ H s) (hN:X.N.Nodup) (hi:X.N[i]? = some x) (hx:Loc X.env.scope x) (r:zZ v u)
  (h:∀ s',Inv X pins (σ.set i (some v)) H s'->Q () s') (hf:X.fn x=true\/X.env.scope.names.lookup x=some .local:=by first | exact .inl rfl | exact .inr rfl | assumption):wpAny M A (storeName X.env x u) Q E s :=
 zFw I hN hi hx r (fun s' I' _=>h s' I') hf
theorem Inv.call' {s':Shared}{ch:List Addr} (I:Inv X pins σ H s) (ho:s'.os=s.os) (u:Un (frs X.stack) ch H H' s.heap s'.heap) (hok:HOk X.prog X.w H' s'.heap) (hg:AllBare s'.gens)
  (hch:∀ b∈ch,(b∈X.ex\/X.s₀.heap.objs.size <= b)/\b≠X.env.locals/\(∀ x c,X.env.cells.lookup x=some c->c≠b)/\∀ p∈X.pn++pins,p.1≠b) (ht:0 < s'.toks):Inv X pins σ H' s':=by
 obtain⟨h',g',d',t',o'⟩:=s'
 have e:o'=s.os:=ho
 subst e
 exact I.call (g':=g') (t':=t') (d':=d') u hok hg hch ht
end
noncomputable abbrev XK:=Value->Option Addr->Hp->Prop
noncomputable abbrev St:=List (Option V)
noncomputable abbrev VK:=V->Hp->Prop
noncomputable abbrev TE:=St->Hp->VK->Prop
noncomputable abbrev TT:=St->Hp->(Bool->Hp->Prop)->Prop
noncomputable abbrev TA:=St->Hp->(List V->Hp->Prop)->Prop
structure Zo where
 nx:St->Hp->Prop
 rt:VK
 bk:St->Hp->Prop:=fun _ _=>False
 ct:St->Hp->Prop:=fun _ _=>False
noncomputable abbrev TS:=Zo->St->Hp->Prop
noncomputable def EP (X:Cx) (pins:List (Addr×Obj)) (σ:St) (Q:VK) (u:Value) (s':Shared):Prop:=∃ v H',Inv X pins σ H' s'/\zZ v u/\Q v H'
noncomputable def TP (X:Cx) (pins:List (Addr×Obj)) (σ:St) (Q:Bool->Hp->Prop) (b:Bool) (s':Shared):Prop:=∃ H',Inv X pins σ H' s'/\Q b H'
noncomputable def AP (X:Cx) (pins:List (Addr×Obj)) (σ:St) (Q:List V->Hp->Prop) (us:List Value) (s':Shared):Prop:=∃ vs H',Inv X pins σ H' s'/\zY vs us/\Q vs H'
noncomputable def SP (X:Cx) (pins:List (Addr×Obj)) (D:Zo) (f:Flow) (s':Shared):Prop :=
 match f with
 | .next=>∃ σ' H',Inv X pins σ' H' s'/\D.nx σ' H'
 | .brk=>∃ σ' H',Inv X pins σ' H' s'/\D.bk σ' H'
 | .cont=>∃ σ' H',Inv X pins σ' H' s'/\D.ct σ' H'
 | .ret u=>∃ v σ' H',Inv X pins σ' H' s'/\zZ v u/\D.rt v H'
noncomputable def PE (X:Cx) (e:Expr) (t:TE):Prop :=
 ∀ (pins:List (Addr×Obj)) (s:Shared) (σ:St) (H:Hp) (Q:VK),Inv X pins σ H s->t σ H Q->wpAny (model X.prog X.w) X.A (eval e X.env) (EP X pins σ Q) X.xe s
noncomputable def PT (X:Cx) (e:Expr) (t:TT):Prop :=
 ∀ (pins:List (Addr×Obj)) (s:Shared) (σ:St) (H:Hp) (Q:Bool->Hp->Prop),Inv X pins σ H s->t σ H Q->wpAny (model X.prog X.w) X.A (isTrue e X.env (eval e X.env)) (TP X pins σ Q) X.xe s
noncomputable def PW (X:Cx) (e:Expr) (t:TT):Prop :=
 ∀ (whole:Sem Value) (pins:List (Addr×Obj)) (s:Shared) (σ:St) (H:Hp) (Q:Bool->Hp->Prop),Inv X pins σ H s->t σ H Q->wpAny (model X.prog X.w) X.A (isTrue e X.env whole) (TP X pins σ Q) X.xe s
theorem PW.pt {X:Cx}{e:Expr}{t:TT} (h:PW X e t):PT X e t:=h _
noncomputable def PA (X:Cx) (es:List Expr) (t:TA):Prop :=
 ∀ (pos:Pos) (pins:List (Addr×Obj)) (s:Shared) (σ:St) (H:Hp) (Q:List V->Hp->Prop),Inv X pins σ H s->t σ H Q->wpAny (model X.prog X.w) X.A (spliced (backTo pos (starEach es X.env))) (AP X pins σ Q) X.xe s
noncomputable def PS (X:Cx) (st:Stmt) (t:TS):Prop :=
 ∀ (pins:List (Addr×Obj)) (s:Shared) (σ:St) (H:Hp) (D:Zo),Inv X pins σ H s->t D σ H->wpAny (model X.prog X.w) X.A (exec st X.env) (SP X pins D) X.xe s
noncomputable def PSs (X:Cx) (st:List Stmt) (t:TS):Prop :=
 ∀ (pins:List (Addr×Obj)) (s:Shared) (σ:St) (H:Hp) (D:Zo),Inv X pins σ H s->t D σ H->wpAny (model X.prog X.w) X.A (execs st X.env) (SP X pins D) X.xe s
theorem thn {α:Type}{t:Sem α}{Q Q':α->Shared->Prop}{M:Model}{A:Around}{E:Value->Shared->Prop}{s:Shared} (h:wpAny M A t Q E s) (hQ:∀ a s,Q a s->Q' a s):wpAny M A t Q' E s:=wpAny_mono h hQ fun _ _ x=>x
end L2
namespace L2
open PySem PySem.Spec PyProof.Rows
section
variable {X:Cx}
noncomputable def zNA (i:Nat):TE:=fun σ H Q=>∃ v,σ[i]? = some (some v)/\Q v H
noncomputable def tC (v:V):TE:=fun _ H Q=>Q v H
theorem zKN {i:Nat}{x:Str}{pos:Pos} (hN:X.N[i]? = some x) (hv:Vis X.env.scope x) (hd:(x == ("__debug__" : Str))=false:=by decide) (hcd:(x == ("__classdict__" : Str))=false:=by decide):PE X (.Name x pos) (zNA i):=by
 intro pins s σ H Q I h
 obtain⟨v,e,h⟩:=h
 obtain⟨m,hn,hl⟩:=I.loc
 obtain⟨u,r,l⟩:=hl i x v hN e hv
 have fin:EP X pins σ Q u s:=⟨v,H,I,r,h⟩
 rcases l with ⟨hk,hm⟩ | ⟨hk,c,hc,hcell⟩
 ·exact wpAny_Name (wpAny_loadName_local I.ok.kind hk hn hm fin) hd
 ·rcases hk with hk | hk
  ·exact wpAny_Name (wpAny_loadName_cell I.ok.kind hk hc hcell fin) hd
  ·exact wpAny_Name (wpAny_loadName_free I.ok.kind hk hc hcell fin hcd) hd
theorem zLT {i j pos}:PE X (.Constant (.int i) j pos) (tC (.int i)):=fun _ _ _ H _ I h=>wpAny_Constant_int ⟨.int i,H,I.tok _,⟨_,rfl⟩,h⟩
theorem zMM {b j pos}:PE X (.Constant (.bool b) j pos) (tC (.bl b)):=fun _ _ _ H _ I h=>Constant_bool ⟨.bl b,H,I,rfl,h⟩
theorem zLI {j pos}:PE X (.Constant .none j pos) (tC .non):=fun _ _ _ H _ I h=>Constant_none ⟨.non,H,I,rfl,h⟩
theorem zGj {x j pos}:PE X (.Constant (.str x) j pos) (tC (.str x)):=fun _ _ _ H _ I h=>Calls.Constant_str ⟨.str x,H,I.tok _,⟨_,rfl⟩,h⟩
noncomputable def Gl (X:Cx) (x:Str):Prop:=X.env.kindOf x=some .globalImplicit
theorem zBm {E:Value->Shared->Prop}{pins:List (Addr×Obj)}{s:Shared}{σ:St}{H:Hp}{x:Str}{u:Value}{pos:Pos}{Q:Value->Shared->Prop} (I:Inv X pins σ H s) (hg:Gl X x) (hm:X.mg x=some u) (h:Q u s)
  (hd:(x == ("__debug__" : Str))=false:=by decide):wpAny (model X.prog X.w) X.A (eval (.Name x pos) X.env) Q E s :=
 Calls.Name_function_global I.ok.kind hg (Calls.loadGlobal_global (by rw[I.ok.glob];exact I.mod.glob.keeps I.bk) hm h) hd
theorem Jm {E:Value->Shared->Prop}{pins:List (Addr×Obj)}{s:Shared}{σ:St}{H:Hp}{x:Str}{u:Value}{pos:Pos}{Q:Value->Shared->Prop} (I:Inv X pins σ H s) (hg:Gl X x) (hm:X.mg x=none) (hv:bootBuiltins x=some u) (h:Q u s)
  (hn:x ≠ "__name__" := by decide) (hd:(x == ("__debug__" : Str))=false:=by decide):wpAny (model X.prog X.w) X.A (eval (.Name x pos) X.env) Q E s:=by
 obtain⟨mb,h1,h2⟩:=I.mod.blt
 exact Calls.Name_function_global I.ok.kind hg (Calls.loadGlobal_builtin (by rw[I.ok.glob];exact I.mod.glob.keeps I.bk) hm (by rw[I.ok.blt];exact h1.keeps I.bk) ((h2 x hn).trans hv) h) hd
theorem zI5 {x:Str}{v:V}{u:Value}{pos:Pos} (hg:Gl X x) (hm:X.mg x=some u) (r:zZ v u) (hd:(x == ("__debug__" : Str))=false:=by decide):PE X (.Name x pos) (tC v) :=
 fun _ _ _ H _ I h=>zBm I hg hm ⟨v,H,I,r,h⟩ hd
theorem zJI {x:Str}{v:V}{u:Value}{pos:Pos} (hg:Gl X x) (hm:X.mg x=none) (hv:bootBuiltins x=some u) (r:zZ v u) (hn:x ≠ "__name__" := by decide) (hd:(x == ("__debug__" : Str))=false:=by decide):PE X (.Name x pos) (tC v) :=
 fun _ _ _ H _ I h=>Jm I hg hm hv ⟨v,H,I,r,h⟩ hn hd
variable {a b:Expr}{ta tb:TE}{pos:Pos}
noncomputable def PC (X:Cx) (op:CmpOp) (a b:Expr) (t:TE):Prop :=
 ∀ (pins:List (Addr×Obj)) (s:Shared) (σ:St) (H:Hp) (Q:VK),Inv X pins σ H s->t σ H Q ->
  wpAny (model X.prog X.w) X.A (eval a X.env) (fun v s₁=>wpAny (model X.prog X.w) X.A (eval b X.env) (fun u s₂=>wpAny (model X.prog X.w) X.A (compareOp op v u) (EP X pins σ Q) X.xe s₂) X.xe s₁) X.xe s
theorem zD5 (b:Expr) {op:CmpOp} (h:op≠.In) (h2:op≠.NotIn):behindInMarks op b=false:=by
 have e1:(op == CmpOp.In)=false:=by cases op<;>first | rfl | exact absurd rfl h
 have e2:(op == CmpOp.NotIn)=false:=by cases op<;>first | rfl | exact absurd rfl h2
 cases b<;>simp[behindInMarks,e1,e2]
noncomputable def zDi (ta:TE):TE:=fun σ H Q=>ta σ H fun x H1=>Q (.bl (decide (x=.non))) H1
theorem zZ.none_iff {x:V}{v:Value} (r:zZ x v):(v == Value.none)=decide (x=.non):=by
 cases x with
 | non=>cases r;rfl
 | bl _=>cases r;rfl
 | int _=>obtain⟨t,rfl⟩:=r;rfl
 | str _=>obtain⟨t,rfl⟩:=r;rfl
 | byt _=>obtain⟨t,rfl⟩:=r;rfl
 | flt _=>obtain⟨t,rfl⟩:=r;rfl
 | ref _=>cases r;rfl
 | ty _=>cases r;rfl
theorem zGR {j pos'} (ha:PE X a ta):PC X .Is a (.Constant .none j pos') (zDi ta):=by
 intro pins s σ H Q I h
 refine thn (ha pins s σ H _ I h) fun v s1 ⟨x,H1,I1,r1,q1⟩=>?_
 exact Constant_none (is_none_gen ⟨.bl _,H1,I1,by rw[r1.none_iff];rfl,q1⟩)
noncomputable def tB (t:TE):TT:=fun σ H Q=>t σ H fun x H1=>∃ c,x=.bl c/\Q c H1
theorem zKi {op:CmpOp}{t:TE} (h:PC X op a b t) (h1:behindInMarks op b=false:=by first | exact zD5 _ (by decide) (by decide) | rfl):PE X (.Compare a [op] [b] pos) t:=fun pins s σ H Q I hw=>wpAny_Compare1 (h pins s σ H Q I hw) h1
theorem zKA {op:CmpOp}{t:TE} (h:PC X op a b t) (h1:behindInMarks op b=false:=by first | exact zD5 _ (by decide) (by decide) | rfl):PT X (.Compare a [op] [b] pos) (tB t):=by
 intro pins s σ H Q I hw
 refine wpAny_isTrue_Compare1 (thn (h pins s σ H _ I hw) fun v s1 h1=>thn h1 fun u s2 h2=>thn h2 fun c s3 ⟨x,H1,I1,r1,q1⟩=>?_) h1
 obtain⟨d,rfl,q⟩:=q1
 cases r1
 exact wpAny_truthy_bool ⟨H1,I1,q⟩
variable {tA tB':TT}{j1:List Expr}
noncomputable def zBd (t u:TT):TT:=fun σ H Q=>t σ H fun c H1=>if c=true then u σ H1 Q else Q false H1
noncomputable def tOr (t u:TT):TT:=fun σ H Q=>t σ H fun c H1=>if c=true then Q true H1 else u σ H1 Q
noncomputable def QP (t:TT):TT:=fun σ H Q=>t σ H fun c H1=>Q (!c) H1
theorem zIq (ha:PT X a tA):PW X (.BoolOp .And [a] pos) tA:=by
 intro wh pins s σ H Q I h
 refine isTrue_and (thn (ha pins s σ H Q I h) fun c s1 e=>?_)
 cases c with
 | true=>exact isTrue_and_nil e
 | false=>exact e
theorem zLh (ha:PT X a tA):PW X (.BoolOp .Or [a] pos) tA:=by
 intro wh pins s σ H Q I h
 refine isTrue_or (thn (ha pins s σ H Q I h) fun c s1 e=>?_)
 cases c with
 | false=>exact isTrue_or_nil e
 | true=>exact e
theorem zKc (ha:PT X a tA) (hb:PW X (.BoolOp .And (b::j1) pos) tB'):PW X (.BoolOp .And (a::b::j1) pos) (zBd tA tB'):=by
 intro wh pins s σ H Q I h
 refine isTrue_and (thn (ha pins s σ H _ I h) fun c s1 ⟨H1,I1,q1⟩=>?_)
 cases c with
 | true=>exact hb wh pins s1 σ H1 Q I1 q1
 | false=>exact⟨H1,I1,q1⟩
theorem zL3 (ha:PT X a tA) (hb:PW X (.BoolOp .Or (b::j1) pos) tB'):PW X (.BoolOp .Or (a::b::j1) pos) (tOr tA tB'):=by
 intro wh pins s σ H Q I h
 refine isTrue_or (thn (ha pins s σ H _ I h) fun c s1 ⟨H1,I1,q1⟩=>?_)
 cases c with
 | true=>exact⟨H1,I1,q1⟩
 | false=>exact hb wh pins s1 σ H1 Q I1 q1
theorem zKR (ha:PT X a tA):PT X (.UnaryOp .Not a pos) (QP tA):=by
 intro pins s σ H Q I h
 exact isTrue_not (ha pins s σ H (fun c H1=>Q (!c) H1) I h)
end
end L2
namespace L2
open PySem PySem.Spec PyProof.Rows
noncomputable def SqL (K:PySem.W.Frag) (H:Hp) (a:Addr) (xs:List V):Prop :=
 Rd H a (.lst xs) \/
  ∃ (o:Obj) (its:Array Value) (n:Nat),K.lookup a=some o/\o.cls=.type "list" /\ o.dict=none/\o.data=.seq its n/\its.size <= sizeLine/\zY xs its.toList
noncomputable def SqT (K:PySem.W.Frag) (H:Hp) (a:Addr) (xs:List V):Prop :=
 Rd H a (.tup xs) \/
  ∃ (o:Obj) (its:Array Value) (n:Nat),K.lookup a=some o/\o.cls=.type "tuple" /\ o.data=.seq its n/\its.size <= sizeLine/\zY xs its.toList
noncomputable def zM8:Value->Option V
 | .none=>some .non
 | .bool b=>some (.bl b)
 | .int i _=>some (.int i)
 | .str x _=>some (.str x)
 | .bytes b _=>some (.byt b)
 | .float b _=>some (.flt b)
 | .ref a=>some (.ref a)
 | .type n=>some (.ty n)
 | _=>none
theorem zZ.abs {x:V}{u:Value} (r:zZ x u):zM8 u=some x:=by
 cases x with
 | non=>cases r;rfl
 | bl _=>cases r;rfl
 | int _=>obtain⟨t,rfl⟩:=r;rfl
 | str _=>obtain⟨t,rfl⟩:=r;rfl
 | byt _=>obtain⟨t,rfl⟩:=r;rfl
 | flt _=>obtain⟨t,rfl⟩:=r;rfl
 | ref _=>cases r;rfl
 | ty _=>cases r;rfl
theorem zZ.inj {x y:V}{u:Value} (r:zZ x u) (q:zZ y u):x=y:=Option.some.inj (r.abs.symm.trans q.abs)
theorem zY.inj:∀ {xs ys:List V}{us:List Value},zY xs us->zY ys us->xs=ys
 | _,_,_,.nil,.nil=>rfl
 | _,_,_,.cons r t,.cons r' t'=>by rw[r.inj r',zY.inj t t']
section
variable {X:Cx}{pins:List (Addr×Obj)}{σ:St}{H:Hp}{s:Shared}{a:Addr}{xs ys:List V}
theorem SqL.of {K:PySem.W.Frag} (h:H a=some (.lst xs)):SqL K H a xs:=.inl (.inl h)
theorem SqT.of {K:PySem.W.Frag} (h:H a=some (.tup xs)):SqT K H a xs:=.inl (.inl h)
theorem Inv.list (I:Inv X pins σ H s) (h:SqL X.K H a xs):∃ its:List Value,zY xs its/\PlainL s.heap a its.toArray/\xs.length <= sizeLine:=by
 rcases h with h | ⟨o,its,n,hk,hc,hd,hs,hz,r⟩
 ·obtain⟨z,its,n,r,e⟩:=h.ok I.hok
  exact⟨its,r,⟨_,n,e,rfl,rfl,rfl⟩,z⟩
 ·refine⟨its.toList,r,⟨o,n,I.kIn a o hk,hc,hd,by simpa using hs⟩,?_⟩
  have e:=r.length
  simp only[Array.length_toList] at e
  omega
theorem Inv.tuple (I:Inv X pins σ H s) (h:SqT X.K H a xs):∃ its:List Value,zY xs its/\IsTup s.heap a its.toArray/\xs.length <= sizeLine:=by
 rcases h with h | ⟨o,its,n,hk,hc,hs,hz,r⟩
 ·obtain⟨z,its,r,p⟩:=h.ok I.hok
  exact⟨its,r,p,z⟩
 ·refine⟨its.toList,r,⟨o,I.kIn a o hk,hc,n,by simpa using hs⟩,?_⟩
  have e:=r.length
  simp only[Array.length_toList] at e
  omega
theorem Inv.list_inj (I:Inv X pins σ H s) (h:SqL X.K H a xs) (h':SqL X.K H a ys):xs=ys:=by
 obtain⟨its,r,⟨o,n,e,_,_,d⟩,_⟩:=I.list h
 obtain⟨its',r',⟨o',n',e',_,_,d'⟩,_⟩:=I.list h'
 rw[e] at e';cases e'
 rw[d] at d'
 injection d' with d1 _
 have:its=its':=by simpa using congrArg Array.toList d1
 subst this
 exact r.inj r'
theorem Inv.tuple_inj (I:Inv X pins σ H s) (h:SqT X.K H a xs) (h':SqT X.K H a ys):xs=ys:=by
 obtain⟨its,r,⟨o,e,_,n,d⟩,_⟩:=I.tuple h
 obtain⟨its',r',⟨o',e',_,n',d'⟩,_⟩:=I.tuple h'
 rw[e] at e';cases e'
 rw[d] at d'
 injection d' with d1 _
 have:its=its':=by simpa using congrArg Array.toList d1
 subst this
 exact r.inj r'
end
noncomputable abbrev Cx.wish (X:Cx) (E:Value->Shared->Prop):Cx:={ X with xe:=E }
noncomputable abbrev Cx.nox (X:Cx):Cx:=X.wish fun _ _=>False
theorem Cx.Ok.wish {X:Cx} (ok:X.Ok) (E:Value->Shared->Prop):(X.wish E).Ok :=
 ⟨ok.mod,ok.kind,ok.glob,ok.blt,ok.above,ok.inj,ok.has,ok.cab,ok.hd,ok.frames,ok.stk,ok.exf,ok.bs,ok.bsz,ok.noex,ok.exfs,ok.funs,ok.frf⟩
theorem Cx.Ok.unwish {X:Cx}{E:Value->Shared->Prop} (ok:(X.wish E).Ok):X.Ok :=
 ⟨ok.mod,ok.kind,ok.glob,ok.blt,ok.above,ok.inj,ok.has,ok.cab,ok.hd,ok.frames,ok.stk,ok.exf,ok.bs,ok.bsz,ok.noex,ok.exfs,ok.funs,ok.frf⟩
section
variable {X:Cx}{pins:List (Addr×Obj)}{σ:St}{H:Hp}{s:Shared}{E:Value->Shared->Prop}
theorem Inv.wish (I:Inv X pins σ H s) (E:Value->Shared->Prop):Inv (X.wish E) pins σ H s:=⟨I.ok.wish E,I.os,I.bare,I.base,I.loc,I.cell,I.free,I.freeC,I.pin,I.hok,I.len,I.tk⟩
theorem Inv.unwish (I:Inv (X.wish E) pins σ H s):Inv X pins σ H s:=⟨I.ok.unwish,I.os,I.bare,I.base,I.loc,I.cell,I.free,I.freeC,I.pin,I.hok,I.len,I.tk⟩
theorem SP.unwish {D:Zo}{f:Flow}{s':Shared} (h:SP (X.wish E) pins D f s'):SP X pins D f s':=by
 cases f with
 | next=>obtain⟨σ',H',I,q⟩:=h;exact⟨σ',H',I.unwish,q⟩
 | brk=>obtain⟨σ',H',I,q⟩:=h;exact⟨σ',H',I.unwish,q⟩
 | cont=>obtain⟨σ',H',I,q⟩:=h;exact⟨σ',H',I.unwish,q⟩
 | ret u=>obtain⟨v,σ',H',I,r,q⟩:=h;exact⟨v,σ',H',I.unwish,r,q⟩
theorem PSs.nox {st:List Stmt}{t:TS} (h:PSs X.nox st t):PSs X st t:=fun pins s σ H D I hw =>
 wpAny_mono (h pins s σ H D (I.wish _) hw) (fun _ _ q=>q.unwish) fun _ _ z=>False.elim z
end
section
variable {X:Cx}{st:Stmt}{j1:List Stmt}{t u:TS}{e:Expr}{te:TE}{pos:Pos}
noncomputable def zMI:TS:=fun D σ H=>D.nx σ H
noncomputable def zMg (t u:TS):TS:=fun D σ H=>t { D with nx:=u D } σ H
theorem zJA:PSs X [] zMI:=fun _ _ σ H _ I h=>wpAny_execs_nil ⟨σ,H,I,h⟩
theorem zG6 (h1:PS X st t) (h2:PSs X j1 u):PSs X (st::j1) (zMg t u):=by
 intro pins s σ H D I h
 refine wpAny_execs_cons (thn (h1 pins s σ H { D with nx:=u D } I h) fun f s1 q=>?_)
 cases f with
 | next =>
  obtain⟨σ',H',I',q⟩:=q
  exact h2 pins s1 σ' H' D I' q
 | ret v=>exact q
 | brk=>exact q
 | cont=>exact q
theorem zI8 (h1:PS X st t):PSs X [st] t:=by
 intro pins s σ H D I h
 refine wpAny_execs_cons (thn (h1 pins s σ H D I h) fun f s1 q=>?_)
 cases f with
 | next=>exact wpAny_execs_nil q
 | ret v=>exact q
 | brk=>exact q
 | cont=>exact q
theorem Inv.quiet {pins:List (Addr×Obj)}{σ:St}{H:Hp}{s:Shared} (I:Inv X pins σ H s):interactive X.env=false:=by simp[interactive,I.ok.kind]
noncomputable def zLl (te:TE):TS:=fun D σ H=>te σ H fun _ H1=>D.nx σ H1
theorem zJb (he:PE X e te) (hs:swapsWith e none pos.line X.env=pure false:=by rfl):PS X (.Expr e pos) (zLl te):=by
 intro pins s σ H D I h
 exact wpAny_Expr_any (thn (he pins s σ H _ I h) fun v s1 ⟨x,H1,I1,r1,q1⟩=>⟨σ,H1,I1,q1⟩) I.quiet hs
noncomputable def zM5 (te:TE):TS:=fun D σ H=>te σ H D.rt
theorem zLK (he:PE X e te):PS X (.Return (some e) pos) (zM5 te):=by
 intro pins s σ H D I h
 exact wpAny_Return_some (thn (he pins s σ H _ I h) fun v s1 ⟨x,H1,I1,r1,q1⟩=>⟨x,σ,H1,I1,r1,q1⟩)
noncomputable def zMe (c:TT) (t u:TS):TS:=fun D σ H=>c σ H fun b H1=>if b=true then t D σ H1 else u D σ H1
theorem zL4 {c:Expr}{a b:List Stmt}{tc:TT} (hc:PT X c tc) (ha:PSs X a t) (hb:PSs X b u):PS X (.If c a b pos) (zMe tc t u):=by
 intro pins s σ H D I h
 refine wpAny_If (thn (hc pins s σ H _ I h) fun d s1 ⟨H1,I1,q1⟩=>?_)
 cases d with
 | true=>exact ha pins s1 σ H1 D I1 q1
 | false=>exact hb pins s1 σ H1 D I1 q1
noncomputable def zKa:TS:=fun _ _ _=>False
theorem zH8:PS X st zKa:=fun _ _ _ _ _ _ h=>h.elim
end
noncomputable abbrev TG:=V->St->Hp->(St->Hp->Prop)->Prop
noncomputable abbrev TGs:=List V->St->Hp->(St->Hp->Prop)->Prop
noncomputable def PG (X:Cx) (target:Expr) (t:TG):Prop :=
 ∀ (pins:List (Addr×Obj)) (s:Shared) (σ:St) (H:Hp) (v:V) (u:Value) (Q:St->Hp->Prop),Inv X pins σ H s->zZ v u->t v σ H Q ->
  wpAny (model X.prog X.w) X.A (assign target X.env u) (fun _ s'=>∃ σ' H',Inv X pins σ' H' s'/\Q σ' H') X.xe s
noncomputable def PGs (X:Cx) (ts:List Expr) (t:TGs):Prop :=
 ∀ (pins:List (Addr×Obj)) (s:Shared) (σ:St) (H:Hp) (vs:List V) (us:List Value) (Q:St->Hp->Prop),Inv X pins σ H s->zY vs us->t vs σ H Q ->
  wpAny (model X.prog X.w) X.A (assignInOrder ((assignEach ts X.env).map (·.2)) us) (fun _ s'=>∃ σ' H',Inv X pins σ' H' s'/\Q σ' H') X.xe s
noncomputable abbrev zHR:=V->V->V->Hp->(Hp->Prop)->Prop
noncomputable def zKS (X:Cx) (t:zHR):Prop :=
 ∀ (pins:List (Addr×Obj)) (s:Shared) (σ:St) (H:Hp) (o i v:V) (ov iv u:Value) (Q:Hp->Prop),Inv X pins σ H s->zZ o ov->zZ i iv->zZ v u->t o i v H Q ->
  wpAny (model X.prog X.w) X.A (setItem ov iv u) (fun _ s'=>∃ H',Inv X pins σ H' s'/\Q H') X.xe s
section
variable {X:Cx}{pos:Pos}
noncomputable def zt (i:Nat):TG:=fun v σ H Q=>Q (σ.set i (some v)) H
theorem zI1 {i:Nat}{x:Str} (hN:X.N.Nodup) (hi:X.N[i]? = some x) (hx:Loc X.env.scope x) (hf:X.fn x=true\/X.env.scope.names.lookup x=some .local:=by first | exact .inl rfl | exact .inr rfl | assumption):PG X (.Name x pos) (zt i):=by
 intro pins s σ H v u Q I r h
 exact wpAny_assign_Name (zDm I hN hi hx r (fun s' I'=>⟨_,H,I',h⟩) hf)
noncomputable def JQ:TGs:=fun vs σ H Q=>vs=[]/\Q σ H
noncomputable def qd (t:TG) (u:TGs):TGs:=fun vs σ H Q=>∃ v r,vs=v::r/\t v σ H fun σ' H'=>u r σ' H' Q
theorem zJp:PGs X [] JQ:=by
 intro pins s σ H vs us Q I r h
 obtain⟨e,h⟩:=h
 subst e
 cases r
 exact assignInOrder_nil ⟨σ,H,I,h⟩
theorem zDZ {e:Expr}{es:List Expr}{t:TG}{u:TGs} (h1:PG X e t) (h2:PGs X es u)
  (hs:(assignEach (e::es) X.env).map (·.2)=assign e X.env::(assignEach es X.env).map (·.2):=by rfl):PGs X (e::es) (qd t u):=by
 intro pins s σ H vs us Q I r h
 obtain⟨v,vr,e1,h⟩:=h
 subst e1
 cases r with
 | cons r rr =>
  rw[hs]
  refine assignInOrder_cons (thn (h1 pins s σ H _ _ _ I r h) fun _ s1 ⟨σ1,H1,I1,q1⟩=>?_)
  exact h2 pins s1 σ1 H1 _ _ Q I1 rr q1
noncomputable def JS (K:PySem.W.Frag) (n:Nat) (t:TGs):TG:=fun v σ H Q=>∃ a xs,v=.ref a/\SqT K H a xs/\xs.length=n/\t xs σ H Q
theorem zLf {es:List Expr}{k:Nat}{t:TGs}{n:Nat} (hc:X.calm=true) (h:PGs X es t)
  (hn:(assignEach es X.env).length=n:=by rfl) (hst:(assignEach es X.env).findIdx? (·.1)=none:=by rfl):PG X (.Tuple es k pos) (JS X.K n t):=by
 intro pins s σ H v u Q I r hw
 obtain⟨a,xs,e1,hq,hl,hw⟩:=hw
 subst e1
 cases r
 obtain⟨its,rv,ht,hz⟩:=I.tuple hq
 refine assign_Tuple_tuple (I.ok.hd hc) ht (by simp[hn,<- hl,rv.length]) hst fun h' hx=>?_
 have I1:Inv X pins σ H { s with heap:=h' }:=I.kept (t':=s.toks) fun b o e=>hx b o (Nat.ne_of_lt (Heap.lt_size e)) e
 exact h pins _ σ H xs _ Q I1 (by simpa using rv) hw
noncomputable def zMs (to ti:TE) (t:zHR):TG:=fun v σ H Q=>to σ H fun o H1=>ti σ H1 fun i H2=>t o i v H2 fun H3=>Q σ H3
theorem zLX {o i:Expr}{to ti:TE}{t:zHR} (ho:PE X o to) (hi:PE X i ti) (hs:zKS X t)
  (ha:∀ v,assign (.Subscript o i pos) X.env v=(do
   let ov <- holding [v] (eval o X.env)
   let iv <- holding [v,ov] (eval i X.env)
   standAt pos
   holding [v,ov,iv] (setItem ov iv v)
   release [v,ov,iv] []):=by intro _;rfl):PG X (.Subscript o i pos) (zMs to ti t):=by
 intro pins s σ H v u Q I r h
 rw[ha]
 refine wpAny_bind (wpAny_holding (thn (ho pins s σ H _ I h) fun ov s1 ⟨x,H1,I1,r1,q1⟩=>?_))
 refine wpAny_bind (wpAny_holding (thn (hi pins s1 σ H1 _ I1 q1) fun iv s2 ⟨y,H2,I2,r2,q2⟩=>?_))
 refine wpAny_bind (wpAny_standAt (wpAny_bind (wpAny_holding (thn (hs pins s2 σ H2 x y v ov iv u _ I2 r1 r2 r q2) fun _ s3 ⟨H3,I3,q3⟩=>?_))))
 exact wpAny_release ⟨σ,H3,I3,q3⟩
noncomputable def zKq (te:TE) (g:TG):TS:=fun D σ H=>te σ H fun x H1=>g x σ H1 D.nx
theorem zJ7 {tg e:Expr}{te:TE}{g:TG} (he:PE X e te) (hg:PG X tg g) (hs:swapsWithSole [tg] e pos.line X.env=pure false:=by rfl) (hw:swappedStores [tg] e X.env=pure none:=by rfl)
  (h1:(assignEach [tg] X.env).map (·.2)=[assign tg X.env]:=by rfl):PS X (.Assign [tg] e pos) (zKq te g):=by
 intro pins s σ H D I h
 refine wpAny_Assign_stores (thn (he pins s σ H _ I h) fun v s1 ⟨x,H1,I1,r1,q1⟩=>?_) hs hw
 rw[h1]
 exact thn (hg pins s1 σ H1 x v _ I1 r1 q1) fun _ s2 q=>q
theorem zK4 {i:Nat}{x:Str}{e:Expr}{te:TE}{pos':Pos} (hN:X.N.Nodup) (hi:X.N[i]? = some x) (hx:Loc X.env.scope x) (he:PE X e te) (hs:swapsWith e (some (.Name x pos')) pos.line X.env=pure false:=by rfl) (hf:X.fn x=true\/X.env.scope.names.lookup x=some .local:=by first | exact .inl rfl | exact .inr rfl | assumption) :
  PS X (.Assign [.Name x pos'] e pos) (zKq te (zt i)):=by
 intro pins s σ H D I h
 refine wpAny_Assign_Name (thn (he pins s σ H _ I h) fun v s1 ⟨y,H1,I1,r1,q1⟩=>?_) hs
 exact zDm I1 hN hi hx r1 (fun s2 I2=>⟨_,H1,I2,q1⟩) hf
end
section
variable {X:Cx}{pos:Pos}
noncomputable def zLZ (c:TT) (tb:TS):TS:=fun D σ H=>∃ W:Nat->St->Hp->Prop,(∃ m,W m σ H)/\∀ m σ H,W m σ H ->
 c σ H fun b H1=>if b=true then ∃ N:St->Hp->Prop,(∀ σ' H',N σ' H'->∃ m',m' < m/\W m' σ' H')/\tb { D with nx:=N,ct:=N,bk:=D.nx } σ H1 else D.nx σ H1
theorem zHb {c:Expr}{body:List Stmt}{tc:TT}{tb:TS} (hp:PassesOwn (model X.prog X.w) X.A X.env X.xe) (hc:PT X c tc) (hb:PSs X body tb):PS X (.While c body [] pos) (zLZ tc tb):=by
 intro pins s σ H D I h
 obtain⟨W,⟨m0,w0⟩,turn⟩:=h
 refine wpAny_While (codeAny_whileLoop (fun n s'=>∃ σ' H',Inv X pins σ' H' s'/\W n σ' H') ?_ m0 ⟨σ,H,I,w0⟩)
 rintro n s1 ⟨σ1,H1,I1,w1⟩
 refine wpAny_passesOwn hp (thn (hc pins s1 σ1 H1 _ I1 (turn n σ1 H1 w1)) fun b s2 ⟨H2,I2,q2⟩=>?_)
 cases b with
 | true =>
  obtain⟨N,hN,q2⟩:=q2
  rw[if_pos rfl]
  refine wpAny_passesOwn hp (thn (hb pins s2 σ1 H2 _ I2 q2) fun f s3 q3=>?_)
  cases f with
  | next =>
   obtain⟨σ3,H3,I3,n3⟩:=q3
   obtain⟨m',hm,w3⟩:=hN σ3 H3 n3
   exact⟨m',hm,σ3,H3,I3,w3⟩
  | cont =>
   obtain⟨σ3,H3,I3,n3⟩:=q3
   obtain⟨m',hm,w3⟩:=hN σ3 H3 n3
   exact⟨m',hm,σ3,H3,I3,w3⟩
  | brk=>exact q3
  | ret v=>exact q3
 | false =>
  rw[if_neg Bool.false_ne_true]
  exact wpAny_execs_nil ⟨σ1,H2,I2,q2⟩
end
structure It where
 go:Nat->Hp->Prop
 yld:Nat->Hp->V->Hp->Prop
 stop:Nat->Hp->Prop
noncomputable def QM (X:Cx) (pins:List (Addr×Obj)) (H:Hp) (b:Addr):Prop :=
 H b=none/\b≠X.env.locals/\b∉X.fs/\(b∈X.ex\/X.s₀.heap.objs.size <= b)/\(∀ x c,X.env.cells.lookup x=some c->c≠b)/\∀ p∈X.pn++pins,p.1≠b
theorem Inv.fpOk {X:Cx}{pins:List (Addr×Obj)}{σ:St}{H H':Hp}{s:Shared}{b:Addr} (I:Inv X pins σ H s) (hb:s.heap.objs.size <= b) (hn:H' b=none):QM X pins H' b:=by
 refine⟨hn,Nat.ne_of_gt (Nat.lt_of_lt_of_le I.lt hb),I.nofs hb,.inr (Nat.le_trans I.sz hb),fun x c e z=>?_,fun p hp z=>?_⟩
 ·obtain⟨v,q⟩:=I.cell x c e
  exact absurd (Nat.lt_of_lt_of_le q.lt (by rw[z];exact hb)) (Nat.lt_irrefl _)
 ·exact absurd (Nat.lt_of_lt_of_le (Heap.lt_size (I.pin p hp).1) (by rw[z];exact hb)) (Nat.lt_irrefl _)
structure JF (P:Program) (w:World) (K:PySem.W.Frag) (tg:Expr) (J:It) (fp:List Addr) (it:Addr) (tn:Nat->Heap->Prop):Prop where
 mem:it∈fp
 obj:∀ i h,tn i h->∀ b∈fp,∃ o,h.get? b=some o/\∀ v,o.data≠.cell v
 keep:∀ i h h',tn i h->(∀ b∈fp,∀ o,h.get? b=some o->h'.get? b=some o)->tn i h'
 item:∀ (X:Cx),X.prog=P->X.w=w->X.K=K->X.calm=true->∀ (i:Nat) (pins:List (Addr×Obj)) (s:Shared) (σ:St) (H:Hp) (E:Value->Shared->Prop),Inv X pins σ H s->(∀ b∈fp,QM X pins H b)->tn i s.heap->J.go i H ->
  wpAny (model P w) X.A (pyNext (.ref it)) (fun r s1=>∃ u,r=some u /\
   wpAny (model P w) X.A (letOwnedTupleGo tg (.ref it) u) (fun _ s2=>∃ x H',Inv X pins σ H' s2/\zZ x u/\J.yld i H x H'/\tn (i+1) s2.heap/\∀ b∈fp,H' b=none) E s1) E s
 done:∀ (X:Cx),X.prog=P->X.w=w->X.K=K->X.calm=true->∀ (i:Nat) (pins:List (Addr×Obj)) (s:Shared) (σ:St) (H:Hp) (E:Value->Shared->Prop),Inv X pins σ H s->(∀ b∈fp,QM X pins H b)->tn i s.heap->J.stop i H ->
  wpAny (model P w) X.A (pyNext (.ref it)) (fun r s1=>r=none/\Inv X pins σ H s1) E s
 self:∀ (A:Around) (i:Nat) (s:Shared) (Q:Value->Shared->Prop) (E:Value->Shared->Prop),tn i s.heap->Q (.ref it) s->wpAny (model P w) A (pyIter (.ref it)) Q E s
noncomputable abbrev TI:=St->Hp->(It->Hp->Prop)->Prop
noncomputable def PIE (X:Cx) (pins:List (Addr×Obj)) (σ:St) (tg:Expr) (R:It->Hp->Prop) (itv:Value) (s2:Shared):Prop :=
 ∃ (it:Addr) (fp:List Addr) (tn:Nat->Heap->Prop) (J:It) (H':Hp),itv=.ref it/\Inv X pins σ H' s2/\JF X.prog X.w X.K tg J fp it tn/\tn 0 s2.heap/\(∀ b∈fp,QM X pins H' b)/\R J H'
noncomputable def PI (X:Cx) (tg iter:Expr) (wi:TI):Prop :=
 ∀ (pins:List (Addr×Obj)) (s:Shared) (σ:St) (H:Hp) (R:It->Hp->Prop),Inv X pins σ H s->wi σ H R ->
  wpAny (model X.prog X.w) X.A (eval iter X.env) (fun v s1=>wpAny (model X.prog X.w) X.A (pyIter v) (PIE X pins σ tg R) X.xe s1) X.xe s
theorem zAE {M:Model}{A:Around}{E:Value->Shared->Prop}{s:Shared}{tg:Expr}{it:Addr}{u:Value}{o:Obj}{n:String}{vs:Array Value}{Q:Unit->Shared->Prop} (ho:s.heap.get? it=some o) (hc:o.cls=.type n) (hd:o.data=.fields vs)
  (hn:["enumerate","zip","dict_itemiterator","dict_reverseitemiterator","odict_iterator","itertools.zip_longest","itertools.pairwise"].contains n=false) (hQ:Q () s):wpAny M A (letOwnedTupleGo tg (.ref it) u) Q E s:=by
 unfold letOwnedTupleGo
 cases tg<;>first
  | exact wpAny_pure hQ
  | (cases u<;>first
      | exact wpAny_pure hQ
      | (refine wpAny_bind (wpAny_load ho ?_)
         rw[hc,hd]
         show wpAny M A (if (["enumerate","zip","dict_itemiterator","dict_reverseitemiterator","odict_iterator","itertools.zip_longest","itertools.pairwise"].contains n && vs[0]? == some (rawInt _))=true then _ else _) Q E s
         rw[if_neg (by intro h;rw[hn,Bool.false_and] at h;cases h)]
         exact wpAny_pure hQ))
noncomputable def Itl (K:PySem.W.Frag) (a:Addr):It :=
 ⟨fun i H=>∃ xs x,SqL K H a xs/\xs[i]? = some x,fun i H x H'=>H'=H/\∀ xs,SqL K H a xs->xs[i]? = some x,fun i H=>∃ xs,SqL K H a xs/\xs.length <= i⟩
noncomputable def Itt (K:PySem.W.Frag) (a:Addr):It :=
 ⟨fun i H=>∃ xs x,SqT K H a xs/\xs[i]? = some x,fun i H x H'=>H'=H/\∀ xs,SqT K H a xs->xs[i]? = some x,fun i H=>∃ xs,SqT K H a xs/\xs.length <= i⟩
noncomputable def Itr (lo:Int) (n:Nat):It:=⟨fun i _=>i < n,fun i H x H'=>H'=H/\x=.int (lo+i),fun i _=>n <= i⟩
theorem zGZ {P:Program}{w:World}{K:PySem.W.Frag}{tg:Expr} (a it:Addr):JF P w K tg (Itl K a) [it] it (fun i h=>h.IsListIter it a i) where
 mem:=by simp
 obj:=fun i h st b hb=>by
  have e:b=it:=by simpa using hb
  subst e
  obtain⟨o,e,c,d⟩:=st
  exact⟨o,e,fun v z=>by rw[d] at z;cases z⟩
 keep:=fun i h h' st k=>st.at fun o e=>k it (by simp) o e
 item:=by
  intro X hP hw hK hc i pins s σ H E I hf st hg
  subst hP hw hK
  obtain⟨xs,x,hq,hx⟩:=hg
  obtain⟨its,rv,p,hz⟩:=I.list hq
  obtain⟨u,hu,ru⟩:=rv.get hx
  obtain⟨f0,f1,f2,f3,f4,f5⟩:=hf it (by simp)
  refine wpAny_pyNext_list_item st p.isList (x:=u) (by simpa using hu) fun h' st' sb=>?_
  have I1:Inv X pins σ H { s with heap:=h' }:=I.turned (t':=s.toks) (fun b o hb e=>(sb.2 b hb).trans e) f0 f1 f3 f4 f5
  obtain⟨o,e,c,d⟩:=id st'
  exact⟨u,rfl,zAE (s:={ s with heap:=h' }) e c d (by decide) ⟨x,H,I1,ru,⟨rfl,fun ys hy=>by rw[I.list_inj hy hq];exact hx⟩,st',fun b hb=>(hf b hb).1⟩⟩
 done:=by
  intro X hP hw hK hc i pins s σ H E I hf st hg
  subst hP hw hK
  obtain⟨xs,hq,hx⟩:=hg
  obtain⟨its,rv,p,hz⟩:=I.list hq
  obtain⟨f0,f1,f2,f3,f4,f5⟩:=hf it (by simp)
  have hl:=rv.length
  exact wpAny_pyNext_list_end (I.ok.hd hc) st p.isList (by simp;omega) fun h' eb=>⟨rfl,I.turned (t':=s.toks) (fun b o hb e=>eb b o hb e) f0 f1 f3 f4 f5⟩
 self:=fun _ _ _ _ _ st h=>wpAny_pyIter_listiter st h
theorem zFV {P:Program}{w:World}{K:PySem.W.Frag}{tg:Expr} (a it:Addr):JF P w K tg (Itt K a) [it] it (fun i h=>h.IsTupleIter it a i) where
 mem:=by simp
 obj:=fun i h st b hb=>by
  have e:b=it:=by simpa using hb
  subst e
  obtain⟨o,e,c,d⟩:=st
  exact⟨o,e,fun v z=>by rw[d] at z;cases z⟩
 keep:=fun i h h' st k=>st.at fun o e=>k it (by simp) o e
 item:=by
  intro X hP hw hK hc i pins s σ H E I hf st hg
  subst hP hw hK
  obtain⟨xs,x,hq,hx⟩:=hg
  obtain⟨its,rv,p,hz⟩:=I.tuple hq
  obtain⟨u,hu,ru⟩:=rv.get hx
  obtain⟨f0,f1,f2,f3,f4,f5⟩:=hf it (by simp)
  refine wpAny_pyNext_tuple_item st (show s.heap.IsTuple a its.toArray from p) (x:=u) (by simpa using hu) fun h' st' sb=>?_
  have I1:Inv X pins σ H { s with heap:=h' }:=I.turned (t':=s.toks) (fun b o hb e=>(sb.2 b hb).trans e) f0 f1 f3 f4 f5
  obtain⟨o,e,c,d⟩:=id st'
  exact⟨u,rfl,zAE (s:={ s with heap:=h' }) e c d (by decide) ⟨x,H,I1,ru,⟨rfl,fun ys hy=>by rw[I.tuple_inj hy hq];exact hx⟩,st',fun b hb=>(hf b hb).1⟩⟩
 done:=by
  intro X hP hw hK hc i pins s σ H E I hf st hg
  subst hP hw hK
  obtain⟨xs,hq,hx⟩:=hg
  obtain⟨its,rv,p,hz⟩:=I.tuple hq
  obtain⟨f0,f1,f2,f3,f4,f5⟩:=hf it (by simp)
  have hl:=rv.length
  exact wpAny_pyNext_tuple_end (I.ok.hd hc) st (show s.heap.IsTuple a its.toArray from p) (by simp;omega) fun h' eb=>⟨rfl,I.turned (t':=s.toks) (fun b o hb e=>eb b o hb e) f0 f1 f3 f4 f5⟩
 self:=fun _ _ _ _ _ st h=>wpAny_pyIter_tupleiter st h
theorem zE4 {P:Program}{w:World}{K:PySem.W.Frag}{tg:Expr} (it:Addr) (lo:Int) (n:Nat):JF P w K tg (Itr lo n) [it] it (fun i h=>IsRangeIter h it (lo+(i:Nat) * 1) ((n:Int) - (i:Nat)) 1) where
 mem:=by simp
 obj:=fun i h st b hb=>by
  have e:b=it:=by simpa using hb
  subst e
  exact⟨_,st,fun v z=>by
   have z':Data.fields _=Data.cell v:=z
   cases z'⟩
 keep:=fun i h h' st k=>k it (by simp) _ st
 item:=by
  intro X hP hw hK hc i pins s σ H E I hf st hg
  subst hP hw hK
  obtain⟨f0,f1,f2,f3,f4,f5⟩:=hf it (by simp)
  have W:=Walks.range (prog:=X.prog) (w:=X.w) (I.ok.hd hc) it lo 1 n
  refine wpAny_with_toks (n:=1) I.tk (W.item i s _ _ hg st fun v h' tk hv st' kk htk=>?_)
  obtain⟨t,rfl⟩:=hv
  have I1:Inv X pins σ H { s with heap:=h',toks:=tk }:=I.turned (fun b o hb e=>kk b o (by simpa using hb) e) f0 f1 f3 f4 f5
  refine⟨_,rfl,zAE (s:={ s with heap:=h',toks:=tk }) (n := "range_iterator") st' rfl rfl (by decide) ⟨.int (lo+i),H,I1,⟨t,?_⟩,⟨rfl,rfl⟩,st',fun b hb=>(hf b hb).1⟩⟩
  rw[Int.mul_one]
 done:=by
  intro X hP hw hK hc i pins s σ H E I hf st hg
  subst hP hw hK
  obtain⟨f0,f1,f2,f3,f4,f5⟩:=hf it (by simp)
  exact wpAny_pyNext_range_end (I.ok.hd hc) st (by have:n <= i:=hg;omega) fun h' eb=>⟨rfl,I.turned (t':=s.toks) (fun b o hb e=>eb b o hb e) f0 f1 f3 f4 f5⟩
 self:=fun _ _ _ _ _ st h=>wpAny_pyIter_rangeiter st h
end L2
namespace L2
open PySem PySem.Spec PyProof.Rows
section
variable {X:Cx}{tg:Expr}
noncomputable def zLs (K:PySem.W.Frag) (tl:TE):TI:=fun σ H R=>tl σ H fun x H1=>∃ a,x=.ref a/\(∃ xs,SqL K H1 a xs)/\R (Itl K a) H1
noncomputable def zNF (K:PySem.W.Frag) (tl:TE):TI:=fun σ H R=>tl σ H fun x H1=>∃ a,x=.ref a/\(∃ xs,SqT K H1 a xs)/\R (Itt K a) H1
theorem zIn {l:Expr}{tl:TE} (hl:PE X l tl):PI X tg l (zLs X.K tl):=by
 intro pins s σ H R I h
 refine thn (hl pins s σ H _ I h) fun v s1 ⟨x,H1,I1,r1,q1⟩=>?_
 obtain⟨a,e,⟨xs,hq⟩,q⟩:=q1
 subst e
 cases r1
 obtain⟨its,rv,p,hz⟩:=I1.list hq
 refine wpAny_pyIter_list p.isList ?_
 refine⟨s1.heap.objs.size,[s1.heap.objs.size],_,_,H1,rfl,I1.kept (t':=s1.toks) fun b o e=>Heap.get?_push_of_some _ e,zGZ a _,⟨_,Heap.get?_push_size _ rfl,rfl,rfl⟩,fun b hb=>?_,q⟩
 have e:b=s1.heap.objs.size:=by simpa using hb
 subst e
 exact I1.fpOk (Nat.le_refl _) (I1.hok.fresh (Nat.le_refl _))
theorem zLa {l:Expr}{tl:TE} (hl:PE X l tl):PI X tg l (zNF X.K tl):=by
 intro pins s σ H R I h
 refine thn (hl pins s σ H _ I h) fun v s1 ⟨x,H1,I1,r1,q1⟩=>?_
 obtain⟨a,e,⟨xs,hq⟩,q⟩:=q1
 subst e
 cases r1
 obtain⟨its,rv,p,hz⟩:=I1.tuple hq
 refine wpAny_pyIter_tuple (show s1.heap.IsTuple a its.toArray from p) ?_
 refine⟨s1.heap.objs.size,[s1.heap.objs.size],_,_,H1,rfl,I1.kept (t':=s1.toks) fun b o e=>Heap.get?_push_of_some _ e,zFV a _,⟨_,Heap.get?_push_size _ rfl,rfl,rfl⟩,fun b hb=>?_,q⟩
 have e:b=s1.heap.objs.size:=by simpa using hb
 subst e
 exact I1.fpOk (Nat.le_refl _) (I1.hok.fresh (Nat.le_refl _))
theorem zHT {pins:List (Addr×Obj)}{σ:St}{H:Hp}{s:Shared}{R:It->Hp->Prop}{E:Value->Shared->Prop}{lo hi:Int}{t u v:Tok}{tk:Nat} (I:Inv X pins σ H s) (h1:-(2 ^ 62) <= lo) (h2:lo < 2 ^ 62) (h3:-(2 ^ 62) <= hi) (h4:hi < 2 ^ 62)
  (q:R (Itr lo (hi - lo).toNat) H) (htk:0 < tk:=by first | exact Nat.succ_pos _ | assumption | exact Inv.tk (by assumption) | omega):wpAny (model X.prog X.w) X.A (pyIter (.ref s.heap.objs.size)) (PIE X pins σ tg R) E { s with heap:=s.heap.push { cls:=.type "range",data:=.fields #[.int lo t,.int hi u,.int 1 v] },toks:=tk }:=by
 refine wpAny_pyIter_range (IsRange.new ..) (small_one h1 h2 h3 h4) ?_
 have I1:Inv X pins σ H { s with heap:=s.heap.push { cls:=.type "range",data:=.fields #[.int lo t,.int hi u,.int 1 v] },toks:=tk }:=I.kept fun b o e=>Heap.get?_push_of_some _ e
 refine⟨(s.heap.push { cls:=.type "range",data:=.fields #[.int lo t,.int hi u,.int 1 v] }).objs.size,[(s.heap.push { cls:=.type "range",data:=.fields #[.int lo t,.int hi u,.int 1 v] }).objs.size],_,_,H,rfl,
  I1.kept (t':=tk) fun b o e=>Heap.get?_push_of_some _ e,zE4 _ lo (hi - lo).toNat,?_,fun b hb=>?_,q⟩
 ·have e1:lo+((0:Nat):Int) * 1=lo:=by simp
  have e2:(((hi - lo).toNat:Nat):Int) - ((0:Nat):Int)=Builtin.Range.rangeSize lo hi 1:=by rw[rangeSize_one];split<;>omega
  show IsRangeIter _ _ (lo+((0:Nat):Int) * 1) ((((hi - lo).toNat:Nat):Int) - ((0:Nat):Int)) 1
  rw[e1,e2]
  exact Heap.get?_push_size _ rfl
 ·have e:b=(s.heap.push { cls:=.type "range",data:=.fields #[.int lo t,.int hi u,.int 1 v] }).objs.size:=by simpa using hb
  subst e
  exact I1.fpOk (Nat.le_refl _) (I1.hok.fresh (Nat.le_refl _))
noncomputable def zMX (ta:TA):TI:=fun σ H R=>ta σ H fun vs H1=>∃ j:Int,vs=[.int j] /\ -(2 ^ 62) <= j/\j < 2 ^ 62/\R (Itr 0 j.toNat) H1
theorem zFh {a:Expr}{ta:TA}{p pos:Pos} (hg:Gl X "range") (hm:X.mg "range" = none) (ha:PA X [a] ta) (hs:starEach [a] X.env=[(false,eval a X.env)]:=by rfl):PI X tg (.Call (.Name "range" p) [a] [] pos) (zMX ta):=by
 intro pins s σ H R I h
 refine Call_ (Jm I hg hm boot_range (PyProof.Rows.callWith_type1 (thn (ha pos pins s σ H _ I h) fun us s1 ⟨vs,H1,I1,r1,q1⟩=>?_) hs rfl))
 obtain⟨j,e,q1,q2,q⟩:=q1
 subst e
 cases r1 with
 | cons r rr =>
  cases rr
  obtain⟨t,rfl⟩:=r
  exact call_range_1 (zHT I1 (by omega) (by omega) q1 q2 (by simpa using q))
noncomputable def zMm (wi:TI) (g:TG) (tb:TS):TS:=fun D σ H=>wi σ H fun J H1=>∃ W:Nat->Nat->St->Hp->Prop,(∃ m,W 0 m σ H1)/\∀ i m σ H,W i m σ H ->
 (J.stop i H/\D.nx σ H)\/(J.go i H/\∃ N:St->Hp->Prop,(∀ σ' H',N σ' H'->∃ m',m' < m/\W (i+1) m' σ' H')/\∀ x H',J.yld i H x H'->g x σ H' fun σ2 H2=>tb { D with nx:=N,ct:=N,bk:=D.nx } σ2 H2)
noncomputable def yp (fp:List Addr) (h:Heap):List (Addr×Obj):=fp.filterMap fun b=>(h.get? b).map fun o=>(b,o)
theorem Zu {fp:List Addr}{h:Heap}{b:Addr}{o:Obj} (hb:b∈fp) (e:h.get? b=some o):(b,o)∈yp fp h:=List.mem_filterMap.mpr ⟨b,hb,by rw[e];rfl⟩
theorem zCF {fp:List Addr}{h:Heap}{p:Addr×Obj} (hp:p∈yp fp h):p.1∈fp/\h.get? p.1=some p.2:=by
 obtain⟨b,hb,e⟩:=List.mem_filterMap.mp hp
 cases q:h.get? b with
 | none=>rw[q] at e;cases e
 | some o =>
  rw[q] at e
  have e':(b,o)=p:=Option.some.inj e
  subst e'
  exact⟨hb,q⟩
theorem Inv.pinned {pins:List (Addr×Obj)}{σ:St}{H:Hp}{s:Shared}{fp:List Addr} (I:Inv X pins σ H s) (hf:∀ b∈fp,QM X pins H b) (ho:∀ b∈fp,∃ o,s.heap.get? b=some o/\∀ v,o.data≠.cell v):Inv X (pins++yp fp s.heap) σ H s :=
 I.pins_of fun p hp=>(List.mem_append.mp hp).elim (fun z=>I.pin p (List.mem_append_right _ z)) fun z=>by
  obtain⟨hb,e⟩:=zCF z
  obtain⟨f0,f1,f2,_⟩:=hf p.1 hb
  obtain⟨o,e',d⟩:=ho p.1 hb
  rw[e] at e';cases e'
  exact⟨e,f0,f1,f2,d⟩
theorem Inv.unpinned {pins pl:List (Addr×Obj)}{σ:St}{H:Hp}{s:Shared} (I:Inv X (pins++pl) σ H s):Inv X pins σ H s:=I.pins_of fun p hp=>I.pin p (List.mem_append_right _ (List.mem_append_left _ hp))
theorem zLP {iter:Expr}{body:List Stmt}{wi:TI}{g:TG}{tb:TS}{pos:Pos} (hp:PassesOwn (model X.prog X.w) X.A X.env X.xe) (hc:X.calm=true) (hi:PI X tg iter wi) (hg:PG X tg g) (hb:PSs X body tb)
  (hs:∀ x,foldedSetIterable iter X.env x=pure x:=by intro _;rfl):PS X (.For tg iter body [] pos) (zMm wi g tb):=by
 intro pins s σ H D I h
 refine wpAny_For (thn (hi pins s σ H _ I h) fun v s1 h1=>thn h1 fun itv s2 h2=>?_) hs
 obtain⟨it,fp,tn,J,H2,e,I2,T,st2,f2,W,⟨m0,w0⟩,turn⟩:=h2
 subst e
 have stat:∀ {H':Hp},(∀ b∈fp,H' b=none)->∀ b∈fp,QM X pins H' b:=fun hn b hb=>⟨hn b hb,(f2 b hb).2⟩
 refine codeAny_forLoop_any (fun n s'=>∃ i σ' H',Inv X pins σ' H' s'/\tn i s'.heap/\(∀ b∈fp,H' b=none)/\W i n σ' H') ?_ m0 ⟨0,σ,H2,I2,st2,fun b hb=>(f2 b hb).1,w0⟩
 rintro n s3 ⟨i,σ3,H3,I3,st3,fr3,w3⟩
 rcases turn i n σ3 H3 w3 with ⟨stop,qn⟩ | ⟨go,N,hN,step⟩
 ·refine wpAny_passesOwn hp (thn (T.done X rfl rfl rfl hc i pins s3 σ3 H3 X.xe I3 (stat fr3) st3 stop) fun r s4 ⟨hr,I4⟩=>?_)
  subst hr
  exact wpAny_execs_nil ⟨σ3,H3,I4,qn⟩
 ·refine wpAny_passesOwn hp (thn (T.item X rfl rfl rfl hc i pins s3 σ3 H3 X.xe I3 (stat fr3) st3 go) fun r s4 ⟨u,hr,h4⟩=>?_)
  subst hr
  refine wpAny_passesOwn hp (thn h4 fun _ s5 ⟨x,H5,I5,r5,y5,st5,fr5⟩=>?_)
  have I5':=I5.pinned (stat fr5) (T.obj _ _ st5)
  refine wpAny_passesOwn hp (thn (hg _ s5 σ3 H5 x u _ I5' r5 (step x H5 y5)) fun _ s6 ⟨σ6,H6,I6,q6⟩=>?_)
  refine wpAny_passesOwn hp (thn (hb _ s6 σ6 H6 _ I6 q6) fun f s7 q7=>?_)
  have again:∀ {σ7:St}{H7:Hp},Inv X (pins++yp fp s5.heap) σ7 H7 s7->N σ7 H7->∃ m,m < n/\∃ i σ' H',Inv X pins σ' H' s7/\tn i s7.heap/\(∀ b∈fp,H' b=none)/\W i m σ' H':=fun {σ7 H7} I7 n7=>by
   obtain⟨m',hm,w7⟩:=hN σ7 H7 n7
   refine⟨m',hm,i+1,σ7,H7,I7.unpinned,T.keep _ _ _ st5 fun b hb o e=>(I7.pin (b,o) (List.mem_append_right _ (List.mem_append_right _ (Zu hb e)))).1,fun b hb=>?_,w7⟩
   obtain⟨o,e,d⟩:=T.obj _ _ st5 b hb
   exact (I7.pin (b,o) (List.mem_append_right _ (List.mem_append_right _ (Zu hb e)))).2.1
  cases f with
  | next=>obtain⟨σ7,H7,I7,n7⟩:=q7;exact again I7 n7
  | cont=>obtain⟨σ7,H7,I7,n7⟩:=q7;exact again I7 n7
  | brk=>obtain⟨σ7,H7,I7,q7⟩:=q7;exact⟨σ7,H7,I7.unpinned,q7⟩
  | ret v=>obtain⟨x7,σ7,H7,I7,r7,q7⟩:=q7;exact⟨x7,σ7,H7,I7.unpinned,r7,q7⟩
end
end L2
namespace L2
open PySem PySem.Spec PyProof.Rows
noncomputable abbrev R2:=V->V->Hp->VK->Prop
noncomputable def OpR (X:Cx) (f:Value->Value->Sem Value) (r:R2):Prop :=
 ∀ (pins:List (Addr×Obj)) (s:Shared) (σ:St) (H:Hp) (x y:V) (v u:Value) (Q:VK),Inv X pins σ H s->zZ x v->zZ y u->r x y H Q ->
  wpAny (model X.prog X.w) X.A (f v u) (EP X pins σ Q) X.xe s
noncomputable def jh (X:Cx) (f:Value) (r:List V->Hp->VK->Prop):Prop :=
 ∀ (pins:List (Addr×Obj)) (s:Shared) (σ:St) (H:Hp) (xs:List V) (us:List Value) (Q:VK),Inv X pins σ H s->zY xs us->r xs H Q ->
  wpAny (model X.prog X.w) X.A (call f us) (EP X pins σ Q) X.xe s
noncomputable def zMw (X:Cx) (r:V->Hp->(Bool->Hp->Prop)->Prop):Prop :=
 ∀ (pins:List (Addr×Obj)) (s:Shared) (σ:St) (H:Hp) (x:V) (v:Value) (Q:Bool->Hp->Prop),Inv X pins σ H s->zZ x v->r x H Q ->
  wpAny (model X.prog X.w) X.A (truthy v) (TP X pins σ Q) X.xe s
noncomputable def tOp (r:R2) (ta tb:TE):TE:=fun σ H Q=>ta σ H fun x H1=>tb σ H1 fun y H2=>r x y H2 Q
noncomputable def rI (C:Int->Int->Prop) (g:Int->Int->V):R2:=fun x y H Q=>∃ i j,x=.int i/\y=.int j/\C i j/\Q (g i j) H
noncomputable def rI0 (g:Int->Int->V):R2:=fun x y H Q=>∃ i j,x=.int i/\y=.int j/\Q (g i j) H
section
variable {X:Cx}{a b c:Expr}{ta tb tc:TE}{pos:Pos}
theorem zH9 (ha:PE X a ta) (hb:PE X b tb) {pins:List (Addr×Obj)}{s:Shared}{σ:St}{H:Hp}{R:V->V->Hp->Prop} (I:Inv X pins σ H s)
  (h:ta σ H fun x H1=>tb σ H1 fun y H2=>R x y H2) {Q:Value->Shared->Prop}{f:Value->Value->Sem Value}
  (hf:∀ v u s2 x y H2,Inv X pins σ H2 s2->zZ x v->zZ y u->R x y H2->wpAny (model X.prog X.w) X.A (f v u) Q X.xe s2) :
  wpAny (model X.prog X.w) X.A (eval a X.env) (fun v s₁=>wpAny (model X.prog X.w) X.A (eval b X.env) (fun u s₂=>wpAny (model X.prog X.w) X.A (f v u) Q X.xe s₂) X.xe s₁) X.xe s:=by
 refine thn (ha pins s σ H _ I h) fun v s1 ⟨x,H1,I1,r1,q1⟩=>?_
 refine thn (hb pins s1 σ H1 _ I1 q1) fun u s2 ⟨y,H2,I2,r2,q2⟩=>?_
 exact hf v u s2 x y H2 I2 r1 r2 q2
theorem zMD {op:Operator}{r:R2} (ho:OpR X (binaryOp op) r) (ha:PE X a ta) (hb:PE X b tb):PE X (.BinOp a op b pos) (tOp r ta tb):=by
 intro pins s σ H Q I h
 exact wpAny_BinOp (zH9 ha hb I h fun v u s2 x y H2 I2 rx ry q=>ho pins s2 σ H2 x y v u Q I2 rx ry q)
theorem opI {f:Value->Value->Sem Value}{C:Int->Int->Prop}{g:Int->Int->Int}
  (rule:∀ (i j:Int) (t u:Tok) (s:Shared) (Q:Value->Shared->Prop) (E:Value->Shared->Prop),C i j->Q (.int (g i j) s.toks) { s with toks:=s.toks+1 }->wpAny (model X.prog X.w) X.A (f (.int i t) (.int j u)) Q E s) :
  OpR X f (rI C fun i j=>.int (g i j)):=by
 intro pins s σ H x y v u Q I rx ry h
 obtain⟨i,j,rfl,rfl,hc,q⟩:=h
 obtain⟨t,rfl⟩:=rx
 obtain⟨t',rfl⟩:=ry
 exact rule i j t t' s _ _ hc ⟨.int (g i j),H,I.tok _,⟨_,rfl⟩,q⟩
theorem zLO {f:Value->Value->Sem Value}{g:Int->Int->Int}
  (rule:∀ (i j:Int) (t u:Tok) (s:Shared) (Q:Value->Shared->Prop) (E:Value->Shared->Prop),Q (.int (g i j) s.toks) { s with toks:=s.toks+1 }->wpAny (model X.prog X.w) X.A (f (.int i t) (.int j u)) Q E s) :
  OpR X f (rI0 fun i j=>.int (g i j)):=by
 intro pins s σ H x y v u Q I rx ry h
 obtain⟨i,j,rfl,rfl,q⟩:=h
 obtain⟨t,rfl⟩:=rx
 obtain⟨t',rfl⟩:=ry
 exact rule i j t t' s _ _ ⟨.int (g i j),H,I.tok _,⟨_,rfl⟩,q⟩
theorem zHd {f:Value->Value->Sem Value}{g:Int->Int->Bool}
  (rule:∀ (i j:Int) (t u:Tok) (s:Shared) (Q:Value->Shared->Prop) (E:Value->Shared->Prop),Q (.bool (g i j)) s->wpAny (model X.prog X.w) X.A (f (.int i t) (.int j u)) Q E s) :
  OpR X f (rI0 fun i j=>.bl (g i j)):=by
 intro pins s σ H x y v u Q I rx ry h
 obtain⟨i,j,rfl,rfl,q⟩:=h
 obtain⟨t,rfl⟩:=rx
 obtain⟨t',rfl⟩:=ry
 exact rule i j t t' s _ _ ⟨.bl (g i j),H,I,rfl,q⟩
noncomputable def zMi (i j:Int):Prop:=0 < j/\j < 1073741824
noncomputable def zJ0 (i j:Int):Prop:=0 <= j/\j <= 1000000/\i.natAbs < 2 ^ 64
noncomputable def zEv (i j:Int):Prop:=(-(2 ^ 64) < i/\i < 2 ^ 64)\/(-(2 ^ 64) < j/\j < 2 ^ 64)
theorem zEv.ok {i j:Int} (h:zEv i j):IntMulOk i j:=by
 rcases h with ⟨h1,h2⟩ | ⟨h1,h2⟩
 ·exact .of_left (intBits_le_64 h1 h2)
 ·exact .of_right (intBits_le_64 h1 h2)
theorem zLU:OpR X (binaryOp .Add) (rI0 fun i j=>.int (i+j)):=zLO fun _ _ _ _ _ _ _ q=>add_int q
theorem zLB:OpR X (binaryOp .Sub) (rI0 fun i j=>.int (i - j)):=zLO fun _ _ _ _ _ _ _ q=>sub_int q
theorem zKx:OpR X (binaryOp .Mult) (rI zEv fun i j=>.int (i * j)):=opI fun _ _ _ _ _ _ _ hc q=>mul_int q hc.ok
theorem zJL:OpR X (binaryOp .FloorDiv) (rI zMi fun i j=>.int (i / j)):=opI fun i j _ _ _ _ _ hc q=>by
 have h1:(0:Int) < j:=hc.1
 have h2:j < 1073741824:=hc.2
 exact floordiv_int (by omega) (by rw[Int.fdiv_eq_ediv_of_nonneg i (by omega)];exact q) (.inl (PyProof.noPylong_small (by omega)))
theorem zJ2:OpR X (binaryOp .Mod) (rI (fun _ j=>0 < j) fun i j=>.int (i % j)):=opI fun i j _ _ _ _ _ hc q=>by
 have h1:(0:Int) < j:=hc
 exact mod_int' (by omega) (by rw[Int.fmod_eq_emod_of_nonneg i (by omega)];exact q)
theorem zGT:OpR X (binaryOp .Pow) (rI zJ0 fun i j=>.int (i ^ j.toNat)):=opI fun _ _ _ _ _ _ _ hc q=>pow_int_small hc.1 hc.2.1 hc.2.2 q
end
noncomputable def zBp:V->V->Bool
 | .non,.non=>true | .non,.int _=>true | .int _,.non=>true | .non,.bl _=>true | .bl _,.non=>true | .non,.str _=>true | .str _,.non=>true
 | .int _,.int _=>true | .bl _,.bl _=>true | .str _,.str _=>true | .byt _,.byt _=>true
 | .int _,.str _=>true | .str _,.int _=>true | .bl _,.str _=>true | .str _,.bl _=>true
 | _,_=>false
noncomputable def rEq:R2:=fun x y H Q=>zBp x y=true/\Q (.bl (decide (x=y))) H
noncomputable def rNe:R2:=fun x y H Q=>zBp x y=true/\Q (.bl (!decide (x=y))) H
theorem zEg {i j:Int}:decide (V.int i=V.int j)=(i == j):=by
 rw[Bool.eq_iff_iff]
 simp
theorem zF6 {i j:Bool}:decide (V.bl i=V.bl j)=(i == j):=by
 rw[Bool.eq_iff_iff]
 simp
theorem zEk {i j:Str}:decide (V.str i=V.str j)=(i == j):=by
 rw[Bool.eq_iff_iff]
 simp
theorem zEV {i j:Array UInt8}:decide (V.byt i=V.byt j)=(i.toList == j.toList):=by
 rw[Bool.eq_iff_iff]
 cases i
 cases j
 simp
section
variable {X:Cx}{a b c:Expr}{ta tb tc:TE}{pos:Pos}
theorem jA {pins:List (Addr×Obj)}{σ:St}{H:Hp}{s:Shared}{Q:VK}{k k':Bool} (I:Inv X pins σ H s) (q:Q (.bl k) H) (e:k=k'):EP X pins σ Q (.bool k') s:=by
 subst e
 exact⟨.bl k,H,I,rfl,q⟩
theorem zMG:OpR X (compareOp .Eq) rEq:=by
 intro pins s σ H x y v u Q I rx ry h
 obtain⟨hs,q⟩:=h
 cases x with
 | non =>
  cases rx
  cases y with
  | non=>cases ry;exact PySem.EqNone.eq_none_none (jA I q (by simp))
  | bl j=>cases ry;exact PySem.EqNone.eq_none_bool (jA I q (by simp))
  | int j=>obtain⟨t',rfl⟩:=ry;exact PySem.EqNone.eq_none_int (jA I q (by simp))
  | str j=>obtain⟨t',rfl⟩:=ry;exact PySem.EqNone.eq_none_str (jA I q (by simp))
  | _=>exact absurd (show false=true from hs) Bool.false_ne_true
 | bl i =>
  cases rx
  cases y with
  | non=>cases ry;exact PySem.EqNone.eq_bool_none (jA I q (by simp))
  | bl j=>cases ry;exact eq_bool (jA I q zF6)
  | str j=>obtain⟨t',rfl⟩:=ry;exact PySem.EqMixed.eq_bool_str (jA I q (by simp))
  | _=>exact absurd (show false=true from hs) Bool.false_ne_true
 | int i =>
  obtain⟨t,rfl⟩:=rx
  cases y with
  | non=>cases ry;exact PySem.EqNone.eq_int_none (jA I q (by simp))
  | int j=>obtain⟨t',rfl⟩:=ry;exact eq_int (jA I q zEg)
  | str j=>obtain⟨t',rfl⟩:=ry;exact PySem.EqMixed.eq_int_str (jA I q (by simp))
  | _=>exact absurd (show false=true from hs) Bool.false_ne_true
 | str i =>
  obtain⟨t,rfl⟩:=rx
  cases y with
  | non=>cases ry;exact PySem.EqNone.eq_str_none (jA I q (by simp))
  | bl j=>cases ry;exact PySem.EqMixed.eq_str_bool (jA I q (by simp))
  | int j=>obtain⟨t',rfl⟩:=ry;exact PySem.EqMixed.eq_str_int (jA I q (by simp))
  | str j=>obtain⟨t',rfl⟩:=ry;exact eq_str (jA I q zEk)
  | _=>exact absurd (show false=true from hs) Bool.false_ne_true
 | byt i =>
  obtain⟨t,rfl⟩:=rx
  cases y with
  | byt j=>obtain⟨t',rfl⟩:=ry;exact PySem.W.eq_bytes (jA I q zEV)
  | _=>exact absurd (show false=true from hs) Bool.false_ne_true
 | _=>cases y<;>exact absurd (show false=true from hs) Bool.false_ne_true
theorem zLz:OpR X (compareOp .NotEq) rNe:=by
 intro pins s σ H x y v u Q I rx ry h
 obtain⟨hs,q⟩:=h
 cases x with
 | non =>
  cases rx
  cases y with
  | non=>cases ry;exact PySem.EqNone.ne_none_none (jA I q (by simp))
  | bl j=>cases ry;exact PySem.EqNone.ne_none_bool (jA I q (by simp))
  | int j=>obtain⟨t',rfl⟩:=ry;exact PySem.EqNone.ne_none_int (jA I q (by simp))
  | str j=>obtain⟨t',rfl⟩:=ry;exact PySem.EqNone.ne_none_str (jA I q (by simp))
  | _=>exact absurd (show false=true from hs) Bool.false_ne_true
 | bl i =>
  cases rx
  cases y with
  | non=>cases ry;exact PySem.EqNone.ne_bool_none (jA I q (by simp))
  | bl j=>cases ry;exact ne_bool (jA I q (congrArg not zF6))
  | str j=>obtain⟨t',rfl⟩:=ry;exact PySem.EqMixed.ne_bool_str (jA I q (by simp))
  | _=>exact absurd (show false=true from hs) Bool.false_ne_true
 | int i =>
  obtain⟨t,rfl⟩:=rx
  cases y with
  | non=>cases ry;exact PySem.EqNone.ne_int_none (jA I q (by simp))
  | int j=>obtain⟨t',rfl⟩:=ry;exact ne_int (jA I q (congrArg not zEg))
  | str j=>obtain⟨t',rfl⟩:=ry;exact PySem.EqMixed.ne_int_str (jA I q (by simp))
  | _=>exact absurd (show false=true from hs) Bool.false_ne_true
 | str i =>
  obtain⟨t,rfl⟩:=rx
  cases y with
  | non=>cases ry;exact PySem.EqNone.ne_str_none (jA I q (by simp))
  | bl j=>cases ry;exact PySem.EqMixed.ne_str_bool (jA I q (by simp))
  | int j=>obtain⟨t',rfl⟩:=ry;exact PySem.EqMixed.ne_str_int (jA I q (by simp))
  | str j=>obtain⟨t',rfl⟩:=ry;exact ne_str (jA I q (congrArg not zEk))
  | _=>exact absurd (show false=true from hs) Bool.false_ne_true
 | byt i =>
  obtain⟨t,rfl⟩:=rx
  cases y with
  | byt j=>obtain⟨t',rfl⟩:=ry;exact PySem.W.ne_bytes (jA I q (congrArg not zEV))
  | _=>exact absurd (show false=true from hs) Bool.false_ne_true
 | _=>cases y<;>exact absurd (show false=true from hs) Bool.false_ne_true
theorem zMZ:OpR X (compareOp .Lt) (rI0 fun i j=>.bl (decide (i < j))):=zHd fun _ _ _ _ _ _ _ q=>lt_int q
theorem zMF:OpR X (compareOp .LtE) (rI0 fun i j=>.bl (decide (i <= j))):=zHd fun _ _ _ _ _ _ _ q=>le_int q
theorem zMH:OpR X (compareOp .Gt) (rI0 fun i j=>.bl (decide (j < i))):=zHd fun _ _ _ _ _ _ _ q=>gt_int q
theorem zGx:OpR X (compareOp .Lt) (fun x y H Q=>∃ i j,x=.str i/\y=.str j/\Q (.bl (decide (i.cps.toList < j.cps.toList))) H):=by
 intro pins s σ H x y v u Q I rx ry h
 obtain⟨i,j,rfl,rfl,q⟩:=h
 obtain⟨t,rfl⟩:=rx
 obtain⟨t',rfl⟩:=ry
 exact lt_str (jA I q rfl)
theorem zGo:OpR X (compareOp .In) (fun x y H Q=>∃ i j,x=.str i/\y=.str j/\Q (.bl (!(Builtin.Str.occurrences j i 0 j.length 1).isEmpty)) H):=by
 intro pins s σ H x y v u Q I rx ry h
 obtain⟨i,j,rfl,rfl,q⟩:=h
 obtain⟨t,rfl⟩:=rx
 obtain⟨t',rfl⟩:=ry
 exact in_str (jA I q rfl)
theorem zD9:OpR X (compareOp .NotIn) (fun x y H Q=>∃ i j,x=.str i/\y=.str j/\Q (.bl (!(!(Builtin.Str.occurrences j i 0 j.length 1).isEmpty))) H):=by
 intro pins s σ H x y v u Q I rx ry h
 obtain⟨i,j,rfl,rfl,q⟩:=h
 obtain⟨t,rfl⟩:=rx
 obtain⟨t',rfl⟩:=ry
 exact notIn_str (jA I q rfl)
theorem OpR.or {f:Value->Value->Sem Value}{r r':R2} (h:OpR X f r) (h':OpR X f r'):OpR X f (fun x y H Q=>r x y H Q\/r' x y H Q):=by
 intro pins s σ H x y v u Q I rx ry q
 rcases q with q | q
 ·exact h pins s σ H x y v u Q I rx ry q
 ·exact h' pins s σ H x y v u Q I rx ry q
theorem jr (b:Expr) {op:CmpOp} (h:op≠.In:=by decide) (h2:op≠.NotIn:=by decide):behindInMarks op b=false:=by
 have e1:(op == CmpOp.In)=false:=by cases op<;>first | rfl | exact absurd rfl h
 have e2:(op == CmpOp.NotIn)=false:=by cases op<;>first | rfl | exact absurd rfl h2
 cases b<;>simp[behindInMarks,e1,e2]
theorem zIo {op:CmpOp}{r:R2} (ho:OpR X (compareOp op) r) (ha:PE X a ta) (hb:PE X b tb) (hm:behindInMarks op b=false):PE X (.Compare a [op] [b] pos) (tOp r ta tb):=by
 intro pins s σ H Q I h
 exact wpAny_Compare1 (zH9 ha hb I h fun v u s2 x y H2 I2 rx ry q=>ho pins s2 σ H2 x y v u Q I2 rx ry q) hm
noncomputable def zMB (t:TE):TT:=fun σ H Q=>t σ H fun x H'=>∃ k,x=.bl k/\Q k H'
theorem zJq {op:CmpOp}{r:R2} (ho:OpR X (compareOp op) r) (ha:PE X a ta) (hb:PE X b tb) (hm:behindInMarks op b=false):PT X (.Compare a [op] [b] pos) (zMB (tOp r ta tb)):=by
 intro pins s σ H Q I h
 refine wpAny_isTrue_Compare1 (thn (ha pins s σ H _ I h) fun v s1 ⟨x,H1,I1,r1,q1⟩=>thn (hb pins s1 σ H1 _ I1 q1) fun u s2 ⟨y,H2,I2,r2,q2⟩ =>
  thn (ho pins s2 σ H2 x y v u _ I2 r1 r2 q2) fun c s3 ⟨z,H3,I3,r3,k,e,q3⟩=>?_) hm
 subst e
 cases r3
 exact wpAny_truthy_bool ⟨H3,I3,q3⟩
noncomputable def zKB (r r':R2) (ta tb tc:TE):TE:=fun σ H Q=>ta σ H fun x H1=>tb σ H1 fun y H2=>r x y H2 fun z H3=>∃ k,z=.bl k /\
 (if k=true then tc σ H3 fun w' H4=>r' y w' H4 Q else Q (.bl false) H3)
theorem zHQ {op op':CmpOp}{r r':R2} (ho:OpR X (compareOp op) r) (ho':OpR X (compareOp op') r') (ha:PE X a ta) (hb:PE X b tb) (hc:PE X c tc)
  (hm:lastMarks [op,op'] [b,c]=false:=by with_unfolding_all rfl):PE X (.Compare a [op,op'] [b,c] pos) (zKB r r' ta tb tc):=by
 intro pins s σ H Q I h
 refine Compare_chain (thn (ha pins s σ H _ I h) fun v s1 ⟨x,H1,I1,r1,q1⟩=>chain_link (thn (hb pins s1 σ H1 _ I1 q1) fun u s2 ⟨y,H2,I2,r2,q2⟩ =>
  thn (ho pins s2 σ H2 x y v u _ I2 r1 r2 q2) fun d s3 ⟨z,H3,I3,r3,k,e,q3⟩=>?_)) hm
 subst e
 cases r3
 refine wpAny_truthy_bool ?_
 cases k with
 | false=>exact ite_ff ⟨.bl false,H3,I3,rfl,q3⟩
 | true=>exact ite_tt (chain_last (thn (hc pins s3 σ H3 _ I3 q3) fun w' s4 ⟨z',H4,I4,r4,q4⟩=>ho' pins s4 σ H4 y z' u w' Q I4 r2 r4 q4))
noncomputable def zK0 (K:PySem.W.Frag) (x:V) (H:Hp) (k:Bool):Prop :=
 match x with
 | .non=>k=false
 | .bl b=>k=b
 | .int i=>k=(i != 0)
 | .str y=>y.length <= sizeLine/\k=((y.length:Int) != 0)
 | .byt y=>y.size <= sizeLine/\k=((y.size:Int) != 0)
 | .ref p=>(∃ xs,SqL K H p xs/\k = !xs.isEmpty)\/(∃ xs,SqT K H p xs/\k = !xs.isEmpty)\/∃ kvs,H p=some (.dK kvs)/\k = !kvs.isEmpty
 | _=>False
theorem zEw {κ:Type}{kvs:List (κ×V)}{vs:List (κ×Value)} (r:KV kvs vs):(!vs.isEmpty) = !kvs.isEmpty:=by
 cases r<;>rfl
theorem zBG {xs:List V}{its:List Value} (r:zY xs its):(!its.toArray.isEmpty) = !xs.isEmpty:=by
 cases r<;>simp
theorem Z2:(sizeLine:Nat) < 2 ^ 63:=by rw[sizeLine_eq];decide
theorem zJw:zMw X (fun x H Q=>∃ k,zK0 X.K x H k/\Q k H):=by
 intro pins s σ H x v Q I rx h
 obtain⟨k,e,q⟩:=h
 have hl:=Z2
 have hs:sizeLine=16777216:=sizeLine_eq
 cases x with
 | non =>
  cases rx
  have e':k=false:=e
  subst e'
  exact truthy_none ⟨H,I,q⟩
 | bl b =>
  cases rx
  have e':k=b:=e
  subst e'
  exact wpAny_truthy_bool ⟨H,I,q⟩
 | int i =>
  obtain⟨t,rfl⟩:=rx
  have e':k=(i != 0):=e
  subst e'
  exact PySem.P.truthy_int ⟨H,I,q⟩
 | str y =>
  obtain⟨t,rfl⟩:=rx
  obtain⟨hy,e'⟩:y.length <= sizeLine/\k=((y.length:Int) != 0):=e
  subst e'
  exact PySem.P.truthy_str (by omega) ⟨H,I.tok _,q⟩
 | byt y =>
  obtain⟨t,rfl⟩:=rx
  obtain⟨hy,e'⟩:y.size <= sizeLine/\k=((y.size:Int) != 0):=e
  subst e'
  exact PySem.W.truthy_bytes (by omega) ⟨H,I.tok _,q⟩
 | ref p =>
  cases rx
  have e':(∃ xs,SqL X.K H p xs/\k = !xs.isEmpty)\/(∃ xs,SqT X.K H p xs/\k = !xs.isEmpty)\/∃ kvs,H p=some (.dK kvs)/\k = !kvs.isEmpty:=e
  rcases e' with ⟨xs,hx,e'⟩ | ⟨xs,hx,e'⟩ | ⟨kvs,hx,e'⟩
  ·subst e'
   obtain⟨its,r,pl,hz⟩:=I.list hx
   have hlen:=r.length
   exact wpAny_truthy_list pl.isList (by simp only[List.size_toArray];omega) ⟨H,I.tok _,by rw[zBG r];exact q⟩
  ·subst e'
   obtain⟨its,r,pl,hz⟩:=I.tuple hx
   have hlen:=r.length
   exact truthy_tuple pl (by simp only[List.size_toArray];omega) ⟨H,I.tok _,by rw[zBG r];exact q⟩
  ·subst e'
   obtain⟨hz,hS,vs,r,m⟩:kvs.length <= sizeLine/\(p == sysModules)=false/\∃ vs,KV kvs vs/\s.heap.DictOf (j2 X.prog X.w) p vs:=I.hok p _ hx
   have hlen:kvs.length=vs.length:=Paired.length r
   exact wpAny_truthy_dict hS m (by omega) ⟨H,I.tok _,by rw[zEw r];exact q⟩
 | _=>exact (show False from e).elim
theorem zHM (ha:PE X a ta) (he:∀ whole,isTrue a X.env whole=(do let v <- whole;standAt a.pos;holding [v] (truthy v))) :
  PT X a (fun σ H Q=>ta σ H fun x H'=>∃ k,zK0 X.K x H' k/\Q k H'):=by
 intro pins s σ H Q I h
 exact isTrue_plain (thn (ha pins s σ H _ I h) fun v s1 ⟨x,H1,I1,r1,q1⟩=>zJw pins s1 σ H1 x v Q I1 r1 q1) (he _)
theorem zFb:OpR X (binaryOp .Add) (fun x y H Q=>∃ i j,x=.str i/\y=.str j/\i.length+j.length <= sizeLine/\Q (.str (i++j)) H):=by
 intro pins s σ H x y v u Q I rx ry h
 obtain⟨i,j,rfl,rfl,hz,q⟩:=h
 obtain⟨t,rfl⟩:=rx
 obtain⟨t',rfl⟩:=ry
 exact wpAny_with_toks (n:=1) I.tk (add_str (fun t' tk htk=>⟨.str (i++j),H,I.tok _ htk,⟨_,rfl⟩,q⟩) hz)
theorem yd {x:V}{us:List Value} (r:zY [x] us):∃ u,us=[u]/\zZ x u:=by
 cases r with
 | cons r1 r2=>cases r2;exact⟨_,rfl,r1⟩
theorem zLt {x y:V}{us:List Value} (r:zY [x,y] us):∃ u w',us=[u,w']/\zZ x u/\zZ y w':=by
 cases r with
 | cons r1 r2 =>
  cases r2 with
  | cons r3 r4=>cases r4;exact⟨_,_,rfl,r1,r3⟩
theorem zGf:jh X (.type "int") (fun xs H Q=>(∃ i,xs=[.int i]/\Q (.int i) H)\/∃ k,xs=[.bl k]/\Q (.int (if k then 1 else 0)) H):=by
 intro pins s σ H xs us Q I r h
 rcases h with ⟨i,rfl,q⟩ | ⟨k,rfl,q⟩
 ·obtain⟨u,rfl,t,rfl⟩:=yd r
  exact call_int_int ⟨.int i,H,I,⟨_,rfl⟩,q⟩
 ·obtain⟨u,rfl,r1⟩:=yd r
  cases r1
  exact call_int_bool ⟨.int (if k then 1 else 0),H,I.tok _,⟨_,rfl⟩,q⟩
theorem zDx:jh X (.type "str") (fun xs H Q=>∃ i,xs=[.int i]/\i.natAbs.log2 < 1920/\Q (.str (toString i)) H):=by
 intro pins s σ H xs us Q I r h
 obtain⟨i,rfl,hz,q⟩:=h
 obtain⟨u,rfl,t,rfl⟩:=yd r
 exact PySem.P.str_of_int hz ⟨.str _,H,I.tok _,⟨_,rfl⟩,q⟩
end
end L2
namespace L2
open PySem PySem.Spec PyProof.Rows
structure zAY (h:Heap) (x dx C:Addr) (mA:Str->Option Value):Prop where
 obj:h.get? x=some (PySem.W.instObj C dx)
 ns:h.Ns1 dx mA
 ne:dx≠x
theorem zG0 {h:Heap}{dx:Addr}{mA:Str->Option Value} (n:h.Ns1 dx mA):∃ od,h.get? dx=some od/\∀ name,PySem.W.lookIn name od=some (mA name):=by
 obtain⟨o,es,ep,ho,hd,hk,_,hm⟩:=n
 refine⟨o,ho,fun name=>?_⟩
 have e:=hm name
 unfold nsFind findBy at e
 rw[<- Array.find?_toList] at e
 unfold PySem.W.lookIn
 rw[hd]
 dsimp only
 split
 ·rename_i y q
  rw[q] at e
  exact congrArg some e
 ·rename_i q
  rw[q] at e
  have a:es.toList.any (·.refKey)=false:=by
   rw[List.any_eq_false]
   intro y hy
   obtain⟨z,t,hkey⟩:=hk y (Array.mem_toList_iff.mp hy)
   simp[DictEntry.refKey,hkey]
  have a':¬ es.toList.any (·.refKey)=true:=by rw[a];exact Bool.false_ne_true
  rw[if_neg a']
  exact congrArg some e
theorem zAY.look {h:Heap}{x dx C:Addr}{mA:Str->Option Value} (I:zAY h x dx C mA):∃ od,PySem.W.InstAt h x (PySem.W.instObj C dx) C (some od)/\∀ name,PySem.W.lookIn name od=some (mA name) :=
 let ⟨od,ho,hl⟩:=zG0 I.ns
 ⟨od,⟨I.obj,rfl,rfl,ho⟩,hl⟩
section
variable {prog:Program}{w:World}{A:Around}{E:Value->Shared->Prop}{s:Shared}{K:PySem.W.Frag}{x dx C f:Addr}{mA:Str->Option Value}{name:Str}{v:Value}
theorem zJP {expr:Bool}{Q:Value->Shared->Prop} (X:K.In s.heap) (I:zAY s.heap x dx C mA) (hg:PySem.W.plainGet K C name=true) (hh:PySem.W.hasDictIn K C=true)
  (ha:PySem.W.findIn K (.ref C) name=some none) (hv:mA name=some v) (hv':PySem.W.handedIn v=true) (h:Q v { s with toks:=s.toks+1 }) :
  wpAny (model prog w) A (getAttr (.ref x) name expr) Q E s:=by
 obtain⟨od,J,hl⟩:=I.look
 exact PySem.W.get_value X J (PySem.W.plainGet_of hg).1 (PySem.W.findObj_own hh ha rfl (by rw[hl,hv])) hv' h
theorem zG9 {pl:Sem Bool}{Q:Value×List Value->Shared->Prop} (X:K.In s.heap) (I:zAY s.heap x dx C mA) (hg:PySem.W.plainGet K C name=true)
  (hf:PySem.W.findIn K (.ref C) name=some (some (.ref f))) (ht:PySem.W.isFn K (.ref f)=true) (hv:mA name=none) (h:Q (.ref f,[.ref x]) s) :
  wpAny (model prog w) A (getMethod (.ref x) name pl) Q E s:=by
 obtain⟨od,J,hl⟩:=I.look
 exact PySem.W.method_fn X J (PySem.W.plainGet_of hg).1 (PySem.W.plainGet_of hg).2 hf (beq_iff_eq.mp ht) (by show (PySem.W.lookIn name od).map (·.isSome)=some false;rw[hl,hv];rfl) h
theorem zIx {ns:List Str}{Q:Unit->Shared->Prop} (X:K.In s.heap) (I:zAY s.heap x dx C mA)
  (hs:PySem.W.findIn K (.ref C) "__setattr__" = some (some (.builtin "object.__setattr__"))) (hp:PySem.W.plainOver K C=true) (ht:PySem.W.takerIn K C name=some none) (hh:PySem.W.hasDictIn K C=true)
  (hw:PySem.Within mA ns) (hsz:ns.length <= sizeLine)
  (h:∀ h',zAY h' x dx C (fun y=>if y=name then some v else mA y)->Heap.SameBut dx s.heap h'->Q () { s with heap:=h',toks:=s.toks+2 }) :
  wpAny (model prog w) A (setAttr (.ref x) name v) Q E s:=by
 obtain⟨od,J,hl⟩:=I.look
 refine PySem.W.set_plain X J hs (PySem.W.osa_open (s:={ s with toks:=s.toks+1 }) (r:=none) X J hp ht fun b=>?_)
 obtain⟨cd,hc,hd'⟩:=PySem.W.any_some hh
 have hx:s.heap.get? x=some ⟨.ref C,some dx,.plain,#[]⟩:=I.obj
 refine wpAny_bind (wpAny_pure (wpAny_bind (wpAny_bind (wpAny_loadPart hx (wpAny_bind (PySem.W.Looks.here (s:={ s with toks:=s.toks+1 }) (PySem.W.looks_clsIn X hc) ?_))))))
 rw[hd']
 refine wpAny_pure (a:=some dx) (wpAny_bind (wpAny_pure (wpAny_bind ?_)))
 refine wpAny_nsSet1 (s:={ s with toks:=s.toks+1 }) I.ns fun h' hn2 hs2=>?_
 obtain⟨oD,esD,epD,hoD,hdD,hcD⟩:=hn2.count (PySem.Within.cons name v hw)
 refine wpAny_bind (wpAny_lookBehind hoD (by rw[hdD];exact pastItsLine_dict (Nat.le_trans hcD (by rw[List.length_cons];omega))) ?_)
 exact wpAny_pure (h _ ⟨(hs2.2 _ (Ne.symm I.ne)).trans I.obj,hn2,I.ne⟩ hs2)
theorem zIC {R:Result->Shared->Prop}{vs:List Value}{kw:List (Str×Value)} (X:K.In s.heap) (hm:PySem.W.makesIn K C=true)
  (hi:PySem.W.findIn K (.ref C) "__init__" = some (some (.ref f))) (hf:PySem.W.typeIn K (.ref f)=some (.type "function"))
  (h:codeAny (model prog w) (A.under (.builtin "type.__call__" ⟨.ref C::vs,kw⟩)) (.call (.ref f) ⟨.ref (s.heap.objs.size+1)::vs,kw⟩) (PySem.W.InitBack (s.heap.objs.size+1) R)
   { s with heap:=(s.heap.push PySem.W.emptyDict).push (PySem.W.instObj C s.heap.objs.size) }) :
  codeAny (model prog w) A (.call (.ref C) ⟨vs,kw⟩) R s:=by
 obtain⟨hh,g,d,t,os⟩:=s
 exact PySem.W.make_core (PySem.W.makes_of X hm) (PySem.W.looks_findIn X hi) (fun self=>PySem.W.bind_fn X self hf) (.inl rfl) h
end
noncomputable def qC (f:Str) (v:V):List (Str×V)->List (Str×V)
 | []=>[(f,v)]
 | (g,x)::r=>if g=f then (g,v)::r else (g,x)::qC f v r
theorem Ql (f g:Str) (v:V):∀ fs:List (Str×V),(qC f v fs).lookup g=if g=f then some v else fs.lookup g
 | []=>by
  show List.lookup g [(f,v)]=_
  by_cases h:g=f
  ·have hb:(g == f)=true:=beq_iff_eq.mpr h
   simp only[List.lookup,hb,if_pos h]
  ·have hb:(g == f)=false:=beq_eq_false_iff_ne.mpr h
   simp only[List.lookup,hb,if_neg h]
 | (k,x)::r=>by
  have ih:=Ql f g v r
  rw[show qC f v ((k,x)::r)=(if k=f then (k,v)::r else (k,x)::qC f v r) from rfl]
  by_cases hk:k=f
  ·rw[if_pos hk]
   by_cases h:g=k
   ·have hb:(g == k)=true:=beq_iff_eq.mpr h
    simp only[List.lookup,hb,if_pos (h.trans hk)]
   ·have hb:(g == k)=false:=beq_eq_false_iff_ne.mpr h
    simp only[List.lookup,hb,if_neg (fun e:g=f=>h (e.trans hk.symm))]
  ·rw[if_neg hk]
   by_cases h:g=k
   ·have hb:(g == k)=true:=beq_iff_eq.mpr h
    simp only[List.lookup,hb,if_neg (fun e:g=f=>hk (h.symm.trans e))]
   ·have hb:(g == k)=false:=beq_eq_false_iff_ne.mpr h
    simp only[List.lookup,hb]
    exact ih
theorem Jw (f:Str) (v:V):∀ fs:List (Str×V),f∈(qC f v fs).map (·.1)/\∀ g,g∈fs.map (·.1)->g∈(qC f v fs).map (·.1)
 | []=>⟨by simp[qC],fun g h=>by simp at h⟩
 | (k,x)::r=>by
  obtain⟨i1,i2⟩:=Jw f v r
  rw[show qC f v ((k,x)::r)=(if k=f then (k,v)::r else (k,x)::qC f v r) from rfl]
  by_cases hk:k=f
  ·rw[if_pos hk]
   subst hk
   exact⟨by simp,fun g h=>by simpa using h⟩
  ·rw[if_neg hk]
   refine⟨?_,fun g h=>?_⟩
   ·rw[List.map_cons]
    exact List.mem_cons_of_mem _ i1
   ·rw[List.map_cons] at h ⊢
    rcases List.mem_cons.mp h with e | e
    ·exact List.mem_cons.mpr (.inl e)
    ·exact List.mem_cons_of_mem _ (i2 g e)
theorem zAJ (f:Str) (v:V):∀ fs:List (Str×V),(qC f v fs).length <= fs.length+1
 | []=>by simp[qC]
 | (k,x)::r=>by
  have ih:=zAJ f v r
  rw[show qC f v ((k,x)::r)=(if k=f then (k,v)::r else (k,x)::qC f v r) from rfl]
  by_cases hk:k=f
  ·rw[if_pos hk,List.length_cons,List.length_cons];omega
  ·rw[if_neg hk,List.length_cons,List.length_cons];omega
theorem yn.some_of {v:V}{o:Option Value} (r:yn (some v) o):∃ u,o=some u/\zZ v u:=by
 cases o with
 | none=>exact (show False from r).elim
 | some u=>exact⟨u,rfl,r⟩
theorem yn.none_of {o:Option Value} (r:yn none o):o=none:=by
 cases o with
 | none=>rfl
 | some u=>exact (show False from r).elim
theorem zGt {v:V}{u:Value} (r:zZ v u):PySem.W.handedIn u=true:=by
 cases v with
 | non=>cases (show u=Value.none from r);rfl
 | bl b=>cases (show u=Value.bool b from r);rfl
 | int i=>obtain⟨t,e⟩:=(show ∃ t,u=Value.int i t from r);cases e;rfl
 | str x=>obtain⟨t,e⟩:=(show ∃ t,u=Value.str x t from r);cases e;rfl
 | byt b=>obtain⟨t,e⟩:=(show ∃ t,u=Value.bytes b t from r);cases e;rfl
 | flt b=>obtain⟨t,e⟩:=(show ∃ t,u=Value.float b t from r);cases e;rfl
 | ref a=>cases (show u=Value.ref a from r);rfl
 | ty n=>cases (show u=Value.type n from r);rfl
section
variable {P:Program}{w:World}{H H':Hp}{h h':Heap}{a C dx:Addr}{fs fs':List (Str×V)}
theorem Jy (hok:HOk P w H h) (e:H a=some (.ins C dx fs)):∃ mA,zAY h a dx C mA/\(∀ f,yn (fs.lookup f) (mA f))/\PySem.Within mA (fs.map (·.1))/\fs.length <= 1000/\H dx=some (.own a):=by
 obtain⟨d,z,ne,ob,mA,n,r,q⟩:=(show jK P w H h a (.ins C dx fs) from hok a _ e)
 exact⟨mA,⟨ob,n,ne⟩,r,q,z,d⟩
end
structure Cls (K:PySem.W.Frag) (C:Addr):Prop where
 pg:PySem.W.plainGet K C Str.empty=true
 hd:PySem.W.hasDictIn K C=true
 po:PySem.W.plainOver K C=true
 sa:PySem.W.findIn K (.ref C) "__setattr__" = some (some (.builtin "object.__setattr__"))
theorem Cls.get {K:PySem.W.Frag}{C:Addr} (c:Cls K C) (f:Str):PySem.W.plainGet K C f=true:=c.pg
noncomputable def Z5 (K:PySem.W.Frag) (C:Addr) (f:Str):Prop:=PySem.W.findIn K (.ref C) f=some none
theorem Z5.taker {K:PySem.W.Frag}{C:Addr}{f:Str} (n:Z5 K C f):PySem.W.takerIn K C f=some none:=by
 unfold PySem.W.takerIn
 rw[show PySem.W.findIn K (.ref C) f=some none from n]
 rfl
structure Con (K:PySem.W.Frag) (C:Addr) (f:Str) (v:V) (u:Value):Prop where
 at_:PySem.W.findIn K (.ref C) f=some (some u)
 rel:zZ v u
 get:PySem.W.specialIn K u "__get__" = some none
 cp:PySem.W.copiedNames.contains f=false
structure zHy (K:PySem.W.Frag) (C:Addr) (m:Str) (f:Addr):Prop where
 at_:PySem.W.findIn K (.ref C) m=some (some (.ref f))
 fn:PySem.W.isFn K (.ref f)=true
 kp:PySem.W.keepIn K (.ref f)=true
section
variable {X:Cx}{pins:List (Addr×Obj)}{σ:St}{H:Hp}{s:Shared}{a C dx:Addr}{fs:List (Str×V)}{f:Str}{v:V}{A:Around}{E:Value->Shared->Prop}
theorem zE2 {b:Bool}{Q:Value->Shared->Prop} (I:Inv X pins σ H s) (e:H a=some (.ins C dx fs)) (c:Cls X.K C) (n:Z5 X.K C f) (l:fs.lookup f=some v)
  (h:∀ u s',Inv X pins σ H s'->zZ v u->Q u s'):wpAny (model X.prog X.w) A (getAttr (.ref a) f b) Q E s:=by
 obtain⟨mA,O,r,_,_,_⟩:=Jy I.hok e
 obtain⟨u,hu,ru⟩:=yn.some_of (v:=v) (o:=mA f) (by rw[<- l];exact r f)
 exact zJP I.kIn O (c.get f) c.hd n hu (zGt ru) (h u _ (I.tok _) ru)
theorem zFW {m:Str}{g:Addr}{pl:Sem Bool}{Q:Value×List Value->Shared->Prop} (I:Inv X pins σ H s) (e:H a=some (.ins C dx fs)) (c:Cls X.K C) (k:zHy X.K C m g) (l:fs.lookup m=none)
  (h:Q (.ref g,[.ref a]) s):wpAny (model X.prog X.w) A (getMethod (.ref a) m pl) Q E s:=by
 obtain⟨mA,O,r,_,_,_⟩:=Jy I.hok e
 have hn:mA m=none:=yn.none_of (by rw[<- l];exact r m)
 exact zG9 I.kIn O (c.get m) k.at_ k.fn hn h
theorem zFQ {y:V}{u:Value}{Q:Unit->Shared->Prop} (I:Inv X pins σ H s) (e:H a=some (.ins C dx fs)) (c:Cls X.K C) (n:Z5 X.K C f) (hl:fs.length < 1000) (ry:zZ y u)
  (h:∀ s',Inv X pins σ (upd H a (.ins C dx (qC f y fs))) s'->Q () s'):wpAny (model X.prog X.w) A (setAttr (.ref a) f u) Q E s:=by
 obtain⟨mA,O,r,wi,_,ho⟩:=Jy I.hok e
 have hz:(fs.map (·.1)).length <= sizeLine:=by rw[List.length_map,sizeLine_eq];omega
 refine zIx I.kIn O c.sa c.po n.taker c.hd wi hz fun h' O' sb=>h _ ?_
 have hd:∃ o,h'.get? dx=some o:=let ⟨o,_,_,e',_⟩:=O'.ns;⟨o,e'⟩
 refine I.write (x:=a) (e:=dx) (by rw[e];exact True.intro) (.inr ho) (fun b q hb z=>(sb.2 b hb).trans z) hd ?_
 refine⟨by rw[zU O.ne];exact ho,?_,O.ne,O'.obj,_,O'.ns,fun g=>?_,fun g hg=>?_⟩
 ·have:=zAJ f y fs;omega
 ·show yn ((qC f y fs).lookup g) (if g=f then some u else mA g)
  rw[Ql]
  by_cases q:g=f
  ·rw[if_pos q,if_pos q];exact ry
  ·rw[if_neg q,if_neg q];exact r g
 ·by_cases q:g=f
  ·rw[q];exact (Jw f y fs).1
  ·refine (Jw f y fs).2 g (wi g fun z=>hg ?_)
   show (if g=f then some u else mA g)=none
   rw[if_neg q];exact z
theorem Inv.made (I:Inv X pins σ H s):Inv X pins σ (upd (upd H s.heap.objs.size (.own (s.heap.objs.size+1))) (s.heap.objs.size+1) (.ins C s.heap.objs.size []))
  { s with heap:=(s.heap.push PySem.W.emptyDict).push (PySem.W.instObj C s.heap.objs.size) }:=by
 have e1:(s.heap.push PySem.W.emptyDict).get? s.heap.objs.size=some PySem.W.emptyDict:=Heap.get?_push_size s.heap rfl
 have e2:((s.heap.push PySem.W.emptyDict).push (PySem.W.instObj C s.heap.objs.size)).get? (s.heap.objs.size+1)=some (PySem.W.instObj C s.heap.objs.size):=by
  have:=Heap.get?_push_size (s.heap.push PySem.W.emptyDict) (o:=PySem.W.instObj C s.heap.objs.size) rfl
  rwa [Heap.size_push] at this
 have e3:(s.heap.push PySem.W.emptyDict).Ns s.heap.objs.size (fun _=>none):=⟨PySem.W.emptyDict,#[],_,e1,rfl,(fun e he=>absurd he (by simp)),fun _=>rfl⟩
 have I1:=I.laid (a:=s.heap.objs.size) (o:=.own (s.heap.objs.size+1)) (h':=s.heap.push PySem.W.emptyDict) (t':=s.toks) (fun b u q=>Heap.get?_push_of_some _ q) (Nat.le_refl _) ⟨_,e1⟩
 refine I1.laid (a:=s.heap.objs.size+1) (o:=.ins C s.heap.objs.size []) (t':=s.toks) (fun b u q=>Heap.get?_push_of_some _ q) (Nat.le_of_eq (Heap.size_push _ _)) ?_
 have ne:s.heap.objs.size≠s.heap.objs.size+1:=Nat.ne_of_lt (Nat.lt_succ_self _)
 refine⟨by rw[zU ne,jB],Nat.zero_le _,ne,e2,fun _=>none,(Heap.Ns1.of_empty e3).at fun o q=>Heap.get?_push_of_some _ q,fun _=>True.intro,fun y hy=>absurd rfl hy⟩
theorem zJU {prog:Program}{w:World}{env:Env}{e:Expr}{f:Str}{pos:Pos}{s:Shared}{Q:Value->Shared->Prop} (hb:attributeBase e f env (eval e env)=eval e env)
  (h:wpAny (model prog w) A (eval e env) (fun o s₁=>wpAny (model prog w) A (getAttr o f true) Q E s₁) E s):wpAny (model prog w) A (eval (.Attribute e f pos) env) Q E s :=
 Attribute_any_ h (by rw[arm_eval_Attribute,hb])
end
noncomputable def zMp (K:PySem.W.Frag) (ta:TE) (f:Str):TE:=fun σ H Q=>ta σ H fun x H1=>∃ a C dx fs v,x=.ref a/\H1 a=some (.ins C dx fs)/\Cls K C/\Z5 K C f/\fs.lookup f=some v/\Q v H1
noncomputable def zBc (K:PySem.W.Frag) (ta tv:TE) (f:Str):TS:=fun D σ H=>tv σ H fun y H1=>ta σ H1 fun x H2=>∃ a C dx fs,x=.ref a/\H2 a=some (.ins C dx fs)/\Cls K C/\Z5 K C f/\fs.length < 1000 /\
 D.nx σ (upd H2 a (.ins C dx (qC f y fs)))
section
variable {X:Cx}{o e value:Expr}{f:Str}{pos pos' tpos:Pos}{ta tv:TE}
theorem zKe (he:PE X e ta) (hb:attributeBase e f X.env (eval e X.env)=eval e X.env):PE X (.Attribute e f pos) (zMp X.K ta f):=by
 intro pins s σ H Q I h
 refine zJU hb (thn (he pins s σ H _ I h) fun u s1 ⟨x,H1,I1,rx,a,C,dx,fs,v,ex,ea,c,n,l,q⟩=>?_)
 subst ex
 obtain rfl:u=Value.ref a:=rx
 exact zE2 I1 ea c n l fun u' s2 I2 ru=>⟨v,H1,I2,ru,q⟩
theorem zKz (ha:PE X o ta) (hv:PE X value tv) (hs:swapsWith value (some (.Attribute o f pos')) pos.line X.env=pure false):PS X (.Assign [.Attribute o f pos'] value pos) (zBc X.K ta tv f):=by
 intro pins s σ H D I h
 refine plainObj_wpAny_Assign_Attribute (thn (hv pins s σ H _ I h) fun u s1 ⟨y,H1,I1,ry,q⟩=>thn (ha pins s1 σ H1 _ I1 q) fun ov s2 ⟨x,H2,I2,rx,a,C,dx,fs,ex,ea,c,n,l,q2⟩=>?_) hs
 subst ex
 obtain rfl:ov=Value.ref a:=rx
 exact zFQ I2 ea c n l ry fun s3 I3=>⟨σ,_,I3,q2⟩
end
section
variable {X:Cx}{pins:List (Addr×Obj)}{σ:St}{H:Hp}{s:Shared}{A:Around}{E:Value->Shared->Prop}{Q:Value->Shared->Prop}{c:Value}{b:Bool}
inductive ZV (K:PySem.W.Frag) (H:Hp):V->Value->Prop where
 | non:ZV K H .non (.type "NoneType")
 | bl (x:Bool):ZV K H (.bl x) (.type "bool")
 | int (i:Int):ZV K H (.int i) (.type "int")
 | str (x:Str):ZV K H (.str x) (.type "str")
 | flt (x:UInt64):ZV K H (.flt x) (.type "float")
 | lst {a:Addr}{xs:List V} (e:H a=some (.lst xs)):ZV K H (.ref a) (.type "list")
 | frz {a:Addr}{o:Obj}{xs:List V} (e:H a=some (.frz o (.lst xs))):ZV K H (.ref a) (.type "list")
 | tup {a:Addr}{xs:List V} (e:H a=some (.tup xs)):ZV K H (.ref a) (.type "tuple")
 | dK {a:Addr}{kvs:List (Key×V)} (e:H a=some (.dK kvs)):ZV K H (.ref a) (.type "dict")
 | dT {a:Addr}{kvs:List (List Key×V)} (e:H a=some (.dT kvs)):ZV K H (.ref a) (.type "dict")
 | ins {a C dx:Addr}{fs:List (Str×V)} (e:H a=some (.ins C dx fs)) (cl:Cls K C) (ha:PySem.W.findIn K (.ref C) "__class__" = some (some (.builtin "object.__class__")))
   (hn:PySem.W.specialIn K (.builtin "object.__class__") "__get__" = some (some (.builtin "getset_descriptor.__get__"))) (htk:PySem.W.takesIn K (.builtin "object.__class__")=some true)
   (hm:PySem.W.mroIn K C (.type "object")=some true):ZV K H (.ref a) (.ref C)
theorem zFn {x:V}{u t:Value} (I:Inv X pins σ H s) (rx:zZ x u) (ty:ZV X.K H x t) (e:PySem.W.kitOne X.K t c=some b) (h:∀ tk,Q (.bool b) { s with toks:=tk }) :
  wpAny (model X.prog X.w) A (call (.builtin "isinstance") [u,c]) Q E s:=by
 cases ty with
 | non=>cases (show u=Value.none from rx);exact PySem.W.kia_one PySem.W.kitx_none I.kIn True.intro e (fun z=>nomatch z) h
 | bl y=>cases (show u=Value.bool y from rx);exact PySem.W.kia_one PySem.W.kitx_bool I.kIn True.intro e (fun z=>nomatch z) h
 | int i=>obtain⟨t,q⟩:=(show ∃ t,u=Value.int i t from rx);cases q;exact PySem.W.kia_one PySem.W.kitx_int I.kIn True.intro e (fun z=>nomatch z) h
 | str y=>obtain⟨t,q⟩:=(show ∃ t,u=Value.str y t from rx);cases q;exact PySem.W.kia_one PySem.W.kitx_str I.kIn True.intro e (fun z=>nomatch z) h
 | flt y=>obtain⟨t,q⟩:=(show ∃ t,u=Value.float y t from rx);cases q;exact PySem.W.kia_one PySem.W.kitx_float I.kIn True.intro e (fun z=>nomatch z) h
 | @lst a xs ea =>
  cases (show u=Value.ref a from rx)
  obtain⟨_,_,n,_,h1⟩:=(show jK X.prog X.w H s.heap a (.lst xs) from I.hok a _ ea)
  exact PySem.W.kia_one PySem.W.kitx_list I.kIn ⟨_,h1,rfl⟩ e (fun z=>nomatch z) h
 | @frz a ob xs ea =>
  cases (show u=Value.ref a from rx)
  obtain⟨_,_,_,n,_,h1⟩:=(show jK X.prog X.w H s.heap a (.frz ob (.lst xs)) from I.hok a _ ea)
  exact PySem.W.kia_one PySem.W.kitx_list I.kIn ⟨_,h1,rfl⟩ e (fun z=>nomatch z) h
 | @tup a xs ea =>
  cases (show u=Value.ref a from rx)
  obtain⟨_,_,_,p⟩:=(show jK X.prog X.w H s.heap a (.tup xs) from I.hok a _ ea)
  obtain⟨o,h1,h2,_⟩:=p
  exact PySem.W.kia_one PySem.W.kitx_tuple I.kIn ⟨o,h1,h2⟩ e (fun z=>nomatch z) h
 | @dK a kvs ea =>
  cases (show u=Value.ref a from rx)
  obtain⟨_,_,vs,_,p⟩:=(show jK X.prog X.w H s.heap a (.dK kvs) from I.hok a _ ea)
  obtain⟨o,es,ep,h1,h2,_⟩:=p
  exact PySem.W.kia_one PySem.W.kitx_dict I.kIn ⟨o,h1,h2.1⟩ e (fun z=>nomatch z) h
 | @dT a kvs ea =>
  cases (show u=Value.ref a from rx)
  obtain⟨_,_,xs,_,o,es,ep,h1,h2,_⟩:=(show jK X.prog X.w H s.heap a (.dT kvs) from I.hok a _ ea)
  exact PySem.W.kia_one PySem.W.kitx_dict I.kIn ⟨o,h1,h2.1⟩ e (fun z=>nomatch z) h
 | @ins a C dx fs ea cl ha hn htk hm =>
  cases (show u=Value.ref a from rx)
  obtain⟨mA,O,_⟩:=Jy I.hok ea
  obtain⟨od,J,_⟩:=O.look
  exact PySem.W.kia_one (PySem.W.kitx_own (cl.get _) cl.hd ha hn htk hm) I.kIn J e (fun z=>nomatch z) h
end
end L2
namespace L2
open PySem PySem.Spec PyProof.Rows
structure z4 (k:Nat) (A:Around):Prop where
 hd:A.handled=none
 dp:A.depth+3 * k+5 < recursionLimit
 un:A.units+16 * k+200 < cLine
theorem z4.mono {j k:Nat}{A:Around} (r:z4 k A) (h:j <= k):z4 j A:=⟨r.hd,by have:=r.dp;omega,by have:=r.un;omega⟩
theorem z4.deeper {k:Nat}{A:Around} (r:z4 (k+1) A) (env:Env):z4 k (A.deeper env) :=
 ⟨r.hd,by have:=r.dp;show A.depth+1+3 * k+5 < _;omega,by have:=r.un;show A.units+3+16 * k+200 < _;omega⟩
theorem zE1 {A:Around}{C:Addr}{us:List Value}{kw:List (Str×Value)}:(A.under (.builtin "type.__call__" ⟨.ref C::us,kw⟩)).depth=A.depth+1:=by
 first | rfl | simp[Around.under,Code.weight,Code.isCreation,Code.isGuard,Code.isCaller,Code.frames,Code.isFrame,guardIds]
theorem zFY {A:Around}{C:Addr}{us:List Value}{kw:List (Str×Value)}:(A.under (.builtin "type.__call__" ⟨.ref C::us,kw⟩)).units=A.units+1:=by
 first | rfl | simp[Around.under,Code.cUnits,Code.frames,Code.isFrame]
theorem z4.make {k:Nat}{A:Around} (r:z4 (k+1) A) (C:Addr) (us:List Value) (kw:List (Str×Value)):z4 k (A.under (.builtin "type.__call__" ⟨.ref C::us,kw⟩)) :=
 ⟨r.hd,by have:=r.dp;rw[zE1];omega,by have:=r.un;rw[zFY];omega⟩
theorem z4.depth {k:Nat}{A:Around} (r:z4 k A):A.depth < recursionLimit:=by have:=r.dp;omega
theorem z4.units {k:Nat}{A:Around} (r:z4 k A):A.units+64 < cLine:=by have:=r.un;omega
theorem z4.units0 {k:Nat}{A:Around} (r:z4 k A):A.units < cLine:=by have:=r.un;omega
noncomputable def zM2:TA:=fun _ H Q=>Q [] H
noncomputable def zL6 (ta:TE) (tr:TA):TA:=fun σ H Q=>ta σ H fun x H1=>tr σ H1 fun xs H2=>Q (x::xs) H2
section
variable {X:Cx}{e:Expr}{es:List Expr}{te:TE}{t:TA}{pos:Pos}
theorem zGl:PA X [] zM2:=fun _ _ _ _ H Q I h=>Calls.spliced_nil ⟨[],H,I,.nil,h⟩
theorem zEU (ha:PE X e te) (hr:PA X es t) (hs:starEach (e::es) X.env=(false,eval e X.env)::starEach es X.env:=by rfl):PA X (e::es) (zL6 te t):=by
 intro pos pins s σ H Q I h
 rw[hs]
 show wpAny _ _ (spliced ((false,eval e X.env)::backTo pos (starEach es X.env))) _ _ s
 refine Calls.spliced_cons (thn (ha pins s σ H _ I h) fun u s1 ⟨x,H1,I1,r1,q1⟩=>?_)
 exact thn (hr pos pins s1 σ H1 _ I1 q1) fun us s2 ⟨xs,H2,I2,r2,q2⟩=>⟨x::xs,H2,I2,.cons r1 r2,q2⟩
noncomputable def zMo (t:TA):TE:=fun σ H Q=>t σ H fun xs H1=>xs.length <= sizeLine/\∀ p,H1 p=none->Q (.ref p) (upd H1 p (.tup xs))
noncomputable def zNB (t:TA):TE:=fun σ H Q=>t σ H fun xs H1=>xs.length <= sizeLine/\∀ p,H1 p=none->Q (.ref p) (upd H1 p (.lst xs))
theorem zK5 {x1} (h:PA X es t):PE X (.Tuple es x1 pos) (zMo t):=by
 intro pins s σ H Q I hq
 refine wpAny_Tuple_spliced (thn (h pos pins s σ H _ I hq) fun us s1 ⟨xs,H1,I1,r,z,q⟩=>⟨by rw[<- r.length];exact z,?_⟩)
 have hf:H1 s1.heap.objs.size=none:=I1.hok.fresh (Nat.le_refl _)
 refine⟨.ref s1.heap.objs.size,upd H1 s1.heap.objs.size (.tup xs),I1.laid (t':=s1.toks) (fun b u e=>Heap.get?_push_of_some _ e) (Nat.le_refl _) ?_,rfl,q _ hf⟩
 exact⟨z,us,r,⟨_,Heap.get?_push_size _ rfl,rfl,_,rfl⟩⟩
theorem zKs (h:PA X es t):PE X (.List es pos) (zNB t):=by
 intro pins s σ H Q I hq
 refine wpAny_List_spliced (thn (h pos pins s σ H _ I hq) fun us s1 ⟨xs,H1,I1,r,z,q⟩=>⟨by rw[<- r.length];exact z,?_⟩)
 have hf:H1 s1.heap.objs.size=none:=I1.hok.fresh (Nat.le_refl _)
 refine⟨.ref s1.heap.objs.size,upd H1 s1.heap.objs.size (.lst xs),I1.laid (t':=s1.toks) (fun b u e=>Heap.get?_push_of_some _ e) (Nat.le_refl _) ?_,rfl,q _ hf⟩
 exact⟨z,us,0,r,Heap.get?_push_size _ rfl⟩
end
noncomputable abbrev Sp:=List V->Hp->VK->XK->Prop
noncomputable abbrev CXT:=List Env->Hp->Shared->XK->Value->Shared->Prop
structure zAb (P:Program) (w:World) (K:PySem.W.Frag) (mg:Str->Option Value) (base:Heap) (A:Around) (outer:List Env) (s:Shared) (H:Hp):Prop where
 frames:A.frames=some outer
 mod:Mod K mg base
 bs:∀ b o,base.get? b=some o->s.heap.get? b=some o/\H b=none
 bsz:base.objs.size <= s.heap.objs.size
 funs:s.heap.FunFrames base outer
 frf:∀ b∈frs outer,H b=none
 hok:HOk P w H s.heap
 bare:AllBare s.gens
noncomputable def CE (outer:List Env) (P:Program) (w:World) (H:Hp) (s:Shared) (Q:VK) (u:Value) (s':Shared):Prop :=
 ∃ v H',s'.os=s.os/\AllBare s'.gens/\Un (frs outer) [] H H' s.heap s'.heap/\HOk P w H' s'.heap/\zZ v u/\Q v H'
noncomputable def CR (CX:CXT) (outer:List Env) (P:Program) (w:World) (H:Hp) (s:Shared) (Q:VK) (E:XK) (r:Result) (s':Shared):Prop :=
 match r with
 | .ok (.ret u)=>CE outer P w H s Q u s'
 | .ok _=>False
 | .error e=>CX outer H s E e s'
structure jZ (P:Program) (w:World) (K:PySem.W.Frag) (mg:Str->Option Value) (base:Heap) (CX:CXT) (k:Nat) (f:Addr) (fd:FuncData) (ps:List Str) (sp:Sp):Prop where
 len:∀ vs H Q E,sp vs H Q E->vs.length=ps.length
 run:∀ (A:Around) (outer:List Env) (s:Shared) (H:Hp) (args:Args) (us:List Value) (vs:List V) (Q:VK) (E:XK),z4 k A->zAb P w K mg base A outer s H->(0 < s.toks\/∃ p∈ps,fd.scope.names.lookup p=some .local)->BindsTo s fd args (ps.zip us)->zY vs us->sp vs H Q E ->
  codeAny (model P w) A (.call (.ref f) args) (CR CX outer P w H s Q E) s
theorem jZ.imp {P:Program}{w:World}{K:PySem.W.Frag}{mg:Str->Option Value}{base:Heap}{CX:CXT}{k:Nat}{f:Addr}{fd:FuncData}{ps:List Str}{sp sp':Sp} (F:jZ P w K mg base CX k f fd ps sp)
  (h:∀ vs H Q E,sp' vs H Q E->sp vs H Q E):jZ P w K mg base CX k f fd ps sp' :=
 ⟨fun vs H Q E q=>F.len vs H Q E (h _ _ _ _ q),fun A outer s H args us vs Q E hr he ht hb hv hs=>F.run A outer s H args us vs Q E hr he ht hb hv (h _ _ _ _ hs)⟩
theorem zAb.make {P:Program}{w:World}{K:PySem.W.Frag}{mg:Str->Option Value}{base:Heap}{A:Around}{outer:List Env}{s:Shared}{H:Hp} (e:zAb P w K mg base A outer s H) (C:Addr) (us:List Value) (kw:List (Str×Value)) :
  zAb P w K mg base (A.under (.builtin "type.__call__" ⟨.ref C::us,kw⟩)) outer s H:=⟨by first | exact e.frames | (simpa [Around.under,Code.envs,Code.isFrame,pushEnvs] using e.frames),e.mod,e.bs,e.bsz,e.funs,e.frf,e.hok,e.bare⟩
section
variable {X:Cx}{pins:List (Addr×Obj)}{σ:St}{H:Hp}{s s':Shared}
theorem Inv.env0 (I:Inv X pins σ H s):zAb X.prog X.w X.K X.mg X.base X.A X.stack s H :=
 ⟨I.ok.frames,I.ok.mod,I.bs,Nat.le_trans I.ok.bsz I.sz,I.stack,I.stkFree,I.hok,I.bare⟩
theorem Inv.after {Q:VK}{u:Value} (I:Inv X pins σ H s) (h:CE X.stack X.prog X.w H s Q u s') (ht:0 < s'.toks):EP X pins σ Q u s':=by
 obtain⟨v,H',os,bare,un,hok,r,q⟩:=h
 obtain⟨hh,g,d,t,os'⟩:=s'
 obtain rfl:os'=s.os:=os
 exact⟨v,H',I.call (h':=hh) (g':=g) (d':=d) (t':=t) (ch:=[]) un hok bare (fun b z=>absurd z (by simp)) ht,r,q⟩
end
noncomputable def zIK (sp:Sp) (dvs:List V) (E:XK) (t:TA):TE:=fun σ H Q=>t σ H fun vs H1=>sp (vs++dvs) H1 Q E
noncomputable def zMO (C:Addr) (m:Str) (sp:Sp) (dvs:List V) (E:XK) (ta:TE) (t:TA):TE:=fun σ H Q=>ta σ H fun x H1=>∃ a dx fs,x=.ref a/\H1 a=some (.ins C dx fs)/\fs.lookup m=none /\
 t σ H1 fun vs H2=>sp (x::(vs++dvs)) H2 Q E
noncomputable def zML (C:Addr) (sp:Sp) (dvs:List V) (E:XK) (t:TA):TE:=fun σ H Q=>t σ H fun vs H1=>∀ x dx,H1 x=none->H1 dx=none->dx≠x ->
 sp (.ref x::(vs++dvs)) (upd (upd H1 dx (.own x)) x (.ins C dx [])) (fun v H2=>v=.non/\Q (.ref x) H2) E
noncomputable def y6 (K:PySem.W.Frag) (fd:FuncData) (ps:List Str) (ds:List Value):Prop :=
 ∀ (s:Shared) (us:List Value),K.In s.heap->(us++ds).length=ps.length->BindsTo s fd ⟨us,[]⟩ (ps.zip (us++ds))
theorem y6.all {K:PySem.W.Frag}{fd:FuncData}{ps:List Str} (h:∀ us:List Value,us.length=ps.length->bindArgs fd ⟨us,[]⟩=pure (ps.zip us)):y6 K fd ps []:=fun s us _ hl=>by
 rw[List.append_nil] at hl ⊢
 exact .of_eq (h us hl)
noncomputable def qj (CX:CXT) (X:Cx) (E:XK):Prop:=∀ (pins:List (Addr×Obj)) (σ:St) (H:Hp) (s:Shared) (e:Value) (s':Shared),Inv X pins σ H s->CX X.stack H s E e s'->X.xe e s'
section
variable {X:Cx}{CX:CXT}{k:Nat}{f C:Addr}{fd:FuncData}{ps:List Str}{sp:Sp}{dvs:List V}{ds:List Value}{E:XK}{x m:Str}{p pos apos:Pos}{e o:Expr}{es:List Expr}{ta:TE}{t:TA}
theorem zFm {pins:List (Addr×Obj)}{σ:St}{H:Hp}{s:Shared}{Q:VK}{us:List Value}{vs:List V} (F:jZ X.prog X.w X.K X.mg X.base CX k f fd ps sp) (hr:z4 k X.A) (hb:y6 X.K fd ps ds) (hd:zY dvs ds) (hx:qj CX X E)
  (I:Inv X pins σ H s) (r:zY vs us) (h:sp (vs++dvs) H Q E):wpAny (model X.prog X.w) X.A (call (.ref f) us) (EP X pins σ Q) X.xe s:=by
 have r2:zY (vs++dvs) (us++ds):=r.append hd
 have hl:(us++ds).length=ps.length:=by rw[<- r2.length];exact F.len _ _ _ _ h
 refine wpAny_call (codeAny_mono (codeAny_toks_of (n:=1) I.tk (F.run X.A X.stack s H ⟨us,[]⟩ (us++ds) (vs++dvs) Q E hr I.env0 (.inl I.tk) (hb s us I.kIn hl) r2 h)) fun r s' ⟨htk,hq⟩=>?_)
 cases r with
 | error e=>exact hx pins σ H s e s' I hq
 | ok fl =>
  cases fl with
  | ret u=>exact I.after hq htk
  | next=>exact False.elim hq
  | brk=>exact False.elim hq
  | cont=>exact False.elim hq
theorem zI9 (F:jZ X.prog X.w X.K X.mg X.base CX k f fd ps sp) (hr:z4 k X.A) (hg:Gl X x) (hm:X.mg x=some (.ref f)) (hk:PySem.W.keepIn X.K (.ref f)=true) (hb:y6 X.K fd ps ds) (hd:zY dvs ds) (hx:qj CX X E)
  (ha:PA X (e::es) t) (hdb:(x == ("__debug__" : Str))=false:=by decide) (he:starEach (e::es) X.env=(false,eval e X.env)::starEach es X.env:=by rfl) (hpl:(backTo pos (starEach es X.env)).any (·.1)=false:=by rfl) :
  PE X (.Call (.Name x p) (e::es) [] pos) (zIK sp dvs E t):=by
 intro pins s σ H Q I h
 refine wpAny_Call_Name_kw (zBm I hg hm ?_ hdb)
 refine PySem.W.callWith_K (h₀:=X.base) I.ok.mod.kin hk (thn (ha pos pins s σ H _ I h) fun us s1 ⟨vs,H1,I1,r,q⟩=>⟨I1.kIn,?_⟩) he hpl
 exact zFm F hr hb hd hx I1 r q
theorem zIv {pl:Sem Bool} (he:PE X o ta) (c:Cls X.K C) (hm:zHy X.K C m f) (F:jZ X.prog X.w X.K X.mg X.base CX k f fd ps sp) (hr:z4 k X.A) (hb:y6 X.K fd ps ds) (hd:zY dvs ds) (hx:qj CX X E) (ha:PA X (e::es) t)
  (hst:starEach (e::es) X.env=(false,eval e X.env)::starEach es X.env:=by rfl) (hpl:(backTo pos (starEach es X.env)).any (·.1)=false:=by rfl)
  (ht:eval (.Call (.Attribute o m apos) (e::es) [] pos) X.env=(do
   let ov <- eval o X.env
   standAt apos.atName
   let (f,first) <- holding [ov] (getMethod ov m pl)
   callWith pos f first (backTo pos (starEach (e::es) X.env)) (backToKw pos (keywordEach [] X.env))):=by rfl) :
  PE X (.Call (.Attribute o m apos) (e::es) [] pos) (zMO C m sp dvs E ta t):=by
 intro pins s σ H Q I h
 refine PySem.W.methodCall_KW (pl:=pl) (thn (he pins s σ H _ I h) fun u s1 ⟨x,H1,I1,rx,a,dx,fs,ex,ea,l,q⟩=>?_) ht
 subst ex
 obtain rfl:u=Value.ref a:=rx
 refine zFW I1 ea c hm l ?_
 refine PySem.W.callWith_K (first:=[.ref a]) (h₀:=X.base) I.ok.mod.kin hm.kp (thn (ha pos pins s1 σ H1 _ I1 q) fun us s2 ⟨vs,H2,I2,r,q2⟩=>⟨I2.kIn,?_⟩) hst hpl
 exact zFm (us:=.ref a::us) (vs:=.ref a::vs) F hr hb hd hx I2 (.cons rfl r) q2
structure Mk (K:PySem.W.Frag) (C f:Addr):Prop where
 makes:PySem.W.makesIn K C=true
 init:PySem.W.findIn K (.ref C) "__init__" = some (some (.ref f))
 fn:PySem.W.isFn K (.ref f)=true
 kp:PySem.W.keepIn K (.ref C)=true
theorem zIJ {pins:List (Addr×Obj)}{σ:St}{H:Hp}{s:Shared}{Q:VK}{us:List Value}{vs:List V} (M:Mk X.K C f) (F:jZ X.prog X.w X.K X.mg X.base CX k f fd ps sp) (hr:z4 (k+1) X.A) (hb:y6 X.K fd ps ds) (hd:zY dvs ds)
  (hx:qj CX X E) (I:Inv X pins σ H s) (r:zY vs us)
  (h:∀ x dx,H x=none->H dx=none->dx≠x->sp (.ref x::(vs++dvs)) (upd (upd H dx (.own x)) x (.ins C dx [])) (fun v H2=>v=.non/\Q (.ref x) H2) E) :
  wpAny (model X.prog X.w) X.A (call (.ref C) us) (EP X pins σ Q) X.xe s:=by
 have hq:=h (s.heap.objs.size+1) s.heap.objs.size (I.hok.fresh (Nat.le_succ _)) (I.hok.fresh (Nat.le_refl _)) (Nat.ne_of_lt (Nat.lt_succ_self _))
 have I2:=Inv.made (C:=C) I
 have r2:zY (V.ref (s.heap.objs.size+1)::(vs++dvs)) (Value.ref (s.heap.objs.size+1)::(us++ds)):=.cons rfl (r.append hd)
 have hl:(Value.ref (s.heap.objs.size+1)::us++ds).length=ps.length:=by
  have e:=r2.length
  rw[F.len _ _ _ _ hq] at e
  exact e.symm
 refine wpAny_call (zIC (f:=f) I.kIn M.makes M.init (beq_iff_eq.mp M.fn) (codeAny_mono (codeAny_toks_of (n:=1) I2.tk (F.run _ X.stack _ _ ⟨Value.ref (s.heap.objs.size+1)::us,[]⟩ (Value.ref (s.heap.objs.size+1)::(us++ds)) _ _ E (hr.make C us [])
  (I2.env0.make C us []) (.inl I2.tk) (hb _ (Value.ref (s.heap.objs.size+1)::us) I2.kIn hl) r2 hq)) fun r s' ⟨htk,hq'⟩=>?_))
 cases r with
 | error e=>exact hx pins σ _ _ e s' I2 hq'
 | ok fl =>
  cases fl with
  | ret u =>
   obtain⟨v,H',I3,rv,ev,q3⟩:=I2.after hq' htk
   subst ev
   exact⟨rv,⟨V.ref (s.heap.objs.size+1),H',I3,rfl,q3⟩⟩
  | next=>exact False.elim hq'
  | brk=>exact False.elim hq'
  | cont=>exact False.elim hq'
theorem zJm (M:Mk X.K C f) (F:jZ X.prog X.w X.K X.mg X.base CX k f fd ps sp) (hr:z4 (k+1) X.A) (hg:Gl X x) (hm:X.mg x=some (.ref C)) (hb:y6 X.K fd ps ds) (hd:zY dvs ds) (hx:qj CX X E)
  (ha:PA X (e::es) t) (hdb:(x == ("__debug__" : Str))=false:=by decide) (he:starEach (e::es) X.env=(false,eval e X.env)::starEach es X.env:=by rfl) (hpl:(backTo pos (starEach es X.env)).any (·.1)=false:=by rfl) :
  PE X (.Call (.Name x p) (e::es) [] pos) (zML C sp dvs E t):=by
 intro pins s σ H Q I h
 refine wpAny_Call_Name_kw (zBm I hg hm ?_ hdb)
 refine PySem.W.callWith_K (h₀:=X.base) I.ok.mod.kin M.kp (thn (ha pos pins s σ H _ I h) fun us s1 ⟨vs,H1,I1,r,q⟩=>⟨I1.kIn,?_⟩) he hpl
 exact zIJ M F hr hb hd hx I1 r q
end
section
variable {X:Cx}{CX:CXT}{k:Nat}{f C:Addr}{fd:FuncData}{ps ks:List Str}{sp:Sp}{E:XK}{x m:Str}{p pos apos kpos:Pos}{e o:Expr}{es:List Expr}{kws:List Keyword}{te ta:TE}{t tk:TA}{nm:Option Str}
structure zNH (K:PySem.W.Frag) (fd:FuncData) (ps ks:List Str) (g:List Value->List Value->List Value) (gV:List V->List V->List V):Prop where
 to:∀ (s:Shared) (us ws:List Value),K.In s.heap->(g us ws).length=ps.length->BindsTo s fd ⟨us,ks.zip ws⟩ (ps.zip (g us ws))
 rel:∀ {vs:List V}{us:List Value}{zs:List V}{ws:List Value},zY vs us->zY zs ws->zY (gV vs zs) (g us ws)
variable {g:List Value->List Value->List Value}{gV:List V->List V->List V}
end
structure jS (N P:List Str) (sc:Scope):Prop where
 kind:sc.kind=.function
 co:sc.isCoroutine=false
 gen:sc.isGenerator=false
 nd:N.Nodup
 pre:N.take P.length=P
 par:∀ x∈P,sc.names.lookup x=some .local\/sc.names.lookup x=some .cell
 nofree:∀ y∈sc.names,y.2≠.free
theorem zB6 {kindOf:Str->Option NameKind}{x:Str}:∀ {binds:List (Str×Value)}{m:Str->Option Value},(∀ v,(x,v)∉binds)->bindL kindOf binds m x=m x
 | [],_,_=>rfl
 | (n,v)::r,m,h=>by
  unfold bindL
  rw[zB6 fun w hw=>h w (List.mem_cons_of_mem _ hw)]
  split
  ·have:x≠n:=by rintro rfl;exact h v List.mem_cons_self
   simp[this]
  ·rfl
theorem zCK {kindOf:Str->Option NameKind}{x:Str}:∀ {binds:List (Str×Value)}{m:Str->Option Value},(∀ v,(x,v)∉binds)->bindC kindOf binds m x=m x
 | [],_,_=>rfl
 | (n,v)::r,m,h=>by
  unfold bindC
  rw[zCK fun w hw=>h w (List.mem_cons_of_mem _ hw)]
  split
  ·rfl
  ·have:x≠n:=by rintro rfl;exact h v List.mem_cons_self
   simp[this]
theorem zB9 {kindOf:Str->Option NameKind}{x:Str}{v:Value}:∀ {P:List Str}{vs:List Value}{i:Nat}{m:Str->Option Value},P.Nodup->P[i]? = some x->vs[i]? = some v->kindOf x=some .local ->
  bindL kindOf (P.zip vs) m x=some v
 | [],_,_,_,_,h,_,_=>by simp at h
 | _::_,[],_,_,_,_,h,_=>by simp at h
 | p::P,w::vs,0,m,nd,h1,h2,hk=>by
  simp at h1 h2;subst h1;subst h2
  show bindL kindOf ((p,w)::P.zip vs) m p=_
  unfold bindL
  rw[zB6 fun v hv=>(List.nodup_cons.mp nd).1 (List.of_mem_zip hv).1,if_pos hk]
  simp
 | p::P,w::vs,i+1,m,nd,h1,h2,hk=>by
  show bindL kindOf ((p,w)::P.zip vs) m x=_
  unfold bindL
  exact zB9 (i:=i) (List.nodup_cons.mp nd).2 (by simpa using h1) (by simpa using h2) hk
theorem zCC {kindOf:Str->Option NameKind}{x:Str}{v:Value}:∀ {P:List Str}{vs:List Value}{i:Nat}{m:Str->Option Value},P.Nodup->P[i]? = some x->vs[i]? = some v->kindOf x≠some .local ->
  bindC kindOf (P.zip vs) m x=some v
 | [],_,_,_,_,h,_,_=>by simp at h
 | _::_,[],_,_,_,_,h,_=>by simp at h
 | p::P,w::vs,0,m,nd,h1,h2,hk=>by
  simp at h1 h2;subst h1;subst h2
  show bindC kindOf ((p,w)::P.zip vs) m p=_
  unfold bindC
  rw[zCK fun v hv=>(List.nodup_cons.mp nd).1 (List.of_mem_zip hv).1,if_neg hk]
  simp
 | p::P,w::vs,i+1,m,nd,h1,h2,hk=>by
  show bindC kindOf ((p,w)::P.zip vs) m x=_
  unfold bindC
  exact zCC (i:=i) (List.nodup_cons.mp nd).2 (by simpa using h1) (by simpa using h2) hk
noncomputable def yM (N:List Str) (vs:List V):St:=vs.map some++List.replicate (N.length - vs.length) none
noncomputable def QG (CX:CXT) (P:Program) (w:World) (K:PySem.W.Frag) (mg:Str->Option Value) (base:Heap) (N:List Str) (qual:Str) (scope:Scope) (f:Addr) (cd:Value) (A:Around) (outer:List Env) (s:Shared) (H:Hp) (E:XK):Cx where
 prog:=P
 w:=w
 K:=K
 mg:=mg
 base:=base
 A:=A.deeper (envOfC qual scope s.heap.objs.size f cd)
 N:=N
 s₀:=s
 H₀:=H
 env:=envOfC qual scope s.heap.objs.size f cd
 outer:=outer
 stack:=envOfC qual scope s.heap.objs.size f cd::outer
 ex:=[]
 calm:=true
 fn:=fun _=>true
 pn:=[]
 xe:=fun e s'=>wpAny (model P w) (A.deeper (envOfC qual scope s.heap.objs.size f cd)) (leaving (envOfC qual scope s.heap.objs.size f cd) e) (fun _ s''=>CX outer H s E e s'') (fun e' s''=>CX outer H s E e' s'') s'
theorem zDU {sc:Scope}{n:Nat}{x:Str} (h:sc.names.lookup x=some .cell):∃ c,(cellsFrom n sc.names []).lookup x=some c:=by
 have q:=PySem.W.cellsFrom_some sc.names n [] (.inl h)
 exact Option.isSome_iff_exists.mp q
theorem Qf {M:Model}{A:Around}{E:Value->Shared->Prop}{s₀:Shared}{env:Env} (f:Str×Value->PUnit->Sem (ForInStep PUnit)) (hf:∀ n v u,f (n,v) u=(do storeName env n v;pure (.yield ⟨⟩))) (hk:env.scope.kind=.function) :
  ∀ (binds:List (Str×Value)) (m cm:Str->Option Value) (s:Shared) (Q:PUnit->Shared->Prop),InCallC s₀ env.locals m env.cells cm s ->
   (∀ x∈binds,env.kindOf x.1=some .local\/(env.kindOf x.1=some .cell/\(env.cells.lookup x.1).isSome=true)) ->
   (∀ s',InCallC s₀ env.locals (bindL env.kindOf binds m) env.cells (bindC env.kindOf binds cm) s'->((0 < s.toks\/∃ b∈binds,env.kindOf b.1=some .local)->0 < s'.toks)->Q ⟨⟩ s')->wpAny M A (forIn binds ⟨⟩ f) Q E s
 | [],m,cm,s,Q,x,_,h=>by
  rw[List.forIn_nil]
  exact wpAny_pure (h s x fun z=>z.elim id fun ⟨b,hb,_⟩=>absurd hb (by simp))
 | (n,v)::r,m,cm,s,Q,x,hkind,h=>by
  rw[List.forIn_cons,hf]
  have hr:∀ y∈r,env.kindOf y.1=some .local\/(env.kindOf y.1=some .cell/\(env.cells.lookup y.1).isSome=true):=fun y hy=>hkind y (List.mem_cons_of_mem _ hy)
  rcases hkind (n,v) List.mem_cons_self with hl | ⟨hl,hc⟩
  ·refine wpAny_bind (wpAny_bind (wpAny_storeName_local hl x.toInCall.ns (fun h' hn' hs'=>wpAny_pure (Qf f hf hk r (fun y=>if y=n then some v else m y) cm _ Q ⟨⟨?_,hn',fun b o e=>?_,x.toInCall.fresh⟩,fun k c hc=>?_,x.apart,x.above⟩ hr fun s'' x'' ht=>h s'' ?_ fun _=>ht (.inl (Nat.succ_pos _)))) (by rw[hk];rfl)))
   ·obtain⟨h₁,tk,rfl⟩:=x.toInCall.same
    exact⟨h',_,rfl⟩
   ·exact hs'.extBut b o (Nat.ne_of_lt (Nat.lt_of_lt_of_le (Heap.lt_size e) x.toInCall.fresh)) (x.toInCall.keep b o e)
   ·exact (x.cell k c hc).sameBut hs' (Nat.ne_of_gt (x.above k c (PySem.mem_of_lookup hc)))
   ·unfold bindL bindC;rw[if_pos hl,if_pos hl];exact x''
  ·obtain⟨c,hc⟩:=Option.isSome_iff_exists.mp hc
   have hnl:¬ env.kindOf n=some .local:=by rw[hl];decide
   refine wpAny_bind (wpAny_bind (wpAny_with_toks (n:=s.toks) (Nat.le_refl _) (stCC x hk hl hc fun s' x' hle=>wpAny_pure (Qf f hf hk r m _ s' Q x' hr fun s'' x'' ht=>h s'' ?_ fun z=>ht ?_))))
   ·unfold bindL bindC;rw[if_neg hnl,if_neg hnl];exact x''
   ·rcases z with z | ⟨b,hb,hbl⟩
    ·exact .inl (Nat.lt_of_lt_of_le z hle)
    ·rcases List.mem_cons.mp hb with rfl | hb
     ·exact absurd hbl hnl
     ·exact .inr ⟨b,hb,hbl⟩
theorem zId {M:Model}{A:Around}{E:Value->Shared->Prop}{s:Shared}{scope:Scope}{globals:Addr}{binds:List (Str×Value)}{qual:Str}{func:Option Addr}{code:Value}{builtins:Addr}{Q:Env->Shared->Prop}
  (hk:scope.kind=.function)
  (hkind:∀ x∈binds,scope.names.lookup x.1=some .local\/(scope.names.lookup x.1=some .cell/\((cellsFrom (s.heap.objs.size+1) scope.names []).lookup x.1).isSome=true))
  (hQ:∀ env,env=newEnv scope s.heap.objs.size globals (cellsFrom (s.heap.objs.size+1) scope.names []) qual func code none builtins ->
   ∀ s',InCallC s env.locals (bindL env.kindOf binds fun _=>none) env.cells (bindC env.kindOf binds fun _=>none) s'->((0 < s.toks\/∃ b∈binds,scope.names.lookup b.1=some .local)->0 < s'.toks)->Q env s') :
  wpAny M A (newFunctionEnv scope globals [] binds qual func code none builtins) Q E s:=by
 simp only[newFunctionEnv,Option.isSome_none,Bool.false_eq_true,if_false]
 refine wpAny_bind (wpAny_alloc ?_)
 refine wpAny_bind (wpAny_layCells _ (fun name kind cells=>by cases hkc:kind == NameKind.cell<;>simp[hkc]) _ _ _ _ ?_)
 have ok:=cellsFrom_ok scope.names (s.heap.push { cls:=.type "frame",data:=.dict #[] }) (s.heap.objs.size+1) [] ⟨fun _ _ hm=>(nomatch hm),List.Pairwise.nil⟩ (by rw[Heap.size_push];exact Nat.le_refl _)
 rw[Heap.size_push] at ok
 rw[show ({ s with heap:=s.heap.push { cls:=.type "frame",data:=.dict #[] } }:Shared).heap.objs.size=s.heap.objs.size+1 from Heap.size_push ..]
 refine wpAny_bind (Qf (s₀:=s) (env:=newEnv scope s.heap.objs.size globals (cellsFrom (s.heap.objs.size+1) scope.names []) qual func code none builtins)
  _ (fun _ _ _=>rfl) hk binds (fun _=>none) (fun _=>none) _ _
  ⟨⟨⟨_,_,rfl⟩,(Heap.Ns.new s.heap (.type "frame")).keeps (pushCells_keeps _ _),fun b o e=>pushCells_keeps _ _ b o (Heap.get?_push_of_some _ e),Nat.le_refl _⟩,
   fun n c hc=>(ok.empty n c (PySem.mem_of_lookup hc)).1,ok.apart,fun n c hm=>(ok.empty n c hm).2⟩
  hkind fun s' x ht=>wpAny_pure (hQ _ rfl s' x ht))
theorem zGi {CX:CXT}{P:Program}{w:World}{K:PySem.W.Frag}{mg:Str->Option Value}{base:Heap}{N ps:List Str}{qual:Str}{scope:Scope}{f:Addr}{cd:Value}{A:Around}{outer:List Env}{s s1:Shared}{H:Hp}{E:XK}{us:List Value}{vs:List V}
  (S:jS N ps scope) (hd:A.handled=none) (e0:zAb P w K mg base A outer s H) (hl:vs.length=ps.length) (r:zY vs us)
  (x:InCallC s s.heap.objs.size (bindL (envOfC qual scope s.heap.objs.size f cd).kindOf (ps.zip us) fun _=>none) (cellsFrom (s.heap.objs.size+1) scope.names []) (bindC (envOfC qual scope s.heap.objs.size f cd).kindOf (ps.zip us) fun _=>none) s1) (ht:0 < s1.toks) :
  Inv (QG CX P w K mg base N qual scope f cd A outer s H E) [] (yM N vs) H s1:=by
 have hpl:ps.length <= N.length:=by have:=congrArg List.length S.pre;rw[List.length_take] at this;omega
 obtain⟨h1,tk,rfl,hk⟩:=x.done
 have noA:∀ b:Addr,b∉(QG CX P w K mg base N qual scope f cd A outer s H E).ex:=fun b z=>absurd (show b∈([]:List Addr) from z) (by simp)
 refine⟨⟨e0.mod,S.kind,rfl,rfl,Nat.le_refl _,fun y z c h1 h2=>?_,fun y hy=>?_,fun y c _ h=>?_,fun _=>hd,Around.frames_deeper e0.frames,.inr ⟨rfl,rfl⟩,fun b z=>absurd z (noA b),e0.bs,e0.bsz,fun b _ _=>noA b,fun b z=>absurd z (noA b),e0.funs,e0.frf⟩,
  rfl,e0.bare,Un.kept hk,⟨_,x.toInCall.ns,fun i y v h1 h2 h3=>?_⟩,fun y c h=>⟨_,x.cell y c h⟩,e0.hok.fresh (Nat.le_refl _),fun y c h=>?_,fun p hp=>absurd (show p∈([]:List (Addr×Obj)) from hp) (by simp),e0.hok.kept hk,?_,ht⟩
 ·exact name_of_addr x.apart (PySem.mem_of_lookup h1) (PySem.mem_of_lookup h2)
 ·have hy:scope.names.lookup y=some .cell\/scope.names.lookup y=some .free:=hy
  rcases hy with hy | hy
  ·exact zDU hy
  ·exact absurd rfl (S.nofree _ (PySem.mem_of_lookup hy))
 ·exact Nat.le_of_lt (x.above y c (PySem.mem_of_lookup h))
 ·have hi:i < vs.length:=by
   unfold yM at h2
   by_cases hi:i < vs.length
   ·exact hi
   ·rw[List.getElem?_append_right (by simpa using hi)] at h2
    rw[List.getElem?_replicate] at h2
    split at h2<;>cases h2
  have ha:vs[i]? = some v:=by
   unfold yM at h2
   rw[List.getElem?_append_left (by simpa using hi),List.getElem?_map] at h2
   cases e:vs[i]? with
   | none=>rw[e] at h2;cases h2
   | some a=>rw[e] at h2;cases h2;rfl
  obtain⟨u,hu,rv⟩:=r.get ha
  have hp:ps[i]? = some y:=by
   rw[<- S.pre,List.getElem?_take_of_lt (by omega)];exact h1
  have ndP:ps.Nodup:=by rw[<- S.pre];exact S.nd.sublist (List.take_sublist _ _)
  refine⟨u,rv,?_⟩
  rcases S.par y (List.mem_of_getElem? hp) with k | k
  ·exact .inl ⟨k,zB9 ndP hp hu k⟩
  ·obtain⟨c,e⟩:=zDU (n:=s.heap.objs.size+1) k
   refine .inr ⟨.inl k,c,e,?_⟩
   have q:=x.cell y c e
   rw[zCC ndP hp hu (by show scope.names.lookup y≠_;rw[k];decide)] at q
   exact q
 ·exact e0.hok.fresh (Nat.le_of_lt (x.above y c (PySem.mem_of_lookup h)))
 ·unfold yM
  show _=N.length
  rw[List.length_append,List.length_map,List.length_replicate]
  omega
theorem zL0 {CX:CXT}{P:Program}{w:World}{K:PySem.W.Frag}{mg:Str->Option Value}{base:Heap}{k:Nat}{f:Addr}{name qual:Str}{params:Arguments}{body:List Stmt}{scope:Scope}{dV kV doc pm cdv ct oc:Value}{an od:Option Addr}
  {osl:Array (Option Value)}{N ps:List Str}{sp:Sp} (lk:K.lookup f=some ⟨oc,od,.func (PySem.W.fnOf name qual params body scope dV kV doc pm an cdv ct),osl⟩) (hcd:PySem.W.codeIn K cdv qual=true) (S:jS N ps scope)
  (len:∀ vs H Q E,sp vs H Q E->vs.length=ps.length)
  (hbody:∀ (A:Around) (outer:List Env) (s:Shared) (H:Hp) (vs:List V) (Q:VK) (E:XK),z4 k (A.deeper (envOfC qual scope s.heap.objs.size f cdv))->sp vs H Q E ->
   ∃ t,PSs (QG CX P w K mg base N qual scope f cdv A outer s H E) body t/\t { nx:=fun _ H'=>Q .non H',rt:=Q } (yM N vs) H) :
  jZ P w K mg base CX (k+1) f (PySem.W.fnOf name qual params body scope dV kV doc pm an cdv ct) ps sp:=by
 refine⟨len,fun A outer s H args us vs Q E hr e0 htk hb r hsp=>?_⟩
 have hl:=len _ _ _ _ hsp
 have KX:K.In s.heap:=e0.mod.kin.keeps fun b o e=>(e0.bs b o e).1
 have lim:s.heap.NoLimit:=e0.mod.nolimit.keeps fun b o e=>(e0.bs b o e).1
 have hkind:∀ y∈ps.zip us,scope.names.lookup y.1=some .local\/(scope.names.lookup y.1=some .cell/\((cellsFrom (s.heap.objs.size+1) scope.names []).lookup y.1).isSome=true):=fun ⟨n,v⟩ hy=>by
  rcases S.par n (List.of_mem_zip hy).1 with q | q
  ·exact .inl q
  ·exact .inr ⟨q,PySem.W.cellsFrom_some _ _ _ (.inl q)⟩
 refine codeAny_call_function hr.depth (KX _ _ lk) rfl S.co S.gen rfl (PySem.W.codeRec_of KX hcd) (hb _ _ _ _ ?_)
 refine zId S.kind hkind fun env he s1 x htk1=>?_
 subst he
 refine⟨lim.keeps x.toInCall.keep,codeAny_func ?_⟩
 obtain⟨t,ht,hq⟩:=hbody A outer s H vs Q E (hr.deeper _) hsp
 have I:Inv (QG CX P w K mg base N qual scope f cdv A outer s H E) [] (yM N vs) H s1:=zGi S hr.hd e0 hl r x (htk1 (htk.imp id fun ⟨p,hp,hpl⟩=>by
  obtain⟨i,hi,e⟩:=List.mem_iff_getElem.mp hp
  have hu:i < us.length:=by rw[<- r.length,hl];exact hi
  exact⟨(p,us[i]),List.mem_iff_getElem.mpr ⟨i,by rw[List.length_zip];omega,by rw[List.getElem_zip,e]⟩,hpl⟩))
 refine wpAny_mono (ht [] s1 (yM N vs) H _ I hq) (fun fl s' hs=>?_) fun e s' hs=>hs
 have fin:∀ {σ':St}{H':Hp}{v:V}{u:Value},Inv (QG CX P w K mg base N qual scope f cdv A outer s H E) [] σ' H' s'->zZ v u->Q v H'->CE outer P w H s Q u s' :=
  fun {σ' H' v u} J rv q=>⟨v,H',J.os,J.bare,J.base,J.hok,rv,q⟩
 cases fl with
 | ret u =>
  obtain⟨v,σ',H',J,rv,q⟩:=hs
  exact fin J rv q
 | next =>
  obtain⟨σ',H',J,q⟩:=hs
  exact fin (v:=V.non) (u:=Value.none) J rfl q
 | brk =>
  obtain⟨_,_,_,q⟩:=hs
  exact False.elim q
 | cont =>
  obtain⟨_,_,_,q⟩:=hs
  exact False.elim q
end L2
namespace L2
open PySem PySem.Spec PyProof.Rows
section
variable {X:Cx}{x:Str}{p pos:Pos}{e:Expr}{es:List Expr}{t:TA}{id T:String}{r:List V->Hp->VK->Prop}
noncomputable def tCB (r:List V->Hp->VK->Prop) (t:TA):TE:=fun σ H Q=>t σ H fun vs H1=>r vs H1 Q
theorem zHZ (hc:jh X (.builtin id) r) (hg:Gl X x) (hm:X.mg x=none) (hv:bootBuiltins x=some (.builtin id)) (ha:PA X (e::es) t) (hn:x ≠ "__name__" := by decide) (hdb:(x == ("__debug__" : Str))=false:=by decide)
  (he:starEach (e::es) X.env=(false,eval e X.env)::starEach es X.env:=by rfl) (hpl:(backTo pos (starEach es X.env)).any (·.1)=false:=by rfl):PE X (.Call (.Name x p) (e::es) [] pos) (tCB r t):=by
 intro pins s σ H Q I h
 refine wpAny_Call_Name_kw (Jm I hg hm hv ?_ hn hdb)
 exact PyProof.Rows.callWith_builtin1 (thn (ha pos pins s σ H _ I h) fun us s1 ⟨vs,H1,I1,r1,q1⟩=>hc pins s1 σ H1 vs us Q I1 r1 q1) he hpl
theorem zFo (hc:jh X (.type T) r) (hg:Gl X x) (hm:X.mg x=none) (hv:bootBuiltins x=some (.type T)) (ha:PA X (e::es) t) (hn:x ≠ "__name__" := by decide) (hdb:(x == ("__debug__" : Str))=false:=by decide)
  (he:starEach (e::es) X.env=(false,eval e X.env)::starEach es X.env:=by rfl) (hpl:(backTo pos (starEach es X.env)).any (·.1)=false:=by rfl):PE X (.Call (.Name x p) (e::es) [] pos) (tCB r t):=by
 intro pins s σ H Q I h
 refine wpAny_Call_Name_kw (Jm I hg hm hv ?_ hn hdb)
 exact PyProof.Rows.callWith_type1 (thn (ha pos pins s σ H _ I h) fun us s1 ⟨vs,H1,I1,r1,q1⟩=>hc pins s1 σ H1 vs us Q I1 r1 q1) he hpl
end
end L2
namespace HT
open PySem PyProof.Rows
section
variable {prog:Program}{w:World}{A:Around}{E:Value->Shared->Prop}{s:Shared}
theorem zJJ {t b:Addr}{vs ws:List Value}{Q:Value->Shared->Prop} (ht:IsTup s.heap t vs.toArray) (hb:IsTup s.heap b ws.toArray) (hv:vs≠[])
  (h1:ws=[]->Q (.ref t) s) (h2:ws≠[]->Q (.ref s.heap.objs.size) { s with heap:=s.heap.push { cls:=.type "tuple",data:=.seq (vs++ws).toArray } })
  (hsz:vs.length+ws.length <= sizeLine):wpAny (model prog w) A (binaryOp .Add (.ref t) (.ref b)) Q E s:=by
 obtain⟨⟨cls,dd,data,sl⟩,ho,hc,n,hd⟩:=id ht
 obtain⟨⟨cls2,dd2,data2,sl2⟩,ho2,hc2,n2,hd2⟩:=id hb
 simp only at hc hd hc2 hd2
 subst hc hd hc2 hd2
 have e:vs.toArray++ws.toArray=(vs++ws).toArray:=by simp
 by_cases hw:ws=[]
 ·exact concat_meets ⟨_,ho,rfl⟩ ⟨_,ho2,rfl⟩ noFill_tuple_add seq_tuple_add PySem.F.slot_tuple_add PySem.F.entry_tuple_add (PySem.F.args_tuple_add_2 _ _)
   (tuple_addW1 t b vs.toArray ws.toArray n n2 dd dd2 sl sl2 (by simpa using hv) (by simp[hw])) ⟨ho,ho2,h1 hw⟩
 ·refine concat_meets ⟨_,ho,rfl⟩ ⟨_,ho2,rfl⟩ noFill_tuple_add seq_tuple_add PySem.F.slot_tuple_add PySem.F.entry_tuple_add (PySem.F.args_tuple_add_2 _ _)
   (tuple_addW2 t b vs.toArray ws.toArray n n2 dd dd2 sl sl2 (by simpa using hv) (by simpa using hw) (by rw[List.size_toArray,List.size_toArray];exact hsz)) ⟨ho,ho2,?_⟩
  rw[e]
  exact h2 hw
noncomputable def sIx (n d:Nat):Option Int->Nat
 | none=>d
 | some v=>if v < 0 then (v+(n:Int)).toNat else min v.toNat n
theorem zDk (n d:Nat) (hd:d <= n) (o:Option Int):sIx n d o <= n:=by
 cases o with
 | none=>exact hd
 | some v =>
  show (if v < 0 then (v+(n:Int)).toNat else min v.toNat n) <= n
  by_cases hv:v < 0
  ·rw[if_pos hv];omega
  ·rw[if_neg hv];exact Nat.min_le_right _ _
theorem zBx (v:Int) (n d:Nat):(if v < 0 then max (v+(n:Int)) 0 else min v (n:Int))=((sIx n d (some v):Nat):Int):=by
 show (if v < 0 then max (v+(n:Int)) 0 else min v (n:Int))=(((if v < 0 then (v+(n:Int)).toNat else min v.toNat n):Nat):Int)
 by_cases hv:v < 0
 ·simp only[if_pos hv];omega
 ·simp only[if_neg hv];omega
theorem zEr (lo hi:Option Int) (n:Nat):Builtin.Slice.sliceAdjust lo hi 1 (n:Int)=(((sIx n 0 lo:Nat):Int),((sIx n n hi:Nat):Int)):=by
 have h1:¬ ((1:Int) < 0):=by omega
 unfold Builtin.Slice.sliceAdjust
 simp only[h1,if_false]
 refine Prod.ext ?_ ?_
 ·cases lo with
  | none=>rfl
  | some v=>exact zBx v n 0
 ·cases hi with
  | none=>rfl
  | some v=>exact zBx v n n
theorem zE3 (i j:Nat):Builtin.Slice.slicePlaces (i:Int) (j:Int) 1=j - i:=by
 unfold Builtin.Slice.slicePlaces
 have h1:(1:Int) > 0:=by omega
 simp only[h1,if_true,Int.ediv_one]
 split<;>omega
theorem zAz {v:Value}{o:Option Int}{Q:Option Int->Shared->Prop} (p:IsPart v o) (h:Q o s):wpAny (model prog w) A (Builtin.Slice.slicePartIndex v) Q E s:=by
 cases p with
 | none=>exact slicePart_none h
 | int i t=>exact slicePart_int h
theorem zAR {sl:Addr}{vl vu:Value}{lo hi:Option Int}{n:Nat}{Q:Int×Int×Nat->Shared->Prop} (hs:s.heap.IsSliceOf sl vl vu .none) (pl:IsPart vl lo) (pu:IsPart vu hi)
  (h:Q (((sIx n 0 lo:Nat):Int),1,sIx n n hi - sIx n 0 lo) s):wpAny (model prog w) A (Builtin.Slice.sliceApplied (.ref sl) (pure (n:Int))) Q E s:=by
 obtain⟨os,hos,hcs,hds⟩:=id hs
 unfold Builtin.Slice.sliceApplied Builtin.Slice.sliceFields
 refine wpAny_bind (wpAny_bind (wpAny_field hos hds (x:=vl) rfl (wpAny_bind (wpAny_field hos hds (x:=vu) rfl (wpAny_bind (wpAny_field hos hds (x:=.none) rfl (wpAny_pure ?_)))))))
 refine wpAny_bind (slicePart_none ?_)
 show wpAny _ _ (if ((1:Int) == 0)=true then _ else _) _ _ s
 rw[if_neg (by decide)]
 refine wpAny_bind (zAz pl (wpAny_bind (zAz pu (wpAny_bind (wpAny_pure ?_)))))
 show wpAny _ _ (match Builtin.Slice.sliceAdjust lo hi 1 (n:Int) with | (lo,hi)=>pure (lo,(1:Int),Builtin.Slice.slicePlaces lo hi 1)) _ _ s
 rw[zEr lo hi n]
 show wpAny _ _ (pure (((sIx n 0 lo:Nat):Int),(1:Int),Builtin.Slice.slicePlaces ((sIx n 0 lo:Nat):Int) ((sIx n n hi:Nat):Int) 1)) _ _ s
 rw[zE3]
 exact wpAny_pure h
theorem zHi (xs:Array Value) (i k:Nat):((List.range k).filterMap fun (m:Nat)=>xs[((i:Int)+(m:Int) * 1).toNat]?).toArray=((xs.toList.drop i).take k).toArray:=by
 have e:(fun (m:Nat)=>xs[((i:Int)+(m:Int) * 1).toNat]?)=fun m=>xs[i+m]? := by
  funext m
  have:((i:Int)+(m:Int) * 1).toNat=i+m:=by omega
  rw[this]
 rw[e]
 have:=pick_run xs i k
 rw[List.filterMap_map] at this
 have e2:((fun x=>xs[x]?) ∘ fun x=>i+x)=fun m=>xs[i+m]? := rfl
 rw[e2] at this
 rw[this]
theorem zAG {t sl:Addr}{items:Array Value}{vl vu:Value}{lo hi:Option Int}{Q:Value->Shared->Prop} (ht:IsTup s.heap t items) (hs:s.heap.IsSliceOf sl vl vu .none) (pl:IsPart vl lo) (pu:IsPart vu hi)
  (hw:¬ (sIx items.size 0 lo=0/\sIx items.size items.size hi=items.size))
  (h:Q (.ref s.heap.objs.size) { s with heap:=s.heap.push { cls:=.type "tuple",data:=.seq ((items.toList.drop (sIx items.size 0 lo)).take (sIx items.size items.size hi - sIx items.size 0 lo)).toArray } })
  (hsz:items.size <= sizeLine):wpAny (model prog w) A (getItem (.ref t) (.ref sl)) Q E s:=by
 have htake:sizeOk (.seq ((items.toList.drop (sIx items.size 0 lo)).take (sIx items.size items.size hi - sIx items.size 0 lo)).toArray):=by
  show ((items.toList.drop (sIx items.size 0 lo)).take (sIx items.size items.size hi - sIx items.size 0 lo)).toArray.size <= sizeLine
  rw[List.size_toArray,List.length_take,List.length_drop,Array.length_toList]
  omega
 have hj:sIx items.size items.size hi <= items.size:=zDk _ _ (Nat.le_refl _) hi
 obtain⟨os,hos,hcs,hds⟩:=id hs
 have hTs:s.TypeIs (.ref sl) "slice" := ⟨os,hos,hcs⟩
 unfold getItem
 try with_reducible refine wpAny_holding ?_
 first | refine wpAny_bind (wpAny_pure ?_) | skip
 refine wpAny_bind (wpAny_sequenceKey ht.typeIs (by decide) ?_)
 refine wpAny_bind (wpAny_callSpecial?_slot (name:=Str.ofString "__getitem__") ht.typeIs PyProof.Rows.slot_tuple_getitem
  (wpAny_call_entry PyProof.Rows.slot_tuple_getitem ht.typeIs entry_tuple_getitem ?_ (args_tuple_getitem _ _)))
 show wpAny _ _ (Builtin.Tuple.tupleItemsOf (.ref t) >>= _) _ _ s
 refine wpAny_bind (tupleItemsOf_ ht ?_)
 refine wpAny_bind (wpAny_typeOf hTs ?_)
 rw[if_pos (by decide)]
 refine wpAny_bind (zAR hs pl pu ?_)
 have hno:¬ ((((sIx items.size 0 lo:Nat):Int) == 0 && (1:Int) == 1 && (sIx items.size items.size hi - sIx items.size 0 lo) == items.size)=true):=by
  intro q
  rw[Bool.and_eq_true,Bool.and_eq_true] at q
  have q1:((sIx items.size 0 lo:Nat):Int)=0:=eq_of_beq q.1.1
  have q2:sIx items.size items.size hi - sIx items.size 0 lo=items.size:=eq_of_beq q.2
  exact hw ⟨by omega,by omega⟩
 show wpAny _ _ (if (((sIx items.size 0 lo:Nat):Int) == 0 && (1:Int) == 1 && (sIx items.size items.size hi - sIx items.size 0 lo) == items.size)=true then _ else _) _ _ s
 rw[if_neg hno,zHi]
 first
  | exact wpAny_bind (m:=Builtin.Tuple.tupleExact _) (wpAny_newObj_type (wpAny_pure ⟨_,rfl,wpAny_pure h⟩) htake)
  | exact wpAny_bind (m:=Builtin.Tuple.tupleExact _) (wpAny_newObj_type (wpAny_bind (wpAny_pure (wpAny_pure ⟨_,rfl,wpAny_pure h⟩))) htake)
  | exact wpAny_bind (wpAny_bind (m:=Builtin.Tuple.tupleExact _) (wpAny_newObj_type (wpAny_pure (wpAny_pure ⟨_,rfl,wpAny_pure h⟩)) htake))
  | exact wpAny_bind (wpAny_bind (m:=Builtin.Tuple.tupleExact _) (wpAny_newObj_type (wpAny_pure ⟨_,rfl,wpAny_pure h⟩) htake))
end
end HT
namespace L2
open PySem PySem.Spec PyProof.Rows
noncomputable abbrev TO:=St->Hp->(Option Int->Hp->Prop)->Prop
noncomputable def PO (X:Cx) (e:Option Expr) (t:TO):Prop :=
 ∀ (pins:List (Addr×Obj)) (s:Shared) (σ:St) (H:Hp) (Q:Option Int->Hp->Prop),Inv X pins σ H s->t σ H Q ->
  wpAny (model X.prog X.w) X.A (evalPart e X.env) (fun u s'=>∃ o H',Inv X pins σ H' s'/\IsPart u o/\Q o H') X.xe s
noncomputable def zIe:TO:=fun _ H Q=>Q none H
noncomputable def zMP (t:TE):TO:=fun σ H Q=>t σ H fun x H1=>∃ i,x=.int i/\Q (some i) H1
section
variable {X:Cx}{e:Expr}{te:TE}{lo hi:Option Expr}{tl th:TO}{pos p2:Pos}
theorem zJE:PO X none zIe:=by
 intro pins s σ H Q I h
 rw[evalPart_none]
 exact wpAny_pure ⟨none,H,I,.none,h⟩
theorem zIg (h:PE X e te):PO X (some e) (zMP te):=by
 intro pins s σ H Q I hw
 rw[evalPart_some]
 refine thn (h pins s σ H _ I hw) fun u s1 ⟨x,H1,I1,r1,q1⟩=>?_
 obtain⟨i,rfl,q⟩:=q1
 obtain⟨t,rfl⟩:=r1
 exact⟨some i,H1,I1,.int i t,q⟩
noncomputable def SlR (X:Cx) (r:V->Option Int->Option Int->Hp->VK->Prop):Prop :=
 ∀ (pins:List (Addr×Obj)) (s:Shared) (σ:St) (H:Hp) (x:V) (v vl vu:Value) (lo hi:Option Int) (sl:Addr) (Q:VK),Inv X pins σ H s->zZ x v->s.heap.IsSliceOf sl vl vu .none->IsPart vl lo->IsPart vu hi->r x lo hi H Q ->
  ∃ T id,typeLookup (.type T) "__getitem__" = pure (some (.builtin id))/\s.TypeIs v T/\wpAny (model X.prog X.w) X.A (getItem v (.ref sl)) (EP X pins σ Q) X.xe s
noncomputable def tSl (r:V->Option Int->Option Int->Hp->VK->Prop) (te:TE) (tl th:TO):TE:=fun σ H Q=>te σ H fun x H1=>tl σ H1 fun l H2=>th σ H2 fun u H3=>r x l u H3 Q
theorem zH3 {r:V->Option Int->Option Int->Hp->VK->Prop} (hr:SlR X r) (he:PE X e te) (hl:PO X lo tl) (hu:PO X hi th):PE X (.Subscript e (.Slice lo hi none p2) pos) (tSl r te tl th):=by
 intro pins s σ H Q I h
 refine Subscript_ (thn (he pins s σ H _ I h) fun v s1 ⟨x,H1,I1,r1,q1⟩=>?_)
 refine wpAny_Slice (thn (hl pins s1 σ H1 _ I1 q1) fun vl s2 ⟨l,H2,I2,pl,q2⟩=>thn (hu pins s2 σ H2 _ I2 q2) fun vu s3 ⟨u,H3,I3,pu,q3⟩=>?_)
 rw[evalPart_none]
 refine wpAny_pure ?_
 have I4:Inv X pins σ H3 { s3 with heap:=s3.heap.push { cls:=.type "slice",data:=.fields #[vl,vu,.none] } }:=I3.kept (t':=s3.toks) fun b ob q=>Heap.get?_push_of_some _ q
 obtain⟨T,id,hT,ht,hg⟩:=hr pins { s3 with heap:=s3.heap.push { cls:=.type "slice",data:=.fields #[vl,vu,.none] } } σ H3 x v vl vu l u s3.heap.objs.size Q I4 r1 (Heap.IsSliceOf.new ..) pl pu q3
 show wpAny (model X.prog X.w) X.A (subscriptTail e (.Slice lo hi none p2) v (.ref s3.heap.objs.size)) (EP X pins σ Q) X.xe { s3 with heap:=s3.heap.push { cls:=.type "slice",data:=.fields #[vl,vu,.none] } }
 exact tail_any (ops:=[.ref s3.heap.objs.size,v]) ht hT hg (by with_unfolding_all rfl)
noncomputable def Qe (xs:List V) (lo hi:Option Int):List V:=(xs.drop (HT.sIx xs.length 0 lo)).take (HT.sIx xs.length xs.length hi - HT.sIx xs.length 0 lo)
theorem zAP (xs:List V) (lo hi:Option Int):(Qe xs lo hi).length <= xs.length:=by
 unfold Qe
 rw[List.length_take,List.length_drop]
 omega
noncomputable def zMx (K:PySem.W.Frag):V->Option Int->Option Int->Hp->VK->Prop:=fun x lo hi H Q=>∃ a xs,x=.ref a/\SqT K H a xs /\
 ¬ (HT.sIx xs.length 0 lo=0/\HT.sIx xs.length xs.length hi=xs.length)/\∀ p,H p=none->Q (.ref p) (upd H p (.tup (Qe xs lo hi)))
theorem zLC:SlR X (zMx X.K):=by
 intro pins s σ H x v vl vu lo hi sl Q I rx hs pl pu h
 obtain⟨a,xs,rfl,hx,hw,q⟩:=h
 cases rx
 obtain⟨its,r,ht,hz⟩:=I.tuple hx
 have hlen:its.toArray.size=xs.length:=by rw[List.size_toArray];exact r.length.symm
 refine⟨"tuple",_,PyProof.Rows.slot_tuple_getitem.lookup,ht.typeIs,?_⟩
 refine HT.zAG ht hs pl pu (by rw[hlen];exact hw) ?_ (by rw[hlen];exact hz)
 rw[hlen]
 refine⟨.ref s.heap.objs.size,_,I.laid (t':=s.toks) (o:=.tup (Qe xs lo hi)) (fun b ob q=>Heap.get?_push_of_some _ q) (Nat.le_refl _) ?_,rfl,q _ (I.hok.fresh (Nat.le_refl _))⟩
 exact⟨Nat.le_trans (zAP xs lo hi) hz,_,(r.drop (HT.sIx xs.length 0 lo)).take (HT.sIx xs.length xs.length hi - HT.sIx xs.length 0 lo),IsTup.new _ _⟩
noncomputable def zFD (K:PySem.W.Frag):R2:=fun x y H Q=>∃ a b xs ys,x=.ref a/\y=.ref b/\SqT K H a xs/\SqT K H b ys/\xs≠[]/\xs.length+ys.length <= sizeLine /\
 (ys=[]->Q (.ref a) H)/\(ys≠[]->∀ p,H p=none->Q (.ref p) (upd H p (.tup (xs++ys))))
theorem zY.nil_iff {xs:List V}{us:List Value} (r:zY xs us):us=[]↔xs=[]:=by
 cases r with
 | nil=>simp
 | cons _ _=>simp
theorem qF:OpR X (binaryOp .Add) (zFD X.K):=by
 intro pins s σ H x y v u Q I rx ry h
 obtain⟨a,b,xs,ys,rfl,rfl,ha,hb,hx,hz,q1,q2⟩:=h
 cases rx
 cases ry
 obtain⟨its,r1,p1,_⟩:=I.tuple ha
 obtain⟨its2,r2,p2,_⟩:=I.tuple hb
 refine HT.zJJ p1 p2 (fun z=>hx (r1.nil_iff.mp z)) (fun z=>⟨.ref a,H,I,rfl,q1 (r2.nil_iff.mp z)⟩) (fun z=>?_) (by rw[<- r1.length,<- r2.length];exact hz)
 refine⟨.ref s.heap.objs.size,_,I.laid (t':=s.toks) (o:=.tup (xs++ys)) (fun b ob q=>Heap.get?_push_of_some _ q) (Nat.le_refl _) ?_,rfl,q2 (fun w=>z (r2.nil_iff.mpr w)) _ (I.hok.fresh (Nat.le_refl _))⟩
 exact⟨by rw[List.length_append];exact hz,_,r1.append r2,IsTup.new _ _⟩
end
end L2
namespace L2
open PySem PySem.Spec PyProof.Rows
noncomputable def ixN (n:Nat) (i:Int):Option Nat:=if 0 <= i then (if i < n then some i.toNat else none) else if -(n:Int) <= i then some (i+n).toNat else none
noncomputable def atI {α:Type} (xs:List α) (i:Int):Option α:=(ixN xs.length i).bind fun j=>xs[j]?
theorem zES {n:Nat}{i:Int}{j:Nat} (h:ixN n i=some j):seqIndex? i n=some j/\j < n /\ -(n:Int) <= i/\i < n:=by
 unfold ixN at h
 by_cases h0:0 <= i
 ·rw[if_pos h0] at h
  by_cases h1:i < n
  ·rw[if_pos h1] at h
   have e:i.toNat=j:=Option.some.inj h
   exact⟨by rw[seqIndex_of h0 h1,e],by omega,by omega,h1⟩
  ·rw[if_neg h1] at h;cases h
 ·rw[if_neg h0] at h
  by_cases h1:-(n:Int) <= i
  ·rw[if_pos h1] at h
   have e:(i+n).toNat=j:=Option.some.inj h
   exact⟨by rw[seqIndex_neg (by omega) h1,e],by omega,h1,by omega⟩
  ·rw[if_neg h1] at h;cases h
theorem zBh {α:Type}{xs:List α}{i:Int}{v:α} (h:atI xs i=some v):∃ j,seqIndex? i xs.length=some j/\xs[j]? = some v/\j < xs.length /\ -(xs.length:Int) <= i/\i < xs.length:=by
 unfold atI at h
 cases e:ixN xs.length i with
 | none=>rw[e] at h;cases h
 | some j =>
  rw[e] at h
  obtain⟨h1,h2,h3,h4⟩:=zES e
  exact⟨j,h1,h,h2,h3,h4⟩
noncomputable def zEh (b:Expr):Prop:=∀ o i,subscripted b false o i=operate [o,i] (getItem o i)
noncomputable def IxR (X:Cx) (r:R2):Prop :=
 ∀ (value slice:Expr) (pins:List (Addr×Obj)) (s:Shared) (σ:St) (H:Hp) (x y:V) (v u:Value) (Q:VK),Inv X pins σ H s->zZ x v->zZ y u->r x y H Q ->
  subscripted slice false v u=operate [v,u] (getItem v u)->wpAny (model X.prog X.w) X.A (subscriptTail value slice v u) (EP X pins σ Q) X.xe s
noncomputable def MtR (X:Cx) (id:String) (r:V->List V->Hp->VK->Prop):Prop :=
 ∀ (pins:List (Addr×Obj)) (s:Shared) (σ:St) (H:Hp) (x:V) (xs:List V) (v:Value) (us:List Value) (Q:VK),Inv X pins σ H s->zZ x v->zY xs us->r x xs H Q ->
  wpAny (model X.prog X.w) X.A (call (.builtin id) (v::us)) (EP X pins σ Q) X.xe s
section
variable {X:Cx}{a b:Expr}{ta tb:TE}{pos:Pos}
theorem IxR.or {r r':R2} (h:IxR X r) (h':IxR X r'):IxR X (fun x y H Q=>r x y H Q\/r' x y H Q):=by
 intro value slice pins s σ H x y v u Q I rx ry q hs
 rcases q with q | q
 ·exact h value slice pins s σ H x y v u Q I rx ry q hs
 ·exact h' value slice pins s σ H x y v u Q I rx ry q hs
theorem zL5 {r:R2} (hr:IxR X r) (ha:PE X a ta) (hb:PE X b tb) (hs:zEh b):PE X (.Subscript a b pos) (tOp r ta tb):=by
 intro pins s σ H Q I h
 exact Subscript_ (zH9 ha hb I h fun v u s2 x y H2 I2 rx ry q=>hr a b pins s2 σ H2 x y v u Q I2 rx ry q (hs _ _))
noncomputable def zM0 (K:PySem.W.Frag):R2:=fun x y H Q=>∃ p xs i v,x=.ref p/\y=.int i/\SqL K H p xs/\atI xs i=some v/\Q v H
noncomputable def zND (K:PySem.W.Frag):R2:=fun x y H Q=>∃ p xs i v,x=.ref p/\y=.int i/\SqT K H p xs/\atI xs i=some v/\Q v H
noncomputable def zMh:R2:=fun x y H Q=>∃ z i c,x=.str z/\y=.int i/\z.length <= sizeLine/\atI z.cps.toList i=some c/\Q (.str ⟨#[c]⟩) H
theorem zJu:IxR X (zM0 X.K):=by
 intro value slice pins s σ H x y v u Q I rx ry h hs
 obtain⟨p,xs,i,z,rfl,rfl,hq,he,q⟩:=h
 cases rx
 obtain⟨t,rfl⟩:=ry
 obtain⟨its,r,pl,hz⟩:=I.list hq
 obtain⟨j,h1,h2,h3,h4,h5⟩:=zBh he
 obtain⟨w,ew,rw'⟩:=r.get h2
 have hl:=r.length
 have hn:=Z2
 have fin:EP X pins σ Q w s:=⟨z,H,I,rw',q⟩
 by_cases h0:0 <= i
 ·have hj:i.toNat=j:=by
   rw[seqIndex_of h0 h5] at h1
   exact Option.some.inj h1
  exact item_listR pl.isList h0 (by omega) (by rw[hj];simpa using ew) fin hs
 ·have hj:(i+(its.toArray.size:Int)).toNat=j:=by
   rw[seqIndex_neg (by omega) h4] at h1
   rw[List.size_toArray,<- hl]
   exact Option.some.inj h1
  exact subscriptTail_builtinR (x:=w) pl.isList.typeIs slot_list_getitem.lookup
   (wpAny_getItem_list_neg (Q:=fun r s'=>r=w/\EP X pins σ Q r s') pl.isList (by omega) (by rw[List.size_toArray]<;>omega) (by omega) (by rw[hj];simpa using ew) ⟨rfl,fin⟩) hs
theorem zKj:IxR X (zND X.K):=by
 intro value slice pins s σ H x y v u Q I rx ry h hs
 obtain⟨p,xs,i,z,rfl,rfl,hq,he,q⟩:=h
 cases rx
 obtain⟨t,rfl⟩:=ry
 obtain⟨its,r,pl,hz⟩:=I.tuple hq
 obtain⟨j,h1,h2,h3,h4,h5⟩:=zBh he
 obtain⟨w,ew,rw'⟩:=r.get h2
 have hl:=r.length
 have hn:=Z2
 have fin:EP X pins σ Q w s:=⟨z,H,I,rw',q⟩
 exact subscriptTail_builtinR (x:=w) pl.typeIs slot_tuple_getitem.lookup
  (getItem_tuple (j:=j) (Q:=fun r s'=>r=w/\EP X pins σ Q r s') pl (by omega) (by omega) (by rw[List.size_toArray,<- hl];exact h1) (by simpa using ew) ⟨rfl,fin⟩) hs
theorem zKr:IxR X zMh:=by
 intro value slice pins s σ H x y v u Q I rx ry h hs
 obtain⟨z,i,c,rfl,rfl,hz,he,q⟩:=h
 obtain⟨t,rfl⟩:=rx
 obtain⟨t',rfl⟩:=ry
 obtain⟨j,h1,h2,h3,h4,h5⟩:=zBh he
 have hl:z.cps.toList.length=z.length:=by simp[Str.length]
 rw[hl] at h1 h4 h5
 have hn:=Z2
 exact tail_any (typeIs_str s z t) slot_str_getitem.lookup (getItem_str (c:=c) (by
  have e1:decide (i < -(2 ^ 63:Int))=false:=decide_eq_false (by omega)
  have e2:decide (i ≥ 2 ^ 63)=false:=decide_eq_false (by omega)
  rw[e1,e2,Bool.or_false]) (by rw[h1];simpa using h2) ⟨.str ⟨#[c]⟩,H,I.tok _,⟨_,rfl⟩,q⟩) hs
theorem zFH (its:List Value) (n j:Nat) (u:Value):Obj.mapSeq (·.setIfInBounds j u) { cls:=.type "list",data:=.seq its.toArray n }={ cls:=.type "list",data:=.seq (its.set j u).toArray n }:=by
 simp[Obj.mapSeq]
theorem Inv.lst {pins:List (Addr×Obj)}{σ:St}{H:Hp}{s:Shared}{p:Addr}{xs:List V} (I:Inv X pins σ H s) (h:H p=some (.lst xs)) :
  ∃ (its:List Value) (n:Nat),zY xs its/\s.heap.get? p=some { cls:=.type "list",data:=.seq its.toArray n }/\xs.length <= sizeLine:=by
 obtain⟨z,its,n,r,e⟩:=I.hok p _ h
 exact⟨its,n,r,e,z⟩
theorem Inv.lstUpd {pins:List (Addr×Obj)}{σ:St}{H:Hp}{s:Shared}{p:Addr}{xs ys:List V}{its its':List Value}{n n':Nat}{f:Obj->Obj} (I:Inv X pins σ H s) (h:H p=some (.lst xs))
  (ho:s.heap.get? p=some { cls:=.type "list",data:=.seq its.toArray n }) (hf:f { cls:=.type "list",data:=.seq its.toArray n }={ cls:=.type "list",data:=.seq its'.toArray n' }) (r:zY ys its') (hz:ys.length <= sizeLine) (t:Nat) (ht:0 < t:=by first | exact Nat.succ_pos _ | assumption | exact Inv.tk (by assumption) | omega) :
  Inv X pins σ (upd H p (.lst ys)) { s with heap:=s.heap.update p f,toks:=t }:=by
 have e:(s.heap.update p f).get? p=some { cls:=.type "list",data:=.seq its'.toArray n' }:=by
  rw[Heap.get?_update_self f ho (by rw[hf]<;>rfl),hf]
 refine I.write (x:=p) (e:=p) (by rw[h];trivial) (.inl rfl) (fun b u hb q=>(Heap.get?_update_other _ _ (Ne.symm hb)).trans q) ⟨_,e⟩ ?_
 exact⟨hz,its',n',r,e⟩
noncomputable def zLq:V->V->V->Hp->(Hp->Prop)->Prop:=fun o i v H Q=>∃ p xs k j,o=.ref p/\i=.int k/\H p=some (.lst xs)/\ixN xs.length k=some j/\Q (upd H p (.lst (xs.set j v)))
theorem zHH:zKS X zLq:=by
 intro pins s σ H o i v ov iv u Q I ro ri rv h
 obtain⟨p,xs,k,j,rfl,rfl,hp,hj,q⟩:=h
 cases ro
 obtain⟨t,rfl⟩:=ri
 obtain⟨its,n,r,ho,hz⟩:=I.lst hp
 obtain⟨h1,h2,h3,h4⟩:=zES hj
 have hl:=r.length
 have hn:=Z2
 have I':Inv X pins σ (upd H p (.lst (xs.set j v))) { s with heap:=s.heap.update p (Obj.mapSeq (·.setIfInBounds j u)) } :=
  I.lstUpd hp ho (zFH its n j u) (r.set rv j) (by rw[List.length_set];exact hz) s.toks
 by_cases h0:0 <= k
 ·have hk:k.toNat=j:=by
   rw[seqIndex_of h0 h4] at h1
   exact Option.some.inj h1
  exact PySem.W.ki_setAt ho h0 (by omega) (by rw[List.size_toArray,<- hl];exact h4) (by rw[hk];exact⟨_,I',q⟩)
 ·have hk:(k+(its.toArray.size:Int)).toNat=j:=by
   rw[seqIndex_neg (by omega) h3] at h1
   rw[List.size_toArray,<- hl]
   exact Option.some.inj h1
  exact PySem.W.ki_setBack ho (by omega) (by rw[List.size_toArray,<- hl];exact h3) (by omega) (by rw[hk];exact⟨_,I',q⟩)
theorem zDD (lo hi:Option Int) (n:Nat):(sliceBounds lo hi none n).1=((HT.sIx n 0 lo:Nat):Int)/\(sliceBounds lo hi none n).2.1=((HT.sIx n n hi:Nat):Int)/\(sliceBounds lo hi none n).2.2=1:=by
 refine⟨?_,?_,rfl⟩
 ·cases lo with
  | none=>simp[sliceBounds,HT.sIx]
  | some i =>
   simp only[sliceBounds,HT.sIx,Option.getD_none,show (1:Int) > 0 by decide,if_true]
   by_cases h:i < 0
   ·simp only[h,if_true]<;>omega
   ·simp only[h,if_false]<;>omega
 ·cases hi with
  | none=>simp[sliceBounds,HT.sIx]
  | some i =>
   simp only[sliceBounds,HT.sIx,Option.getD_none,show (1:Int) > 0 by decide,if_true]
   by_cases h:i < 0
   ·simp only[h,if_true]<;>omega
   ·simp only[h,if_false]<;>omega
theorem zCh (its:List Value) (lo hi:Option Int):slicePick its.toArray lo hi none=((its.drop (HT.sIx its.length 0 lo)).take (HT.sIx its.length its.length hi - HT.sIx its.length 0 lo)).toArray:=by
 obtain⟨h1,h2,h3⟩:=zDD lo hi its.toArray.size
 unfold slicePick
 rw[h1,h2,h3]
 simp only[sliceRange_one,pick_run,List.size_toArray]<;>rfl
noncomputable def zMf (K:PySem.W.Frag):V->Option Int->Option Int->Hp->VK->Prop:=fun x lo hi H Q=>∃ a xs,x=.ref a/\SqL K H a xs/\∀ p,H p=none->Q (.ref p) (upd H p (.lst (Qe xs lo hi)))
theorem zJh:SlR X (zMf X.K):=by
 intro pins s σ H x v vl vu lo hi sl Q I rx hs pl pu h
 obtain⟨a,xs,rfl,hx,q⟩:=h
 cases rx
 obtain⟨its,r,ht,hz⟩:=I.list hx
 have hlen:=r.length
 refine⟨"list",_,slot_list_getitem.lookup,ht.isList.typeIs,?_⟩
 refine wpAny_getItem_list_slice ht.isList hs pl pu .none (by simp) ?_ (by rw[List.size_toArray]<;>omega)
 rw[zCh,<- hlen]
 refine⟨.ref s.heap.objs.size,_,I.laid (t':=s.toks) (o:=.lst (Qe xs lo hi)) (fun b ob q=>Heap.get?_push_of_some _ q) (Nat.le_refl _) ?_,rfl,q _ (I.hok.fresh (Nat.le_refl _))⟩
 exact⟨Nat.le_trans (zAP xs lo hi) hz,_,0,(r.drop (HT.sIx xs.length 0 lo)).take (HT.sIx xs.length xs.length hi - HT.sIx xs.length 0 lo),Heap.get?_push_size _ rfl⟩
noncomputable def qL:V->Bool
 | .non=>true
 | .bl _=>true
 | .int _=>true
 | .str _=>true
 | _=>false
noncomputable def eqV:V->V->Bool
 | .non,.non=>true
 | .bl a,.bl b=>a == b
 | .bl a,.int b=>(if a then 1 else 0) == b
 | .int a,.bl b=>a == (if b then 1 else 0)
 | .int a,.int b=>a == b
 | .str a,.str b=>a == b
 | _,_=>false
theorem zKo {A:Around}{s:Shared}{y x:V}{u v:Value} (ry:zZ y u) (rx:zZ x v) (fy:qL y=true) (fx:qL x=true):SeqAt.EqAt A s u v (eqV y x):=by
 cases y with
 | non =>
  cases ry
  cases x with
  | non=>cases rx;exact SeqAt.EqAt.same _
  | bl b=>cases rx;exact SeqAt.EqAt.none_bool b
  | int b=>obtain⟨t,rfl⟩:=rx;exact SeqAt.EqAt.none_int b t
  | str b=>obtain⟨t,rfl⟩:=rx;exact SeqAt.EqAt.none_str b t
  | _=>exact absurd (show false=true from fx) Bool.false_ne_true
 | bl a =>
  cases ry
  cases x with
  | non=>cases rx;exact SeqAt.EqAt.bool_none a
  | bl b=>cases rx;exact SeqAt.EqAt.bool_bool a b
  | int b=>obtain⟨t,rfl⟩:=rx;exact SeqAt.EqAt.bool_int a b t
  | str b=>obtain⟨t,rfl⟩:=rx;exact SeqAt.EqAt.bool_str a b t
  | _=>exact absurd (show false=true from fx) Bool.false_ne_true
 | int a =>
  obtain⟨t',rfl⟩:=ry
  cases x with
  | non=>cases rx;exact SeqAt.EqAt.int_none a t'
  | bl b=>cases rx;exact SeqAt.EqAt.int_bool a t' b
  | int b=>obtain⟨t,rfl⟩:=rx;exact SeqAt.EqAt.int_int a t' b t
  | str b=>obtain⟨t,rfl⟩:=rx;exact SeqAt.EqAt.int_str a t' b t
  | _=>exact absurd (show false=true from fx) Bool.false_ne_true
 | str a =>
  obtain⟨t',rfl⟩:=ry
  cases x with
  | non=>cases rx;exact SeqAt.EqAt.str_none a t'
  | bl b=>cases rx;exact SeqAt.EqAt.str_bool a t' b
  | int b=>obtain⟨t,rfl⟩:=rx;exact SeqAt.EqAt.str_int a t' b t
  | str b=>obtain⟨t,rfl⟩:=rx;exact SeqAt.EqAt.str_str a t' b t
  | _=>exact absurd (show false=true from fx) Bool.false_ne_true
 | _=>exact absurd (show false=true from fy) Bool.false_ne_true
noncomputable def eqU (x:V) (u:Value):Bool:=match u with
 | .none=>eqV .non x
 | .bool b=>eqV (.bl b) x
 | .int i _=>eqV (.int i) x
 | .str z _=>eqV (.str z) x
 | _=>false
theorem zFr {x y:V}{u:Value} (r:zZ y u) (f:qL y=true):eqU x u=eqV y x:=by
 cases y with
 | non=>cases r;rfl
 | bl b=>cases r;rfl
 | int i=>obtain⟨t,rfl⟩:=r;rfl
 | str z=>obtain⟨t,rfl⟩:=r;rfl
 | _=>exact absurd (show false=true from f) Bool.false_ne_true
theorem Q4 {x:V}:∀ {xs:List V}{us:List Value},zY xs us->xs.all qL=true->us.any (eqU x)=xs.any fun y=>eqV y x
 | _,_,.nil,_=>rfl
 | y::xs,u::us,.cons r t,f=>by
  rw[List.all_cons,Bool.and_eq_true] at f
  rw[List.any_cons,List.any_cons,zFr r f.1,Q4 t f.2]
theorem QC {A:Around}{s:Shared}{x:V}{v:Value} (rx:zZ x v) (fx:qL x=true):∀ {xs:List V}{us:List Value},zY xs us->xs.all qL=true->∀ u∈us,SeqAt.EqAt A s u v (eqU x u)
 | _,_,.nil,_=>fun u hu=>by cases hu
 | y::xs,u::us,.cons r t,f=>fun u' hu=>by
  rw[List.all_cons,Bool.and_eq_true] at f
  rcases List.mem_cons.mp hu with rfl | hu
  ·rw[zFr r f.1];exact zKo r rx f.1 fx
  ·exact QC rx fx t f.2 u' hu
noncomputable def inV (x:V) (xs:List V):Bool:=xs.any fun y=>eqV y x
noncomputable def rIn (K:PySem.W.Frag) (neg:Bool):R2:=fun x y H Q=>∃ p xs,y=.ref p/\(SqL K H p xs\/SqT K H p xs)/\qL x=true/\xs.all qL=true/\Q (.bl (if neg then !inV x xs else inV x xs)) H
theorem zGI:OpR X (compareOp .In) (rIn X.K false):=by
 intro pins s σ H x y v u Q I rx ry h
 obtain⟨p,xs,rfl,hq,fx,fs,q⟩:=h
 cases ry
 rcases hq with hq | hq
 ·obtain⟨its,r,pl,hz⟩:=I.list hq
  refine SeqAt.in_listAt (eqU x) pl.isList (fun w hw=>QC rx fx r fs w (by simpa using hw)) ⟨.bl _,H,I,rfl,?_⟩
  rw[show its.toArray.any (eqU x)=its.any (eqU x) by simp,Q4 r fs]
  exact q
 ·obtain⟨its,r,pl,hz⟩:=I.tuple hq
  refine SeqAt.in_tupleAt (eqU x) pl (fun w hw=>QC rx fx r fs w (by simpa using hw)) ⟨.bl _,H,I,rfl,?_⟩
  rw[show its.toArray.any (eqU x)=its.any (eqU x) by simp,Q4 r fs]
  exact q
theorem zC9:OpR X (compareOp .NotIn) (rIn X.K true):=by
 intro pins s σ H x y v u Q I rx ry h
 obtain⟨p,xs,rfl,hq,fx,fs,q⟩:=h
 cases ry
 rcases hq with hq | hq
 ·obtain⟨its,r,pl,hz⟩:=I.list hq
  refine SeqAt.notIn_listAt (eqU x) pl.isList (fun w hw=>QC rx fx r fs w (by simpa using hw)) ⟨.bl _,H,I,rfl,?_⟩
  rw[show its.toArray.any (eqU x)=its.any (eqU x) by simp,Q4 r fs]
  exact q
 ·obtain⟨its,r,pl,hz⟩:=I.tuple hq
  refine SeqAt.notIn_tupleAt (eqU x) pl (fun w hw=>QC rx fx r fs w (by simpa using hw)) ⟨.bl _,H,I,rfl,?_⟩
  rw[show its.toArray.any (eqU x)=its.any (eqU x) by simp,Q4 r fs]
  exact q
theorem zDR:jh X (.builtin "len") (fun xs H Q=>∃ p ys,xs=[.ref p]/\(SqL X.K H p ys\/SqT X.K H p ys)/\Q (.int ys.length) H):=by
 intro pins s σ H xs us Q I r h
 obtain⟨p,ys,rfl,hq,q⟩:=h
 obtain⟨u,rfl,rx⟩:=yd r
 cases rx
 have hn:=Z2
 rcases hq with hq | hq
 ·obtain⟨its,r',pl,hz⟩:=I.list hq
  have hlen:=r'.length
  exact Calls.call_len_list pl.isList (by simp only[List.size_toArray]<;>omega) ⟨.int ys.length,H,I.tok _,⟨s.toks+1,by rw[List.size_toArray,hlen]⟩,q⟩
 ·obtain⟨its,r',pl,hz⟩:=I.tuple hq
  have hlen:=r'.length
  exact len_tuple pl (by simp only[List.size_toArray]<;>omega) ⟨.int ys.length,H,I.tok _,⟨s.toks+1,by rw[List.size_toArray,hlen]⟩,q⟩
theorem zD4:jh X (.builtin "len") (fun xs H Q=>∃ z,xs=[.str z]/\z.length <= sizeLine/\Q (.int z.length) H):=by
 intro pins s σ H xs us Q I r h
 obtain⟨z,rfl,hz,q⟩:=h
 obtain⟨u,rfl,t,rfl⟩:=yd r
 have hn:=Z2
 exact len_str (by omega) ⟨.int z.length,H,I.tok _,⟨_,rfl⟩,q⟩
theorem jh.or {f:Value}{r r':List V->Hp->VK->Prop} (h:jh X f r) (h':jh X f r'):jh X f (fun xs H Q=>r xs H Q\/r' xs H Q):=by
 intro pins s σ H xs us Q I rs q
 rcases q with q | q
 ·exact h pins s σ H xs us Q I rs q
 ·exact h' pins s σ H xs us Q I rs q
theorem zD3:jh X (.type "list") (fun xs H Q=>∃ p ys,xs=[.ref p]/\(SqL X.K H p ys\/SqT X.K H p ys)/\∀ l,H l=none->Q (.ref l) (upd H l (.lst ys))):=by
 intro pins s σ H xs us Q I r h
 obtain⟨p,ys,rfl,hq,q⟩:=h
 obtain⟨u,rfl,rx⟩:=yd r
 cases rx
 have fin:∀ (its:List Value),zY ys its->ys.length <= sizeLine->∀ (h':Heap) (c':Nat),(∀ b o',s.heap.get? b=some o'->h'.get? b=some o') ->
   h'.get? s.heap.objs.size=some { cls:=.type "list",dict:=none,data:=.seq its.toArray c',slots:=#[] }->EP X pins σ Q (.ref s.heap.objs.size) { s with heap:=h' }:=fun its r' hz h' c' kp e =>
  ⟨.ref s.heap.objs.size,_,I.laid (t':=s.toks) kp (Nat.le_refl _) (show jK X.prog X.w _ h' _ (.lst ys) from ⟨hz,its,c',r',e⟩),rfl,q _ (I.hok.fresh (Nat.le_refl _))⟩
 rcases hq with hq | hq
 ·obtain⟨its,r',pl,hz⟩:=I.list hq
  have hlen:=r'.length
  obtain⟨o,ho,hc,n,hd⟩:=pl.isList
  exact call_list_seq p (.inl rfl) ho hc hd (fun h' c' kp e=>fin its r' hz h' c' kp e) (by simp only[List.size_toArray]<;>omega)
 ·obtain⟨its,r',pl,hz⟩:=I.tuple hq
  have hlen:=r'.length
  obtain⟨o,ho,hc,n,hd⟩:=pl
  exact call_list_seq p (.inr rfl) ho hc hd (fun h' c' kp e=>fin its r' hz h' c' kp e) (by simp only[List.size_toArray]<;>omega)
theorem zCU:jh X (.type "tuple") (fun xs H Q=>∃ p ys,xs=[.ref p]/\((SqL X.K H p ys/\∀ l,H l=none->Q (.ref l) (upd H l (.tup ys)))\/(SqT X.K H p ys/\Q (.ref p) H))):=by
 intro pins s σ H xs us Q I r h
 obtain⟨p,ys,rfl,h⟩:=h
 obtain⟨u,rfl,rx⟩:=yd r
 cases rx
 rcases h with ⟨hq,q⟩ | ⟨hq,q⟩
 ·obtain⟨its,r',pl,hz⟩:=I.list hq
  have hlen:=r'.length
  refine call_tuple_list pl.isList (fun h' kp=>?_) (by simp only[List.size_toArray]<;>omega)
  have I1:Inv X pins σ H { s with heap:=h' }:=I.kept (t':=s.toks) kp
  have I2:Inv X pins σ (upd H h'.objs.size (.tup ys)) { s with heap:=h'.push { cls:=.type "tuple",data:=.seq its.toArray } } :=
   I1.laid (t':=s.toks) (fun b o e=>Heap.get?_push_of_some _ e) (Nat.le_refl _) (show jK X.prog X.w _ _ _ (.tup ys) from ⟨hz,its,r',IsTup.new _ _⟩)
  exact⟨.ref h'.objs.size,_,I2,rfl,q _ (I1.hok.fresh (Nat.le_refl _))⟩
 ·obtain⟨its,r',pl,hz⟩:=I.tuple hq
  exact call_tuple_same pl ⟨.ref p,H,I,rfl,q⟩
noncomputable def tyV (K:PySem.W.Frag) (T:String) (x:V) (H:Hp):Prop:=match x with
 | .str _=>T = "str"
 | .int _=>T = "int"
 | .ref p=>(T = "list" /\ ∃ xs,SqL K H p xs)\/(T = "tuple" /\ ∃ o,K.lookup p=some o/\o.cls=.type "tuple" /\ o.dict=none) \/
   (T = "dict" /\ ((∃ kvs,H p=some (.dK kvs))\/(∃ kvs,H p=some (.dT kvs))\/∃ φ:Heap->Prop,H p=some (.ext φ)/\∀ h,φ h->∃ o,h.get? p=some o/\o.ExactDict))\/(T = "set" /\ ∃ S n,H p=some (.set S n))
 | _=>False
theorem zJ4 {pins:List (Addr×Obj)}{σ:St}{H:Hp}{s:Shared}{T:String}{x:V}{v:Value} (I:Inv X pins σ H s) (r:zZ x v) (ty:tyV X.K T x H) :
  s.TypeIs v T/\∀ a,v=.ref a->∃ ob,s.heap.get? a=some ob/\ob.dict=none:=by
 cases x with
 | str z =>
  obtain⟨t,rfl⟩:=r
  cases (show T = "str" from ty)
  exact⟨typeIs_str s z t,fun _ e=>nomatch e⟩
 | int i =>
  obtain⟨t,rfl⟩:=r
  cases (show T = "int" from ty)
  exact⟨typeIs_int s i t,fun _ e=>nomatch e⟩
 | ref p =>
  cases r
  rcases ty with ⟨rfl,xs,hq⟩ | ⟨rfl,o,hk,hc,hd⟩ | ⟨rfl,hk⟩ | ⟨rfl,S,n,hk⟩
  ·obtain⟨its,_,pl,_⟩:=I.list hq
   refine⟨pl.isList.typeIs,fun a e=>?_⟩
   cases e
   obtain⟨o,n,e,c,hd,_⟩:=pl
   exact⟨o,e,hd⟩
  ·refine⟨⟨o,I.kIn p o hk,hc⟩,fun a e=>?_⟩
   cases e
   exact⟨o,I.kIn _ o hk,hd⟩
  ·have z:∃ o,s.heap.get? p=some o/\o.ExactDict:=by
    rcases hk with ⟨kvs,hk⟩ | ⟨kvs,hk⟩ | ⟨φ,hk,hz⟩
    ·obtain⟨_,_,_,_,o,_,_,e,ex,_⟩:=I.hok p _ hk
     exact⟨o,e,ex⟩
    ·obtain⟨_,_,_,_,o,_,_,e,ex,_⟩:=I.hok p _ hk
     exact⟨o,e,ex⟩
    ·exact hz _ (I.hok p _ hk).1
   obtain⟨o,e,ex⟩:=z
   refine⟨⟨o,e,ex.1⟩,fun a e2=>?_⟩
   cases e2
   exact⟨o,e,ex.2.1⟩
  ·obtain⟨o,_,_,_,e,ex,_⟩:=I.hok p _ hk
   refine⟨⟨o,e,ex.1⟩,fun a e2=>?_⟩
   cases e2
   exact⟨o,e,ex.2.1⟩
 | _=>exact False.elim ty
noncomputable def tBM (K:PySem.W.Frag) (T:String) (r:V->List V->Hp->VK->Prop) (to:TE) (t:TA):TE:=fun σ H Q=>to σ H fun x H1=>tyV K T x H1/\t σ H1 fun xs H2=>r x xs H2 Q
variable {o e:Expr}{es:List Expr}{to:TE}{t:TA}{name:Str}{apos cpos:Pos}{T id:String}{r:V->List V->Hp->VK->Prop}
theorem zIS (pa:PlainAttrs T) (slot:Slot T name id) (hty:typeOf (.builtin id)=pure (.type "method_descriptor")) (hm:MtR X id r) (ho:PE X o to) (ha:PA X (e::es) t)
  (hbase:attributeBase o name X.env (eval o X.env)=eval o X.env:=by rfl)
  (hfew:((backTo cpos (starEach (e::es) X.env)).all (fun x=>!x.1) && (backToKw cpos (keywordEach [] X.env)).all (fun x=>x.1.isSome)
   && decide ((e::es).length+([]:List Keyword).length+(if ([]:List Keyword).isEmpty then 0 else 1) < 30))=true:=by rfl)
  (hline:(apos.endLine == cpos.line)=true:=by rfl) (hs:starEach (e::es) X.env=(false,eval e X.env)::starEach es X.env:=by rfl) (hplain:(backTo cpos (starEach es X.env)).any (·.1)=false:=by rfl) :
  PE X (.Call (.Attribute o name apos) (e::es) [] cpos) (tBM X.K T r to t):=by
 intro pins s σ H Q I h
 refine wpAny_Call_method_late hbase hfew hline rfl (thn (ho pins s σ H _ I h) fun v s1 ⟨x,H1,I1,r1,ty,q1⟩=>?_)
 obtain⟨h1,h2⟩:=zJ4 I1 r1 ty
 refine⟨T,id,pa,slot,hty,h1,h2,?_⟩
 have hA:=ha cpos pins s1 σ H1 _ I1 q1
 rw[hs] at hA ⊢
 refine Calls.callWith_builtin (by show (false || (backTo cpos (starEach es X.env)).any (·.1))=false;rw[hplain]<;>rfl) (Calls.evalArgs_plain ?_)
 exact thn hA fun us s2 ⟨vs,H2,I2,r2,q2⟩=>hm pins s2 σ H2 x vs v us Q I2 r1 r2 q2
end
end L2
namespace L2
open PySem PySem.Spec PyProof.Rows
noncomputable def MtM (X:Cx) (id:String) (r:V->List V->Hp->VK->Prop):Prop :=
 ∀ (pins:List (Addr×Obj)) (s:Shared) (σ:St) (H:Hp) (x:V) (xs:List V) (v:Value) (us:List Value) (Q:VK),Inv X pins σ H s->zZ x v->zY xs us->r x xs H Q ->
  wpAny (model X.prog X.w) X.A (call (.builtin id) (v::us)) (EP X pins σ Q) X.xe s
theorem zY.one:∀ {x:V}{us:List Value},zY [x] us->∃ u,us=[u]/\zZ x u
 | _,_,.cons r .nil=>⟨_,rfl,r⟩
theorem zY.rep {xs:List V}{us:List Value} (h:zY xs us):∀ k:Nat,zY (List.replicate k xs).flatten (List.replicate k us).flatten
 | 0=>.nil
 | k+1=>by
  rw[List.replicate_succ,List.replicate_succ,List.flatten_cons,List.flatten_cons]
  exact zY.append h (zY.rep h k)
theorem zCI (its:List Value):∀ (k:Nat) (acc:List Value),
  List.foldl (fun x1 x2=>x1++x2) acc.toArray (List.replicate k its.toArray)=(acc++(List.replicate k its).flatten).toArray
 | 0,acc=>by simp
 | k+1,acc=>by
  have e:acc.toArray++its.toArray=(acc++its).toArray:=by simp
  have e2:(acc++its)++(List.replicate k its).flatten=acc++(List.replicate (k+1) its).flatten:=by
   rw[List.replicate_succ,List.flatten_cons,List.append_assoc]
  rw[<- e2,<- zCI its k (acc++its),<- e,List.replicate_succ,List.foldl_cons]
section
variable {X:Cx}{pins:List (Addr×Obj)}{σ:St}{H:Hp}{s:Shared}{l b:Addr}{xs ys zs:List V}
theorem Inv.lset {its its':List Value}{n:Nat}{f:Array Value->Array Value}{t':Nat} (I:Inv X pins σ H s) (hH:H l=some (.lst xs))
  (e:s.heap.get? l=some { cls:=.type "list",data:=.seq its.toArray n }) (hf:f its.toArray=its'.toArray) (hv:zY ys its') (hz:ys.length <= sizeLine) (ht:0 < t':=by first | exact Nat.succ_pos _ | assumption | exact Inv.tk (by assumption) | omega) :
  Inv X pins σ (upd H l (.lst ys)) { s with heap:=s.heap.update l (Obj.mapSeq f),toks:=t' }:=by
 have q:=PySem.IsL.update e f
 rw[hf] at q
 refine I.write (x:=l) (e:=l) (by rw[hH];exact trivial) (.inl rfl) (fun b' u hb hu=>(Heap.get?_update_other s.heap (Obj.mapSeq f) (Ne.symm hb)).trans hu) ⟨_,q⟩ ?_
 exact⟨hz,its',_,hv,q⟩
theorem Inv.lnew {its:List Value}{t':Nat} (I:Inv X pins σ H s) (hv:zY ys its) (hz:ys.length <= sizeLine) (ht:0 < t':=by first | exact Nat.succ_pos _ | assumption | exact Inv.tk (by assumption) | omega) :
  Inv X pins σ (upd H s.heap.objs.size (.lst ys)) { s with heap:=s.heap.push { cls:=.type "list",data:=.seq its.toArray },toks:=t' } :=
 I.laid (fun _ _ q=>Heap.get?_push_of_some _ q) (Nat.le_refl _) ⟨hz,its,0,hv,Heap.get?_push_size _ rfl⟩
theorem Inv.fresh (I:Inv X pins σ H s):H s.heap.objs.size=none:=I.hok.fresh (Nat.le_refl _)
theorem Inv.lstM (I:Inv X pins σ H s) (hH:H l=some (.lst xs)):xs.length <= sizeLine/\∃ (its:List Value) (n:Nat),zY xs its/\xs.length=its.length/\s.heap.get? l=some { cls:=.type "list",data:=.seq its.toArray n }:=by
 obtain⟨z,its,n,r,e⟩:=I.hok l _ hH
 exact⟨z,its,n,r,r.length,e⟩
theorem zHs {n:Nat} (h:n <= sizeLine):Builtin.List.listTooLong n=false:=by
 unfold Builtin.List.listTooLong
 exact decide_eq_false (by omega)
end
section
variable {X:Cx}
noncomputable def zEm:V->List V->Hp->VK->Prop:=fun x vs H Q=>∃ l xs y,x=.ref l/\vs=[y]/\H l=some (.lst xs)/\xs.length < sizeLine/\Q .non (upd H l (.lst (xs++[y])))
theorem zGa:MtM X "list.append" zEm:=by
 intro pins s σ H x vs v us Q I rx rv h
 obtain⟨l,xs,y,rfl,rfl,hH,hz,q⟩:=h
 cases rx
 obtain⟨u,rfl,ru⟩:=rv.one
 obtain⟨z,its,n,r,hl,e⟩:=I.lstM hH
 refine call_meets F.slot_list_append ⟨_,e,rfl⟩ F.entry_list_append (F.args_list_append_2 _ _) (PySem.list_append l its.toArray n u (by rw[List.size_toArray];omega)) ⟨e,?_⟩
 refine⟨.non,_,I.lset (its':=its++[u]) hH e (by simp) (r.append (.cons ru .nil)) ?_,rfl,q⟩
 rw[List.length_append,List.length_singleton]
 omega
noncomputable def zMn:R2:=fun x y H Q=>∃ l b xs zs,x=.ref l/\y=.ref b/\H l=some (.lst xs)/\H b=some (.lst zs)/\xs.length+zs.length <= sizeLine/\∀ p,H p=none->Q (.ref p) (upd H p (.lst (xs++zs)))
theorem zLQ:OpR X (binaryOp .Add) zMn:=by
 intro pins s σ H x y v u Q I rx ry h
 obtain⟨l,b,xs,zs,rfl,rfl,hH,hB,hz,q⟩:=h
 cases rx
 cases ry
 obtain⟨z,its,n,r,hl,e⟩:=I.lstM hH
 obtain⟨z2,its2,n2,r2,hl2,e2⟩:=I.lstM hB
 refine PySem.P.add_list e e2 ?_ (by rw[List.size_toArray,List.size_toArray];omega)
 have ea:its.toArray++its2.toArray=(its++its2).toArray:=by simp
 rw[ea]
 exact⟨.ref _,_,I.lnew (t':=s.toks) (r.append r2) (by rw[List.length_append];omega),rfl,q _ I.fresh⟩
noncomputable def zJv:R2:=fun x y H Q=>∃ l k xs,x=.ref l/\y=.int k/\H l=some (.lst xs) /\ -(2 ^ 63) <= k/\k < 2 ^ 63/\xs.length * k.toNat <= sizeLine /\
 ∀ p,H p=none->Q (.ref p) (upd H p (.lst (List.replicate k.toNat xs).flatten))
theorem zI6 {α:Type} (xs:List α) (k:Nat):(List.replicate k xs).flatten.length=k * xs.length:=by
 induction k with
 | zero=>simp
 | succ k ih=>rw[List.replicate_succ,List.flatten_cons,List.length_append,ih,Nat.succ_mul,Nat.add_comm]
theorem zKJ:OpR X (binaryOp .Mult) zJv:=by
 intro pins s σ H x y v u Q I rx ry h
 obtain⟨l,k,xs,rfl,rfl,hH,h1,h2,hz,q⟩:=h
 cases rx
 obtain⟨t,rfl⟩:=ry
 obtain⟨z,its,n,r,hl,e⟩:=I.lstM hH
 have hlen:its.toArray.size * k.toNat <= sizeLine:=by rw[List.size_toArray,<- hl];exact hz
 have hcap:¬ its.toArray.size * k.toNat > (2 ^ 63 - 1) / 8:=by
  have:(sizeLine:Nat) <= (2 ^ 63 - 1) / 8:=by decide
  omega
 have hfit:¬ (!Builtin.List.listFitsIndex k)=true:=by
  rw[fitsIndex_both h1 h2]
  exact Bool.false_ne_true
 have hlong:¬ Builtin.List.listTooLong (its.toArray.size * k.toNat)=true:=by
  rw[zHs hlen]
  exact Bool.false_ne_true
 have hnew:List.foldl (fun x1 x2=>x1++x2) #[] (List.replicate (if its.toArray.isEmpty=true then 0 else k.toNat) its.toArray)=(List.replicate k.toNat its).flatten.toArray:=by
  have f0:∀ m:Nat,List.foldl (fun x1 x2=>x1++x2) #[] (List.replicate m its.toArray)=(List.replicate m its).flatten.toArray:=fun m=>by
   have:=zCI its m []
   rw[List.nil_append] at this
   exact this
  rw[f0]
  cases its with
  | nil=>simp
  | cons a r'=>rw[if_neg (by simp)]
 refine wpAny_binaryOp_repeat_ref (T := "list") (U := "int") (by decide) ⟨_,e,rfl⟩ (fun s'=>typeIs_int s' k t) noFill_list_mul F.fills_int_mul F.slot_int_rmul repeat_list F.slot_int_index.lookup
  (call_meets F.slot_int_rmul (typeIs_int s k t) F.entry_int_rmul (F.args_int_rmul_2 _ _) (int___rmul___int_list k t l its.toArray n)
   ⟨e,rfl,⟨_,e,rfl⟩,call_meets F.slot_list_mul ⟨_,e,rfl⟩ F.entry_list_mul (F.args_list_mul_2 _ _) (AutoListH.list___mul___list_int_3 l its.toArray n k t hfit hcap hlong) ⟨e,?_⟩⟩)
 rw[hnew]
 exact⟨.ref _,_,I.lnew (t':=s.toks) (r.rep k.toNat) (by rw[zI6,Nat.mul_comm];exact hz),rfl,q _ I.fresh⟩
end
section
variable {prog:Program}{w:World}{A:Around}{E:Value->Shared->Prop}{s:Shared}
set_option maxRecDepth 100000 in
end
end L2
namespace L2
open PySem PySem.Spec PyProof.Rows
section
variable {κ:Type} [DecidableEq κ]
noncomputable def q9 (kvs:List (κ×V)) (k:κ):Option V:=(kvs.find? fun kv=>decide (kv.1=k)).map (·.2)
noncomputable def y8 (kvs:List (κ×V)) (k:κ) (v:V):List (κ×V) :=
 if (kvs.any fun kv=>decide (kv.1=k))=true then kvs.map (fun kv=>if kv.1=k then (kv.1,v) else kv) else kvs++[(k,v)]
theorem JU {p:κ×V}{r:List (κ×V)}{k:κ} (e:p.1=k):q9 (p::r) k=some p.2:=by simp[q9,List.find?_cons,e]
theorem JE {p:κ×V}{r:List (κ×V)}{k:κ} (e:¬ p.1=k):q9 (p::r) k=q9 r k:=by simp[q9,List.find?_cons,e]
theorem zDo (k:κ):∀ kvs:List (κ×V),(kvs.any fun kv=>decide (kv.1=k))=(q9 kvs k).isSome
 | []=>rfl
 | p::r=>by
  rw[List.any_cons]
  by_cases e:p.1=k
  ·simp only[JU e,decide_eq_true e,Bool.true_or,Option.isSome_some]
  ·rw[JE e,decide_eq_false e,Bool.false_or];exact zDo k r
theorem zAK (kvs:List (κ×V)) (k:κ) (v:V):(y8 kvs k v).length <= kvs.length+1:=by
 unfold y8
 split
 ·rw[List.length_map];omega
 ·rw[List.length_append,List.length_cons,List.length_nil];omega
theorem yn.isSome_eq {o:Option V}{u:Option Value} (r:yn o u):o.isSome=u.isSome:=by
 cases o with
 | none=>cases u with
  | none=>rfl
  | some _=>exact (show False from r).elim
 | some _=>cases u with
  | none=>exact (show False from r).elim
  | some _=>rfl
theorem KV.val {kvs:List (κ×V)}{vs:List (κ×Value)} (r:KV kvs vs) (k:κ):yn (q9 kvs k) (valueAt vs k):=by
 unfold KV at r
 induction r with
 | nil=>exact True.intro
 | @cons p q ps qs h t ih =>
  obtain⟨h1,h2⟩:=h
  by_cases e:p.1=k
  ·have e':q.1=k:=h1.symm.trans e
   have b:valueAt (q::qs) k=some q.2:=by simp[valueAt,List.find?_cons,e']
   rw[JU e,b];exact h2
  ·have e':¬ q.1=k:=fun z=>e (h1.trans z)
   have b:valueAt (q::qs) k=valueAt qs k:=by simp[valueAt,List.find?_cons,e']
   rw[JE e,b];exact ih
theorem KV.any {kvs:List (κ×V)}{vs:List (κ×Value)} (r:KV kvs vs) (k:κ):(kvs.any fun kv=>decide (kv.1=k))=vs.any fun kv=>decide (kv.1=k):=by
 unfold KV at r
 induction r with
 | nil=>rfl
 | cons h t ih=>rw[List.any_cons,List.any_cons,ih,h.1]
theorem KV.repl {kvs:List (κ×V)}{vs:List (κ×Value)} (r:KV kvs vs) (k:κ) {y:V}{u:Value} (ry:zZ y u) :
  KV (kvs.map fun kv=>if kv.1=k then (kv.1,y) else kv) (vs.map fun kv=>if kv.1=k then (kv.1,u) else kv):=by
 unfold KV at r ⊢
 induction r with
 | nil=>exact .nil
 | @cons p q ps qs h t ih =>
  rw[List.map_cons,List.map_cons]
  refine .cons ?_ ih
  obtain⟨h1,h2⟩:=h
  by_cases e:p.1=k
  ·rw[if_pos e,if_pos (h1.symm.trans e)];exact⟨h1,ry⟩
  ·rw[if_neg e,if_neg (fun z=>e (h1.trans z))];exact⟨h1,h2⟩
theorem KV.put {kvs:List (κ×V)}{vs:List (κ×Value)} (r:KV kvs vs) (k:κ) {y:V}{u:Value} (ry:zZ y u):KV (y8 kvs k y) (stored vs k u):=by
 unfold y8 stored
 rw[r.any k]
 by_cases e:(vs.any fun kv=>decide (kv.1=k))=true
 ·rw[if_pos e,if_pos e];exact r.repl k ry
 ·rw[if_neg e,if_neg e];exact Paired.snoc r ⟨rfl,ry⟩
theorem KV.keys {kvs:List (κ×V)}{vs:List (κ×Value)} (r:KV kvs vs):kvs.map (·.1)=vs.map (·.1):=by
 unfold KV at r
 induction r with
 | nil=>rfl
 | cons h t ih=>rw[List.map_cons,List.map_cons,ih,h.1]
theorem KV.length {kvs:List (κ×V)}{vs:List (κ×Value)} (r:KV kvs vs):kvs.length=vs.length:=Paired.length r
end
theorem zA4 {P:Program}{w:World}{k:Key}{u:Value} (r:zZ (kV k) u):(j2 P w).is k u=true:=by
 cases k with
 | inl i=>obtain⟨t,e⟩:=(show ∃ t,u=Value.int i t from r);subst e;exact zEP P w i t
 | inr x=>obtain⟨t,e⟩:=(show ∃ t,u=Value.str x t from r);subst e;exact zEQ P w x t
theorem zCD {P:Program}{w:World}:∀ {ks:List Key}{us:List Value},zY (ks.map kV) us->ItemsAre (j2 P w) ks us
 | [],_,r=>by rw[List.map_nil] at r;cases r;exact .nil
 | k::ks,_,r=>by
  rw[List.map_cons] at r
  cases r with
  | cons h t=>exact .cons (zA4 h) (zCD t)
noncomputable abbrev KT (H:Hp):List (List Key×V)->List (List Key×Addr×Value)->Prop:=Paired fun p q=>p.1=q.1/\H q.2.1=some (.tup (p.1.map kV))/\zZ p.2 q.2.2
theorem KT.val {H:Hp}{kvs:List (List Key×V)}{xs:List (List Key×Addr×Value)} (r:KT H kvs xs) (k:List Key):yn (q9 kvs k) ((atKey xs k).map (·.2)):=by
 induction r with
 | nil=>exact True.intro
 | @cons p q ps qs h t ih =>
  obtain⟨h1,_,h2⟩:=h
  by_cases e:p.1=k
  ·have e':q.1=k:=h1.symm.trans e
   have b:atKey (q::qs) k=some q.2:=by simp[atKey,List.find?_cons,e']
   rw[JU e,b];exact h2
  ·have e':¬ q.1=k:=fun z=>e (h1.trans z)
   have b:atKey (q::qs) k=atKey qs k:=by simp[atKey,List.find?_cons,e']
   rw[JE e,b];exact ih
theorem KT.repl {H:Hp}{kvs:List (List Key×V)}{xs:List (List Key×Addr×Value)} (r:KT H kvs xs) (k:List Key) {y:V}{u:Value} (ry:zZ y u) :
  KT H (kvs.map fun kv=>if kv.1=k then (kv.1,y) else kv) (xs.map (putAt k u)):=by
 induction r with
 | nil=>exact .nil
 | @cons p q ps qs h t ih =>
  rw[List.map_cons,List.map_cons]
  refine .cons ?_ ih
  obtain⟨h1,h2,h3⟩:=h
  unfold putAt
  by_cases e:p.1=k
  ·rw[if_pos e,if_pos (h1.symm.trans e)];exact⟨h1,h2,ry⟩
  ·rw[if_neg e,if_neg (fun z=>e (h1.trans z))];exact⟨h1,h2,h3⟩
theorem KT.put {H:Hp}{kvs:List (List Key×V)}{xs:List (List Key×Addr×Value)} (r:KT H kvs xs) (k:List Key) {b:Addr}{y:V}{u:Value} (hb:H b=some (.tup (k.map kV))) (ry:zZ y u) :
  KT H (y8 kvs k y) (storedH xs k b u):=by
 have e:(kvs.any fun kv=>decide (kv.1=k))=(atKey xs k).isSome:=by
  rw[zDo,(r.val k).isSome_eq,Option.isSome_map]
 unfold y8 storedH
 rw[e]
 by_cases q:(atKey xs k).isSome=true
 ·rw[if_pos q,if_pos q];exact r.repl k ry
 ·rw[if_neg q,if_neg q];exact Paired.snoc r ⟨rfl,hb,ry⟩
theorem KT.keeps {H H':Hp}{kvs:List (List Key×V)}{xs:List (List Key×Addr×Value)} (r:KT H kvs xs) (ht:∀ b ys,H b=some (.tup ys)->H' b=some (.tup ys)):KT H' kvs xs :=
 Paired.mapP r fun _ _ z=>⟨z.1,ht _ _ z.2.1,z.2.2⟩
section
variable {P:Program}{w:World}{H:Hp}{h:Heap}{a:Addr}
theorem zIZ {u:HO} (ok:HOk P w H h) (e:Rd H a u):jK P w H h a u:=e.ok ok
theorem zAB {kvs:List (Key×V)} (ok:HOk P w H h) (e:Rd H a (.dK kvs)):kvs.length <= sizeLine/\(a == sysModules)=false/\∃ vs,KV kvs vs/\h.DictOf (j2 P w) a vs :=
 show jK P w H h a (.dK kvs) from zIZ ok e
theorem J8 {kvs:List (Key×V)} (ok:HOk P w H h) (e:H a=some (.dK kvs)):kvs.length <= sizeLine/\(a == sysModules)=false/\∃ vs,KV kvs vs/\h.DictOf (j2 P w) a vs:=zAB ok (.inl e)
theorem Jt {ks:List Key} (ok:HOk P w H h) (e:H a=some (.tup (ks.map kV))):(tupleKind (j2 P w)).is h ks a:=by
 obtain⟨_,its,r,o,h1,h2,n,h3⟩:=(show jK P w H h a (.tup (ks.map kV)) from ok a _ e)
 exact⟨o,its.toArray,n,h1,h2,h3,by simpa using zCD r⟩
theorem zA2 {kvs:List (List Key×V)} (ok:HOk P w H h) (e:Rd H a (.dT kvs)):kvs.length <= sizeLine/\(a == sysModules)=false /\
  ∃ xs,KT H kvs xs/\h.DictOfH (tupleKind (j2 P w)) a xs:=by
 obtain⟨z,y,xs,r,o,es,ep,h1,h2,h3,h4,h5⟩:=(show jK P w H h a (.dT kvs) from zIZ ok e)
 refine⟨z,y,xs,r,o,es,ep,h1,h2,h3,h4,fun x hx=>?_,h5⟩
 have all:∀ {l:List (List Key×V)}{m:List (List Key×Addr×Value)},KT H l m->∀ x∈m,(tupleKind (j2 P w)).is h x.1 x.2.1:=by
  intro l m q
  induction q with
  | nil=>intro x hx;exact nomatch hx
  | @cons p q ps qs hq t ih =>
   intro x hx
   rcases List.mem_cons.mp hx with e | hx
   ·subst e
    exact Jt ok (by rw[<- hq.1];exact hq.2.1)
   ·exact ih x hx
 exact all r x hx
theorem zMa {kvs:List (List Key×V)} (ok:HOk P w H h) (e:H a=some (.dT kvs)):kvs.length <= sizeLine/\(a == sysModules)=false /\
  ∃ xs,KT H kvs xs/\h.DictOfH (tupleKind (j2 P w)) a xs:=zA2 ok (.inl e)
end
noncomputable def Qa (H:Hp) (a:Addr) (y:V) (r:Option V):Prop :=
 (∃ kvs k,Rd H a (.dK kvs)/\y=kV k/\r=q9 kvs k)\/∃ kvs k b,Rd H a (.dT kvs)/\y=.ref b/\H b=some (.tup (k.map kV))/\r=q9 kvs k
noncomputable def zCw (H:Hp) (a:Addr) (y v:V) (H':Hp):Prop :=
 (∃ kvs k,H a=some (.dK kvs)/\y=kV k/\kvs.length < sizeLine/\H'=upd H a (.dK (y8 kvs k v))) \/
 ∃ kvs k b,H a=some (.dT kvs)/\y=.ref b/\H b=some (.tup (k.map kV))/\kvs.length < sizeLine/\H'=upd H a (.dT (y8 kvs k v))
theorem Qa.k {H:Hp}{a:Addr}{kvs:List (Key×V)}{k:Key} (e:H a=some (.dK kvs)):Qa H a (kV k) (q9 kvs k):=.inl ⟨kvs,k,.inl e,rfl,rfl⟩
theorem zCw.k {H:Hp}{a:Addr}{kvs:List (Key×V)}{k:Key}{v:V} (e:H a=some (.dK kvs)) (hl:kvs.length < sizeLine):zCw H a (kV k) v (upd H a (.dK (y8 kvs k v))):=.inl ⟨kvs,k,e,rfl,hl,rfl⟩
section
variable {X:Cx}{pins:List (Addr×Obj)}{σ:St}{H:Hp}{s:Shared}{a:Addr}{y v:V}{u r:Value}{o:Option V}{A:Around}{E:Value->Shared->Prop}
theorem Inv.big (I:Inv X pins σ H s):sysModules < s.heap.objs.size:=by
 have h:mainGlobals < s.heap.objs.size:=(I.mod.glob.keeps I.bk).lt
 exact Nat.lt_trans (by decide) h
theorem zG3 {Q:Value->Shared->Prop} (hu:A.units+1 < cLine) (I:Inv X pins σ H s) (g:Qa H a y (some v)) (ry:zZ y u) (h:∀ w' s',Inv X pins σ H s'->zZ v w'->Q w' s') :
  wpAny (model X.prog X.w) A (getItem (.ref a) u) Q E s:=by
 rcases g with ⟨kvs,k,e,ey,l⟩ | ⟨kvs,k,b,e,ey,eb,l⟩
 ·subst ey
  obtain⟨z,hd,vs,rel,dd⟩:=zAB I.hok e
  obtain⟨w',hw,rw'⟩:=yn.some_of (v:=v) (o:=valueAt vs k) (by rw[l];exact rel.val k)
  exact wpAny_getItem_of (zA4 ry) dd.mapOf hw (h w' _ (I.tok _) rw')
 ·subst ey
  cases (show u=Value.ref b from ry)
  obtain⟨z,hd,xs,rel,dd⟩:=zA2 I.hok e
  obtain⟨w',hw,rw'⟩:=yn.some_of (v:=v) (o:=(atKey xs k).map (·.2)) (by rw[l];exact rel.val k)
  obtain⟨p,hp,hp2⟩:=Option.map_eq_some_iff.mp hw
  refine wpAny_getItem_heap (tupleKind_room_in1 hu) (Jt I.hok eb) dd hp ?_
  rw[hp2]
  exact h w' _ (I.tok _) rw'
theorem zMt {Q:Value->Shared->Prop} (hu:A.units+1 < cLine) (I:Inv X pins σ H s) (g:Qa H a y o) (ry:zZ y u) (h:∀ s',Inv X pins σ H s'->Q (.bool o.isSome) s') :
  wpAny (model X.prog X.w) A (compareOp .In u (.ref a)) Q E s:=by
 rcases g with ⟨kvs,k,e,ey,l⟩ | ⟨kvs,k,b,e,ey,eb,l⟩
 ·subst ey
  obtain⟨z,hd,vs,rel,dd⟩:=zAB I.hok e
  refine wpAny_in_of (zA4 ry) hd dd.mapOf ?_
  rw[<- (rel.val k).isSome_eq,<- l]
  exact h _ (I.tok _)
 ·subst ey
  cases (show u=Value.ref b from ry)
  obtain⟨z,hd,xs,rel,dd⟩:=zA2 I.hok e
  refine wpAny_in_heap (tupleKind_room_in1 hu) (Jt I.hok eb) hd dd ?_
  have q:=(rel.val k).isSome_eq
  rw[Option.isSome_map] at q
  rw[<- q,<- l]
  exact h _ (I.tok _)
theorem zJK {Q:Value->Shared->Prop} (hu:A.units+1 < cLine) (I:Inv X pins σ H s) (g:Qa H a y o) (ry:zZ y u) (h:∀ s',Inv X pins σ H s'->Q (.bool (!o.isSome)) s') :
  wpAny (model X.prog X.w) A (compareOp .NotIn u (.ref a)) Q E s:=by
 rcases g with ⟨kvs,k,e,ey,l⟩ | ⟨kvs,k,b,e,ey,eb,l⟩
 ·subst ey
  obtain⟨z,hd,vs,rel,dd⟩:=zAB I.hok e
  refine wpAny_notIn_of (zA4 ry) hd dd.mapOf ?_
  rw[<- (rel.val k).isSome_eq,<- l]
  exact h _ (I.tok _)
 ·subst ey
  cases (show u=Value.ref b from ry)
  obtain⟨z,hd,xs,rel,dd⟩:=zA2 I.hok e
  refine wpAny_notIn_heap (tupleKind_room_in1 hu) (Jt I.hok eb) hd dd ?_
  have q:=(rel.val k).isSome_eq
  rw[Option.isSome_map] at q
  rw[<- q,<- l]
  exact h _ (I.tok _)
theorem J9 {h':Heap}{t':Nat}{ob:HO} (I:Inv X pins σ H s) (mu:Mut (H a)) (hs:Heap.SameBut a s.heap h') (he:∃ q,h'.get? a=some q) (new:jK X.prog X.w (upd H a ob) h' a ob) (ht:0 < t':=by first | exact Nat.succ_pos _ | assumption | exact Inv.tk (by assumption) | omega) :
  Inv X pins σ (upd H a ob) { s with heap:=h',toks:=t' } :=
 I.write (x:=a) (e:=a) mu (.inl rfl) (fun b q hb z=>(hs.2 b hb).trans z) he new
theorem zJy {P:Program}{w:World}{H':Hp}{h':Heap}{kvs:List (Key×V)}{vs:List (Key×Value)} (z:kvs.length <= sizeLine) (hd:(a == sysModules)=false) (rel:KV kvs vs) (dd:h'.DictOf (j2 P w) a vs) :
  jK P w H' h' a (.dK kvs):=⟨z,hd,vs,rel,dd⟩
theorem zGJ {H':Hp}{Q:Unit->Shared->Prop} (hu:A.units+1 < cLine) (I:Inv X pins σ H s) (g:zCw H a y v H') (ry:zZ y u) (rv:zZ v r) (h:∀ s',Inv X pins σ H' s'->Q () s') :
  wpAny (model X.prog X.w) A (setItem (.ref a) u r) Q E s:=by
 rcases g with ⟨kvs,k,e,ey,l,eH⟩ | ⟨kvs,k,b,e,ey,eb,l,eH⟩
 ·subst ey eH
  obtain⟨z,hd,vs,rel,dd⟩:=J8 I.hok e
  have hz:vs.length <= sizeLine:=by rw[<- rel.length];exact z
  have hl:(y8 kvs k v).length <= sizeLine:=by have:=zAK kvs k v;omega
  refine wpAny_setItem_pairs (hsz:=hz) (zA4 ry) dd fun h' dd' hs=>h _ ?_
  have he:∃ q,h'.get? a=some q:=let ⟨q,_,_,hq,_⟩:=dd';⟨q,hq⟩
  exact J9 I (by rw[e];exact True.intro) hs he (zJy hl hd (rel.put k rv) dd')
 ·subst ey eH
  cases (show u=Value.ref b from ry)
  obtain⟨z,hd,xs,rel,dd⟩:=zMa I.hok e
  have hz:xs.length <= sizeLine:=by rw[<- Paired.length rel];exact z
  have hl:(y8 kvs k v).length <= sizeLine:=by have:=zAK kvs k v;omega
  refine wpAny_setItem_heap (hsz:=hz) (tupleKind_room_in1 hu) (Jt I.hok eb) dd fun h' dd' hs=>h _ ?_
  obtain⟨q,es,ep,hq,h2,h3,h4,_,h5⟩:=dd'
  refine J9 I (by rw[e];exact True.intro) hs ⟨q,hq⟩ ⟨hl,hd,_,(rel.put k eb rv).keeps fun c ys ec=>?_,q,es,ep,hq,h2,h3,h4,h5⟩
  rw[zU (zMb ec e (fun z=>nomatch z))]
  exact ec
end
section
variable {X:Cx}{pins:List (Addr×Obj)}{σ:St}{H:Hp}{s:Shared}{a:Addr}{kvs:List (Key×V)}{k:Key}{u:Value}{A:Around}{E:Value->Shared->Prop}
theorem zLv {Q:Value->Shared->Prop} (I:Inv X pins σ H s) (e:Rd H a (.dK kvs)) (h:∀ t s',Inv X pins σ H s'->Q (.int kvs.length t) s'):wpAny (model X.prog X.w) A (call (.builtin "len") [.ref a]) Q E s:=by
 obtain⟨z,hd,vs,rel,dd⟩:=zAB I.hok e
 refine call_len_dict hd dd (by rw[<- rel.length];rw[sizeLine_eq] at z;omega) ?_
 rw[<- rel.length]
 exact h _ _ (I.tok _)
end
theorem zED {X:Cx}{pins:List (Addr×Obj)}{σ:St}{H:Hp}{s:Shared}{a:Addr}{y:V}{o:Option V} (I:Inv X pins σ H s) (g:Qa H a y o):s.TypeIs (.ref a) "dict" := by
 rcases g with ⟨kvs,k,e,_,_⟩ | ⟨kvs,k,b,e,_,_,_⟩
 ·obtain⟨_,_,vs,_,dd⟩:=zAB I.hok e
  exact dd.typeIs
 ·obtain⟨_,_,xs,_,dd⟩:=zA2 I.hok e
  exact dd.typeIs
noncomputable def zL9 (td ty tv:TE):TS:=fun D σ H=>tv σ H fun v H1=>td σ H1 fun x H2=>ty σ H2 fun y H3=>∃ a H4,x=.ref a/\zCw H3 a y v H4/\D.nx σ H4
section
variable {X:Cx}{o i e value:Expr}{pos pos' tpos:Pos}{td ty tv:TE}
theorem zJH (hu:X.A.units+1 < cLine) (ho:PE X o td) (hi:PE X i ty) (hv:PE X value tv) (hs:swapsWith value (some (.Subscript o i pos')) pos.line X.env=pure false) :
  PS X (.Assign [.Subscript o i pos'] value pos) (zL9 td ty tv):=by
 intro pins s σ H D I h
 refine wpAny_Assign_Subscript (thn (hv pins s σ H _ I h) fun r s1 ⟨v,H1,I1,rv,q1⟩=>thn (ho pins s1 σ H1 _ I1 q1) fun u s2 ⟨x,H2,I2,rx,q2⟩=>thn (hi pins s2 σ H2 _ I2 q2) fun iv s3 ⟨y,H3,I3,ry,a,H4,ex,g,q3⟩=>?_) hs
 subst ex
 obtain rfl:u=Value.ref a:=rx
 exact zGJ hu I3 g ry rv fun s4 I4=>⟨σ,H4,I4,q3⟩
end
structure M1 (X:Cx) (o:Expr) (m:Str) (apos:Pos) (e:Expr) (cpos:Pos):Prop where
 base:attributeBase o m X.env (eval o X.env)=eval o X.env
 few:((backTo cpos (starEach [e] X.env)).all (fun x=>!x.1) && (backToKw cpos (keywordEach [] X.env)).all (fun x=>x.1.isSome)
  && decide (([e]:List Expr).length+([]:List Keyword).length+(if ([]:List Keyword).isEmpty then 0 else 1) < 30))=true
 line:(apos.endLine == cpos.line)=true
 trees:backTo cpos (starEach [e] X.env)=[(false,eval e X.env)]
structure M2 (X:Cx) (o:Expr) (m:Str) (apos:Pos) (e f:Expr) (cpos:Pos):Prop where
 base:attributeBase o m X.env (eval o X.env)=eval o X.env
 few:((backTo cpos (starEach [e,f] X.env)).all (fun x=>!x.1) && (backToKw cpos (keywordEach [] X.env)).all (fun x=>x.1.isSome)
  && decide (([e,f]:List Expr).length+([]:List Keyword).length+(if ([]:List Keyword).isEmpty then 0 else 1) < 30))=true
 line:(apos.endLine == cpos.line)=true
 trees:backTo cpos (starEach [e,f] X.env)=[(false,eval e X.env),(false,eval f X.env)]
end L2
namespace Att
open PySem PySem.W PySem.Calls PyProof.Rows
theorem zBE {P:Params}{h:Heap}:∀ (ns:List Int) (vs:List Value),WellAll P h vs (ns.map WData.int)->IntsAre vs ns:=by
 intro ns
 induction ns with
 | nil =>
  intro vs w
  rw[List.map_nil] at w
  cases w
  exact .nil
 | cons n ns ih =>
  intro vs w
  rw[List.map_cons] at w
  cases w with
  | cons a b =>
   cases a
   exact .cons _ _ (ih _ b)
theorem zGX {l:OpenLaw}{n:Nat} (hn:l.most=some n) {P:Params}{h:Heap}{args:List WData}{vals:List Value}
  (hpre:l.row.toRowW.claim.pre args=true) (hwl:WellAll P h vals args) :
  ∃ a vs ns,vals=[Value.ref a]/\args=[WData.list (ns.map WData.int)]/\h.get? a=some { cls:=.type "list",data:=.seq vs.toArray }/\IntsAre vs ns/\ns.length <= n:=by
 have hsh:WShape.hasAll [] args [.list .int]=true:=(pre_splitW hpre).1
 have hc:l.pre.holds [] { args:=args }=true:=(pre_splitW hpre).2
 obtain⟨d,r,rfl,h1,h2⟩:=hasAllW_cons hsh
 obtain rfl:=hasAllW_nil h2
 obtain⟨xs,rfl,h3⟩:=hasW_list h1
 obtain⟨ns,rfl⟩:=items_int h3
 have hlen:ns.length <= n:=by
  unfold OpenLaw.pre at hc
  have h4:(WTm.not (.lt (.lit (.int (n:Int))) (.len (.arg 0)))).holds [] { args:=[.list (ns.map .int)] }=true:=by
   have h4:=(holds_andW hc).1
   rw[hn] at h4
   exact h4
  have h5:=condW_of h4 (w_not (w_lt w_lit (w_len_list (w_arg rfl))))
  rw[List.length_map] at h5
  refine Nat.le_of_not_lt fun q=>?_
  have q':(n:Int) < ((ns.length:Nat):Int):=by omega
  first
   | (rw[decide_eq_true q'] at h5;exact absurd h5 (by decide))
   | (simp at h5;omega)
 cases hwl with
 | cons w1 w2 =>
  cases w2
  cases w1 with
  | list ho hall=>exact⟨_,_,ns,rfl,rfl,ho,zBE ns _ hall,hlen⟩
theorem zFs (l:OpenLaw) (args:List WData):l.row.toRowW.claim.post args (.bool true) args=true :=
 postW_of (r:=l.row.toRowW) (X:=(true == true))
  (show WShape.has [] (.bool true) .bool=true by first | rfl | decide | simp[WShape.has,WShape.arms,WShape.armsAll])
  (show (WTm.eq .res (.lit (.bool true))).value [] { args:=args,res:=some (.bool true),after:=args }=some (.bool (true == true)) from w_eq_bool (w_res rfl) w_lit) rfl
theorem zEG {l:OpenLaw}{n:Nat}{q:Program}{loose:List Str}{XP:(Str->Option Value)->Heap->Prop}{YP:World->Heap->Prop}{d:DefRec}
  (hn:l.most=some n) (hdf:d.params.defaults=[])
  (call:∀ (w:World) (s₀ s₁:Shared) (mg mb:Str->Option Value) (fa:Addr) (o:Obj) (pm cd doc:Value) (a:Addr) (vs:List Value) (ns:List Int),
   Ground q loose [] XP w s₀ mg mb s₁.heap->YP w s₁.heap ->
   s₁.heap.get? fa=some o->o.data=.func (docDef d.name d.params d.body d.scope pm cd doc)->s₁.heap.CodeRec cd d.name->mg d.name=some (.ref fa) ->
   s₁.heap.get? a=some { cls:=.type "list",data:=.seq vs.toArray }->IntsAre vs ns->ns.length <= n->s₁.gens = #[] ->
   codeAny (model l.prog w) callerA (.call (.ref fa) ⟨[.ref a],[]⟩) (fun r s'=>r=.ok (.ret (.bool true))/\OldK s₁.heap s'.heap/\s'.os=s₁.os/\AllBare s'.gens) s₁) :
  WalkO q loose XP YP l.row.toRowW d [] (fun f vs=>PySem.call f vs):=by
 intro w s₀ s₁ mg mb G Y fa o pm cd doc dV kV ho hd hcd hD hmg hg args vals as hpre hlay hrd hwl hlo
 obtain rfl:dV=.none:=Dflts.none hD hdf
 obtain rfl:kV=.none:=Dflts.noKw hD
 obtain⟨a,vs,ns,rfl,rfl,hobj,hints,hlen⟩:=zGX hn hpre hwl
 refine enter_call (codeAny_mono (call w s₀ s₁ mg mb fa o pm cd doc a vs ns G Y ho (fd_plain hd) hcd hmg hobj hints hlen hg) fun r s' hq=>?_)
 obtain⟨rfl,h2,h3,h4⟩:=hq
 exact⟨.inl ⟨.bool true,.bool true,[],rfl,fun _=>rfl,.bool true,zFs l _,fun _=>⟨List.Pairwise.nil,fun _ hm=>(nomatch hm)⟩⟩,h2,h3,h4⟩
end Att
namespace L2
open PySem PySem.Spec PyProof.Rows
theorem zCM:∀ {vs:List Value}{ns:List Int},IntsAre vs ns->zY (ns.map V.int) vs
 | _,_,.nil=>.nil
 | _,_,.cons n t h=>.cons ⟨t,rfl⟩ (zCM h)
noncomputable def zD8 (H:Hp):Prop:=∀ b,H b=none\/∃ o xs,H b=some (.frz o (.lst xs))
theorem zHC {P:Program}{w:World}{K:PySem.W.Frag}{mg mb:Str->Option Value}{CX:CXT}{k:Nat}{fa a:Addr}{fd:FuncData}{x:Str}{sp:Sp}{s₁:Shared}{vs:List Value}{ns:List Int}
  (KX:K.In s₁.heap) (hns:s₁.heap.Ns mainGlobals mg) (hb:s₁.heap.Ns builtinsNs mb) (hbb:∀ x:Str,x ≠ "__name__" -> mb x=bootBuiltins x) (hlim:s₁.heap.NoLimit) (hg:s₁.gens = #[])
  (ha:s₁.heap.get? a=some { cls:=.type "list",data:=.seq vs.toArray }) (hi:IntsAre vs ns) (hl:ns.length <= sizeLine) (hr:z4 k callerA)
  (F:∀ base:Heap,K.In base->base.Ns mainGlobals mg->jZ P w K mg base CX k fa fd [x] sp) (hT:fd.scope.names.lookup x=some .local) (hbind:∀ (s:Shared) (u:Value),BindsTo s fd ⟨[u],[]⟩ [(x,u)])
  (hsp:∀ H:Hp,zD8 H->SqL K H a (ns.map V.int)->sp [.ref a] H (fun v _=>v=.bl true) fun _ _ _=>False)
  (hCX:∀ H e s',CX [] H s₁ (fun _ _ _=>False) e s'->False) :
  codeAny (model P w) callerA (.call (.ref fa) ⟨[.ref a],[]⟩) (fun r s'=>r=.ok (.ret (.bool true))/\OldK s₁.heap s'.heap/\s'.os=s₁.os/\AllBare s'.gens) s₁:=by
 have rv:=zCM hi
 have lenV:=hi.length
 have core:∀ H:Hp,zD8 H->SqL K H a (ns.map V.int)->HOk P w H s₁.heap->(∀ b,H b≠none->b=a)->(H a≠none->K.lookup a=none) ->
   codeAny (model P w) callerA (.call (.ref fa) ⟨[.ref a],[]⟩) (fun r s'=>r=.ok (.ret (.bool true))/\OldK s₁.heap s'.heap/\s'.os=s₁.os/\AllBare s'.gens) s₁:=by
  intro H hO hS hok hA hK
  have base_of:∀ {b:Addr}{o:Obj},s₁.heap.get? b=some o->H b=none->(JB s₁.heap H).get? b=some o:=fun e n=>zHJ e n
  have noA:∀ {b:Addr}{o:Obj}{es:Array DictEntry}{ep:Nat},s₁.heap.get? b=some o->o.data=.dict es ep->H b=none:=fun {b o es ep} e d=>by
   cases q:H b with
   | none=>rfl
   | some u =>
    have e':b=a:=hA b (by rw[q];simp)
    subst e'
    rw[ha] at e;cases e
    have d':Data.seq vs.toArray _=Data.dict es ep:=d
    cases d'
  have nsK:∀ {b:Addr}{m:Str->Option Value},s₁.heap.Ns b m->(JB s₁.heap H).Ns b m:=fun {b m} ⟨o,es,ep,e,d,r⟩=>⟨o,es,ep,base_of e (noA e d),d,r⟩
  have hKb:K.In (JB s₁.heap H):=fun b o e=>base_of (KX b o e) (by
   cases q:H b with
   | none=>rfl
   | some u =>
    have e':b=a:=hA b (by rw[q];simp)
    subst e'
    rw[hK (by rw[q];simp)] at e;cases e)
  have hM:Mod K mg (JB s₁.heap H):=⟨hKb,nsK hns,⟨mb,nsK hb,hbb⟩,let ⟨mc,h1,h2⟩:=hlim;⟨mc,nsK h1,h2⟩⟩
  have e0:zAb P w K mg (JB s₁.heap H) callerA [] s₁ H:=⟨rfl,hM,fun b o e=>zJl e,Nat.le_of_eq (zGP _ _),trivial,fun b hb=>absurd (show b∈([]:List Addr) from hb) (by simp),hok,.of_eq hg⟩
  refine codeAny_mono ((F _ hKb (nsK hns)).run callerA [] s₁ H ⟨[.ref a],[]⟩ [.ref a] [.ref a] _ _ hr e0 (.inr ⟨x,List.mem_singleton.mpr rfl,hT⟩) (hbind s₁ (.ref a)) (.cons rfl .nil) (hsp H hO hS)) fun r s' h=>?_
  cases r with
  | error e=>exact (hCX H e s' h).elim
  | ok fl =>
   cases fl with
   | next=>exact False.elim h
   | brk=>exact False.elim h
   | cont=>exact False.elim h
   | ret u =>
    obtain⟨v,H',os,bare,un,hok',r',q⟩:=h
    have q':v=.bl true:=q
    subst q'
    obtain rfl:u=Value.bool true:=r'
    refine⟨rfl,OldK.of_keep fun b o e=>?_,os,bare⟩
    cases q:H b with
    | none=>exact un.keep b o e q (by intro z;exact absurd (show b∈([]:List Addr) from z) (by simp)) (by simp)
    | some u =>
     rcases hO b with z | ⟨ob,xs,z⟩
     ·rw[q] at z;cases z
     ·have z2:=un.frzs b ob _ z
      obtain⟨e1,_⟩:=hok b _ z
      obtain⟨e2,_⟩:=hok' b _ z2
      rw[e] at e1;cases e1
      exact e2
 cases hk:K.lookup a with
 | some o =>
  have e:=KX a o hk
  rw[ha] at e
  cases e
  refine core (fun _=>none) (fun _=>.inl rfl) (.inr ⟨_,vs.toArray,_,hk,rfl,rfl,rfl,by rw[List.size_toArray,lenV];exact hl,by simpa using rv⟩) (fun b u z=>by have z':(none:Option HO)=some u:=z;cases z') (fun b z=>absurd rfl z) fun z=>absurd rfl z
 | none =>
  refine core (fun b=>if b=a then some (.frz { cls:=.type "list",data:=.seq vs.toArray } (.lst (ns.map V.int))) else none) (fun b=>?_) (.inl (.inr ⟨{ cls:=.type "list",data:=.seq vs.toArray },if_pos rfl⟩)) (fun b u z=>?_) (fun b z=>?_) fun _=>hk
  ·by_cases hb:b=a
   ·exact .inr ⟨_,_,if_pos hb⟩
   ·exact .inl (if_neg hb)
  ·by_cases hb:b=a
   ·have z':=(if_pos hb).symm.trans z
    cases z'
    subst hb
    exact⟨ha,by rw[List.length_map];exact hl,vs,_,rv,ha⟩
   ·have z':=(if_neg hb).symm.trans z
    cases z'
  ·by_cases hb:b=a
   ·exact hb
   ·exact absurd (if_neg hb) z
end L2
namespace L2
open PySem PySem.Spec PyProof.Rows
theorem zIc {l:PySem.W.OpenLaw}{n k:Nat}{q:Program}{loose:List Str}{XP:(Str->Option Value)->Heap->Prop}{YP:World->Heap->Prop}{d:DefRec}{K:Params->PySem.W.Frag}{CX:World->CXT}{sp:World->Sp}{x:Str}
  (hn:l.most=some n) (hn2:n <= sizeLine) (hdf:d.params.defaults=[]) (hr:z4 k callerA)
  (hY:∀ (w:World) (h:Heap),YP w h->(K w.params).In h)
  (F:∀ (w:World) (mg:Str->Option Value) (fa:Addr) (h:Heap),(K w.params).In h->h.Ns mainGlobals mg->mg d.name=some (.ref fa) ->
   ∃ fd:FuncData,(∀ (s:Shared) (u:Value),BindsTo s fd ⟨[u],[]⟩ [(x,u)])/\fd.scope.names.lookup x=some .local /\
    ∀ base:Heap,(K w.params).In base->base.Ns mainGlobals mg->jZ l.prog w (K w.params) mg base (CX w) k fa fd [x] (sp w))
  (hsp:∀ (w:World) (H:Hp) (a:Addr) (ns:List Int),ns.length <= n->zD8 H->SqL (K w.params) H a (ns.map V.int)->sp w [.ref a] H (fun v _=>v=.bl true) fun _ _ _=>False)
  (hCX:∀ (w:World) (H:Hp) (s:Shared) (e:Value) (s':Shared),CX w [] H s (fun _ _ _=>False) e s'->False) :
  PySem.W.WalkO q loose XP YP l.row.toRowW d [] (fun f vs=>PySem.call f vs):=by
 refine Att.zEG hn hdf fun w s₀ s₁ mg mb fa o pm cd doc a vs ns G Y ho hd hcd hmg hobj hints hlen hg=>?_
 have KX:=hY w _ Y
 obtain⟨fd,hb,hT,hF⟩:=F w mg fa _ KX G.T.g hmg
 exact zHC KX G.T.g G.T.b G.T.builtins G.T.nolimit hg hobj hints (Nat.le_trans hlen hn2) hr hF hT hb (fun H hO hS=>hsp w H a ns hlen hO hS) fun H e s'=>hCX w H s₁ e s'
end L2
namespace L2
open PySem PySem.Spec PyProof.Rows
noncomputable def zBt (s:Stmt) (j:Nat):Stmt:=match s with
 | .ClassDef _ _ _ body _ _ _ _ _ _ _=>body.getD j (.Pass ⟨0,0,0,0⟩)
 | _=>.Pass ⟨0,0,0,0⟩
noncomputable def jb (s:Stmt):Arguments:=match s with
 | .FunctionDef _ a _ _ _ _ _ _ _ _=>a
 | _=>{ posonlyargs:=[],args:=[],vararg:=none,kwonlyargs:=[],kw_defaults:=[],kwarg:=none,defaults:=[] }
noncomputable def jF (s:Stmt):List Stmt:=match s with
 | .FunctionDef _ _ b _ _ _ _ _ _ _=>b
 | _=>[]
noncomputable def zN (s:Stmt):Scope:=match s with
 | .FunctionDef _ _ _ _ _ _ sc _ _ _=>sc
 | _=>{ kind:=.function,names:=[],isGenerator:=false,isCoroutine:=false }
noncomputable abbrev CX0:CXT:=fun _ _ _ _ _ _=>False
noncomputable abbrev E0:XK:=fun _ _ _=>False
theorem JH {X:Cx}:qj CX0 X E0:=fun _ _ _ _ _ _ _ h=>h.elim
structure Fun (K:PySem.W.Frag) (x qual:Str) (st:Stmt) (f:Addr) (fd:FuncData):Prop where
 ex:∃ (oc:Value) (od:Option Addr) (kV doc pm:Value) (an:Option Addr) (cdv ct:Value) (osl:Array (Option Value)),
  fd=PySem.W.fnOf x qual (jb st) (jF st) (zN st) .none kV doc pm an cdv ct/\K.lookup f=some ⟨oc,od,.func fd,osl⟩/\PySem.W.codeIn K cdv qual=true
 kp:PySem.W.keepIn K (.ref f)=true
section
variable {P:Program}{w:World}{K:PySem.W.Frag}{mg:Str->Option Value}{base:Heap}
theorem Fun.ok {x qual:Str}{st:Stmt}{f:Addr}{fd:FuncData}{N ps:List Str}{k:Nat}{sp:Sp} (F:Fun K x qual st f fd) (S:jS N ps (zN st)) (len:∀ vs H Q E,sp vs H Q E->vs.length=ps.length)
  (hbody:∀ (cdv:Value) (A:Around) (outer:List Env) (s:Shared) (H:Hp) (vs:List V) (Q:VK) (E:XK),z4 k (A.deeper (envOfC qual (zN st) s.heap.objs.size f cdv))->sp vs H Q E ->
   ∃ t,PSs (QG CX0 P w K mg base N qual (zN st) f cdv A outer s H E).nox (jF st) t/\t { nx:=fun _ H'=>Q .non H',rt:=Q } (yM N vs) H):jZ P w K mg base CX0 (k+1) f fd ps sp:=by
 obtain⟨oc,od,kV,doc,pm,an,cdv,ct,osl,rfl,lk,hcd⟩:=F.ex
 refine zL0 lk hcd S len fun A outer s H vs Q E hr hsp=>?_
 obtain⟨t,h,q⟩:=hbody cdv A outer s H vs Q E hr hsp
 exact⟨t,h.nox,q⟩
theorem Fun.binds {x qual:Str}{st:Stmt}{f:Addr}{fd:FuncData}{ps:List Str} (F:Fun K x qual st f fd)
  (h:∀ (kV doc pm:Value) (an:Option Addr) (cdv ct:Value) (us:List Value),us.length=ps.length->bindArgs (PySem.W.fnOf x qual (jb st) (jF st) (zN st) .none kV doc pm an cdv ct) ⟨us,[]⟩=pure (ps.zip us)):y6 K fd ps []:=by
 obtain⟨oc,od,kV,doc,pm,an,cdv,ct,osl,rfl,lk,hcd⟩:=F.ex
 exact .all (h kV doc pm an cdv ct)
theorem qE {x qual:Str}{st:Stmt}{f:Addr}{oc:Value}{od an:Option Addr}{osl:Array (Option Value)}{kV doc pm cdv ct:Value} (l:K.lookup f=some ⟨oc,od,.func (PySem.W.fnOf x qual (jb st) (jF st) (zN st) .none kV doc pm an cdv ct),osl⟩)
  (c:PySem.W.codeIn K cdv qual=true) (k:PySem.W.keepIn K (.ref f)=true):Fun K x qual st f (PySem.W.fnOf x qual (jb st) (jF st) (zN st) .none kV doc pm an cdv ct):=⟨⟨oc,od,kV,doc,pm,an,cdv,ct,osl,rfl,l,c⟩,k⟩
end
theorem zE0 {A:Around}{k:Nat} (hr:z4 k A):A.units+1 < cLine:=Nat.lt_of_le_of_lt (Nat.add_le_add_left (by decide:1 <= 64) _) hr.units
theorem zBb {A B:Prop} (h:B):if false=true then A else B:=by
 rw[if_neg Bool.false_ne_true]
 exact h
theorem zB0 {A B:Prop} (h:A):if true=true then A else B:=by
 rw[if_pos rfl]
 exact h
end L2
namespace L2
open PySem PySem.Spec PyProof.Rows
section
variable {X:Cx}
theorem zGw:jh X (.builtin "len") (fun xs H Q=>∃ a kvs,xs=[V.ref a]/\H a=some (.dK kvs)/\Q (.int kvs.length) H):=by
 intro pins s σ H xs us Q I r h
 obtain⟨a,kvs,rfl,ha,q⟩:=h
 obtain⟨u,rfl,ru⟩:=yd r
 cases ru
 exact zLv I (.inl ha) fun t s' I'=>⟨.int kvs.length,H,I',⟨t,rfl⟩,q⟩
end
end L2
set_option maxHeartbeats 4000000
namespace L2
open PySem PySem.Spec PyProof.Rows
noncomputable abbrev z8 (X:Cx) (vars:List Str) (scope:Scope) (cl:List (Str×Addr)) (C:Addr) (fp:List Addr) (s₂:Shared) (H₂:Hp):Cx where
 prog:=X.prog
 w:=X.w
 K:=X.K
 mg:=X.mg
 base:=X.base
 A:=X.A
 N:=X.N++vars
 s₀:=s₂
 H₀:=H₂
 env:=compEnvC scope cl C X.env
 outer:=X.stack
 stack:=X.stack
 ex:=fp
 fn:=fun _=>false
 calm:=X.calm
 pn:=[]
 xe:=fun _ _=>False
noncomputable def Q7 (cells:List (Str×Addr)):List (Str×Addr)->Prop
 | []=>True
 | p::r=>cells.lookup p.1=some p.2/\Q7 cells r
theorem Q7.get {cells:List (Str×Addr)}:∀ {cl:List (Str×Addr)}{x:Str}{c:Addr},Q7 cells cl->cl.lookup x=some c->cells.lookup x=some c
 | [],_,_,_,e=>by simp at e
 | (y,d)::r,x,c,h,e=>by
  cases hx:x == y with
  | true =>
   simp only[List.lookup_cons,hx] at e
   have e1:x=y:=eq_of_beq hx
   subst e1
   rw[<- e]
   exact h.1
  | false =>
   simp only[List.lookup_cons,hx] at e
   exact Q7.get h.2 e
noncomputable def okK (on:List (Str×NameKind)) (vars:List Str) (cl:List (Str×Addr)) (x:Str):NameKind->Bool
 | .local=>x == (".0" : Str) || vars.contains x
 | .cell=>false
 | .free=>(cl.lookup x).isSome && (on.lookup x == some .cell || on.lookup x == some .free)
 | _=>true
structure ji (X:Cx) (vars:List Str) (scope:Scope) (cl:List (Str×Addr)):Prop where
 kind:scope.kind=.function
 clos:closureFor scope X.env=pure cl
 dis:(vars.all fun x=>!X.N.contains x)=true
 zero:X.N.contains (".0" : Str)=false
 names:∀ y∈scope.names,y.2=.local->scope.names.lookup y.1=some .local
 cells:Q7 X.env.cells cl
 ok:(scope.names.all fun p=>okK X.env.scope.names vars cl p.1 p.2)=true
theorem ZX {env:Env}{x:Str}:∀ {names:List (Str×NameKind)},
  (names.map fun (n,k)=>if (k == NameKind.free && env.scope.kind == .function && env.kindOf n == some .cell) then (n,NameKind.cell) else (n,k)).lookup x =
   (names.lookup x).map fun k=>if (k == NameKind.free && env.scope.kind == .function && env.kindOf x == some .cell) then NameKind.cell else k
 | []=>rfl
 | (n,k)::r=>by
  have ih:=@ZX env x r
  show List.lookup x ((if (k == NameKind.free && env.scope.kind == .function && env.kindOf n == some .cell)=true then (n,NameKind.cell) else (n,k))::_)=_
  cases hx:x == n with
  | true =>
   have e:x=n:=eq_of_beq hx
   subst e
   by_cases hc:(k == NameKind.free && env.scope.kind == .function && env.kindOf x == some .cell)=true
   ·rw[if_pos hc];simp only[List.lookup_cons,hx,Option.map_some,if_pos hc]
   ·rw[if_neg hc];simp only[List.lookup_cons,hx,Option.map_some,if_neg hc]
  | false =>
   by_cases hc:(k == NameKind.free && env.scope.kind == .function && env.kindOf n == some .cell)=true
   ·rw[if_pos hc];simp only[List.lookup_cons,hx];exact ih
   ·rw[if_neg hc];simp only[List.lookup_cons,hx];exact ih
section
variable {X:Cx}{vars:List Str}{scope:Scope}{cl:List (Str×Addr)}{C D:Addr}{fp:List Addr}{s₂:Shared}{H:Hp}{pins:List (Addr×Obj)}{σ:St}
theorem ji.okAt (S:ji X vars scope cl) {x:Str}{k:NameKind} (h:scope.names.lookup x=some k):okK X.env.scope.names vars cl x k=true:=by
 have:=List.all_eq_true.mp S.ok (x,k) (PySem.mem_of_lookup h)
 exact this
theorem ji.noCell (S:ji X vars scope cl):∀ y∈scope.names,y.2≠.cell:=fun y hy e=>by
 have h:=List.all_eq_true.mp S.ok y hy
 rw[e] at h
 exact absurd (show false=true from h) Bool.false_ne_true
theorem ji.freeOf (S:ji X vars scope cl) {x:Str} (h:(compEnvC scope cl C X.env).kindOf x=some .cell\/(compEnvC scope cl C X.env).kindOf x=some .free):scope.names.lookup x=some .free:=by
 have e:(compEnvC scope cl C X.env).kindOf x=(scope.names.lookup x).map fun k=>if (k == NameKind.free && X.env.scope.kind == .function && X.env.kindOf x == some .cell) then NameKind.cell else k:=ZX
 rw[e] at h
 cases q:scope.names.lookup x with
 | none=>rw[q] at h;simp at h
 | some k =>
  rw[q] at h
  by_cases hk:k=.free
  ·rw[hk]
  ·have hb:(k == NameKind.free)=false:=by simpa using hk
   simp only[Option.map_some,hb,Bool.false_and,Bool.false_eq_true,if_false,Option.some.injEq] at h
   rcases h with h | h
   ·subst h
    exact absurd rfl (S.noCell (x,.cell) (PySem.mem_of_lookup q))
   ·exact absurd h hk
theorem ji.localOf (S:ji X vars scope cl) {x:Str} (h:(compEnvC scope cl C X.env).kindOf x=some .local):scope.names.lookup x=some .local:=by
 have e:(compEnvC scope cl C X.env).kindOf x=(scope.names.lookup x).map fun k=>if (k == NameKind.free && X.env.scope.kind == .function && X.env.kindOf x == some .cell) then NameKind.cell else k:=ZX
 rw[e] at h
 cases q:scope.names.lookup x with
 | none=>rw[q] at h;simp at h
 | some k =>
  rw[q] at h
  simp only[Option.map_some,Option.some.injEq] at h
  split at h
  ·cases h
  ·rw[h]
theorem zFB (I:Inv X pins σ H s₂) (S:ji X vars scope cl) (hf:∀ b∈fp,QM X pins H b) (hob:∀ b∈fp,∃ o,s₂.heap.get? b=some o)
  {h₁:Heap}{tk:Nat} (hD:s₂.heap.objs.size <= D) (hC:s₂.heap.objs.size <= C) (hDC:D≠C) {oD:Obj} (eD:h₁.get? D=some oD) (cD:∀ v,oD.data≠.cell v) {m:Str->Option Value} (hn:h₁.Ns C m)
  (old:∀ b o,s₂.heap.get? b=some o->h₁.get? b=some o) (ht:0 < tk:=by first | exact Nat.succ_pos _ | assumption | exact Inv.tk (by assumption) | omega) :
  Inv (z8 X vars scope cl C fp s₂ H) [(D,oD)] (σ++List.replicate vars.length none) H { s₂ with heap:=h₁,toks:=tk }:=by
 have fpst:∀ b∈fp,b∉frs X.stack:=fun b hb z=>by
  rcases List.mem_cons.mp (I.stkSub b z) with e | e
  ·exact (hf b hb).2.1 e
  ·exact (hf b hb).2.2.1 e
 have cget:∀ x c,cl.lookup x=some c->X.env.cells.lookup x=some c:=fun x c e=>S.cells.get e
 have fpl:∀ b∈fp,b < s₂.heap.objs.size:=fun b hb=>by
  obtain⟨o,e⟩:=hob b hb
  exact Heap.lt_size e
 have ok:(z8 X vars scope cl C fp s₂ H).Ok:=by
  refine⟨I.ok.mod,S.kind,I.ok.glob,I.ok.blt,hC,fun x y c h1 h2=>I.ok.inj x y c (cget x c h1) (cget y c h2),fun x hx=>?_,fun x c h _=>absurd (show false=true from h) Bool.false_ne_true,I.ok.hd,I.ok.frames,.inl rfl,
   fun b hb=>⟨Nat.ne_of_lt (Nat.lt_of_lt_of_le (fpl b hb) hC),fun x c e z=>(hf b hb).2.2.2.2.1 x c (cget x c e) z⟩,I.bs,Nat.le_trans I.ok.bsz I.sz,fun b o e hb=>?_,fpst,I.stack,I.stkFree⟩
  ·have q:=S.okAt (S.freeOf (C:=C) hx)
   have q1:((cl.lookup x).isSome && (X.env.scope.names.lookup x == some .cell || X.env.scope.names.lookup x == some .free))=true:=q
   rw[Bool.and_eq_true] at q1
   exact Option.isSome_iff_exists.mp q1.1
  ·rcases (hf b hb).2.2.2.1 with z | z
   ·exact I.ok.noex b o e z
   ·exact absurd (Nat.lt_of_lt_of_le (Heap.lt_size e) (Nat.le_trans I.ok.bsz z)) (Nat.lt_irrefl _)
 have nst:D∉frs X.stack:=fun z=>by
  rcases List.mem_cons.mp (I.stkSub D z) with e | e
  ·exact absurd (Nat.lt_of_lt_of_le (e ▸ I.lt) hD) (Nat.lt_irrefl _)
  ·exact I.nofs hD e
 refine⟨ok,rfl,I.bare,Un.kept old,⟨m,hn,fun i x v h1 h2 h3=>?_⟩,fun x c e=>?_,I.hok.fresh hC,fun x c e=>I.freeC x c (cget x c e),fun p hp=>?_,I.hok.kept old,?_,ht⟩
 ·have hlen:=I.len
  have h1':(X.N++vars)[i]? = some x:=h1
  by_cases hi:i < σ.length
  ·rw[List.getElem?_append_left (by omega)] at h1'
   rw[List.getElem?_append_left hi] at h2
   have inN:X.N.contains x=true:=by
    rw[List.contains_iff_exists_mem_beq]
    exact⟨x,List.mem_of_getElem? h1',by simp⟩
   have hk:(compEnvC scope cl C X.env).kindOf x=some .cell\/(compEnvC scope cl C X.env).kindOf x=some .free:=by
    rcases h3 with h3 | h3
    ·have q:=S.okAt (S.localOf (C:=C) h3)
     have q1:(x == (".0" : Str) || vars.contains x)=true:=q
     rw[Bool.or_eq_true] at q1
     rcases q1 with q1 | q1
     ·have e0:x=(".0" : Str):=eq_of_beq q1
      rw[e0,S.zero] at inN
      cases inN
     ·have q2:=List.all_eq_true.mp S.dis x (by simpa using q1)
      rw[inN] at q2
      cases q2
    ·exact h3
   have q:=S.okAt (S.freeOf (C:=C) hk)
   have q1:((cl.lookup x).isSome && (X.env.scope.names.lookup x == some .cell || X.env.scope.names.lookup x == some .free))=true:=q
   rw[Bool.and_eq_true,Bool.or_eq_true] at q1
   obtain⟨c,hc⟩:=Option.isSome_iff_exists.mp q1.1
   have ho:X.env.scope.names.lookup x=some .cell\/X.env.scope.names.lookup x=some .free:=by
    rcases q1.2 with z | z
    ·exact .inl (eq_of_beq z)
    ·exact .inr (eq_of_beq z)
   obtain⟨m0,_,hl⟩:=I.loc
   obtain⟨u,r,l⟩:=hl i x v h1' h2 (.inr ho)
   refine⟨u,r,.inr ⟨hk,c,hc,?_⟩⟩
   rcases l with ⟨l1,_⟩ | ⟨_,c',e',o,eo,ed⟩
   ·have l2:X.env.scope.names.lookup x=some .local:=l1
    rcases ho with z | z
    ·rw[l2] at z;cases z
    ·rw[l2] at z;cases z
   ·rw[cget x c hc] at e'
    cases e'
    exact⟨o,old _ _ eo,ed⟩
  ·rw[List.getElem?_append_right (by omega),List.getElem?_replicate] at h2
   split at h2<;>cases h2
 ·obtain⟨v,o,eo,ed⟩:=I.cell x c (cget x c e)
  exact⟨v,o,old _ _ eo,ed⟩
 ·have e:p=(D,oD):=by simpa using hp
  subst e
  exact⟨eD,I.hok.fresh hD,hDC,nst,cD⟩
 ·show (σ++List.replicate vars.length none).length=(X.N++vars).length
  rw[List.length_append,List.length_append,List.length_replicate,I.len]
end
noncomputable def Z8 (X:Cx) (ifs:List Expr) (t:TT):Prop :=
 ∀ (pins:List (Addr×Obj)) (s:Shared) (σ:St) (H:Hp) (Q:Bool->Hp->Prop),Inv X pins σ H s->t σ H Q ->
  wpAny (model X.prog X.w) X.A (forIn ifs true fun c r=>if r=true then do let ok <- isTrue c X.env (eval c X.env);pure (ForInStep.yield ok) else pure (ForInStep.yield r)) (TP X pins σ Q) X.xe s
noncomputable def ZG:TT:=fun _ H Q=>Q true H
theorem zHr {X:Cx}:Z8 X [] ZG:=fun _ _ _ H _ I h=>wpAny_tests_nil ⟨H,I,h⟩
theorem zIF {X:Cx}{c:Expr}{t:TT} (h:PT X c t):Z8 X [c] t:=fun pins s σ H Q I hw=>wpAny_tests_one (h pins s σ H Q I hw)
noncomputable def Wk (σ σ':St):Prop:=σ.length=σ'.length/\∀ (i:Nat) v,σ[i]? = some (some v)->σ'[i]? = some (some v)
noncomputable def zIL (n:Nat) (wi:TI) (g:TG) (ti:TT) (te:TE):TE:=fun σ H Q=>wi σ H fun J H1=>∃ W:Nat->Nat->List V->Hp->Prop,(∃ m,W 0 m [] H1)/\∀ i m ys H2,W i m ys H2->ys.length <= sizeLine /\
 ((J.stop i H2/\∀ D,H2 D=none->Q (.ref D) (upd H2 D (.lst ys))) \/
  (J.go i H2/\∀ x H3,J.yld i H2 x H3->g x (σ++List.replicate n none) H3 fun σ2 H4=>Wk (σ++List.replicate n none) σ2/\ti σ2 H4 fun b H5 =>
   if b=true then te σ2 H5 fun y H6=>∃ m',m' < m/\W (i+1) m' (ys++[y]) H6 else ∃ m',m' < m/\W (i+1) m' ys H5))
theorem Inv.track {X:Cx}{pins:List (Addr×Obj)}{σ:St}{H:Hp}{s:Shared}{D:Addr}{o:HO} (I:Inv X pins σ H s) (hD:X.s₀.heap.objs.size <= D) (hn:H D=none) (hL:D≠X.env.locals)
  (hcl:∀ x c,X.env.cells.lookup x=some c->c≠D) (hp:∀ p∈X.pn++pins,p.1≠D) (new:jK X.prog X.w (upd H D o) s.heap D o):Inv X pins σ (upd H D o) s:=by
 have ne:∀ {b u},H b=some u->b≠D:=fun e z=>by rw[z,hn] at e;cases e
 refine⟨I.ok,I.os,I.bare,⟨I.base.keep,I.base.slot,fun b ob e n hx=>?_,I.base.there,fun b xs e=>?_,fun b ob u e=>?_,fun b ps e=>?_⟩,I.loc,I.cell,?_,fun x c e=>?_,fun p hp'=>?_,fun b u e=>?_,I.len,I.tk⟩
 ·rw[zU (Nat.ne_of_lt (Nat.lt_of_lt_of_le (Heap.lt_size e) hD))]
  exact I.base.free b ob e n hx
 ·have q:=I.base.tups b xs e
  rw[zU (ne q)];exact q
 ·have q:=I.base.frzs b ob u e
  rw[zU (ne q)];exact q
 ·obtain⟨mo,q⟩:=I.base.tbls b ps e
  exact⟨mo,by rw[zU (ne q)];exact q⟩
 ·rw[zU (Ne.symm hL)];exact I.free
 ·rw[zU (hcl x c e)];exact I.freeC x c e
 ·obtain⟨e1,e2,e3,e4,e5⟩:=I.pin p hp'
  exact⟨e1,by rw[zU (hp p hp')];exact e2,e3,e4,e5⟩
 ·by_cases hb:b=D
  ·subst hb;rw[jB] at e;cases e;exact new
  ·rw[zU hb] at e
   exact (I.hok b u e).stay (fun _ _ _ q=>q) (fun c q=>by rw[zU (ne q)];exact q) fun c xs q=>by rw[zU (ne q)];exact q
noncomputable abbrev JM (us:List Value) (n:Nat):Obj:={ cls:=.type "list",data:=.seq us.toArray n }
section
variable {X:Cx}{vars:List Str}{scope:Scope}{cl:List (Str×Addr)}{C D it:Addr}{fp:List Addr}{s₂:Shared}{H₂:Hp}{tg elt iter:Expr}{ifs:List Expr}{pos:Pos}{J:It}{tn:Nat->Heap->Prop}
 {g:TG}{ti:TT}{te:TE}{R:Result->Shared->Prop}
theorem zG2 (hc:X.calm=true) (T:JF X.prog X.w X.K tg J fp it tn) (hg:PG (z8 X vars scope cl C fp s₂ H₂) tg g) (hi:Z8 (z8 X vars scope cl C fp s₂ H₂) ifs ti) (he:PE (z8 X vars scope cl C fp s₂ H₂) elt te)
  {σ0:St} (W:Nat->Nat->List V->Hp->Prop) {F:List V->Hp->Prop} (hD0:s₂.heap.objs.size <= D) (hDC:D≠C) (hDs:D∉frs X.stack) (hDc:∀ x c,cl.lookup x=some c->c≠D)
  (hS:∀ b∈fp,b≠C/\b∉frs X.stack/\(∀ x c,cl.lookup x=some c->c≠b)/\D≠b)
  (turn:∀ i m ys H2,W i m ys H2->ys.length <= sizeLine/\((J.stop i H2/\F ys H2) \/
   (J.go i H2/\∀ x H3,J.yld i H2 x H3->g x σ0 H3 fun σ2 H4=>Wk σ0 σ2/\ti σ2 H4 fun b H5 =>
    if b=true then te σ2 H5 fun y H6=>∃ m',m' < m/\W (i+1) m' (ys++[y]) H6 else ∃ m',m' < m/\W (i+1) m' ys H5)))
  (hR:∀ s' ys us n H2,Inv (z8 X vars scope cl C fp s₂ H₂) [(D,JM us n)] σ0 H2 s'->zY ys us->ys.length <= sizeLine->F ys H2->R (.ok .next) s')
  {s:Shared}{m0:Nat}{n0:Nat}{H0:Hp} (I0:Inv (z8 X vars scope cl C fp s₂ H₂) [(D,JM [] n0)] σ0 H0 s) (st0:tn 0 s.heap) (f0:∀ b∈fp,H0 b=none) (w0:W 0 m0 [] H0) :
  codeAny (model X.prog X.w) X.A (.compLoop (.ListComp elt [⟨tg,iter,ifs,0⟩] scope pos) 0 (.ref it) (.ref D) (compEnvC scope cl C X.env)) R s:=by
 have stat:∀ {H':Hp}{o:Obj},(∀ b∈fp,H' b=none)->∀ b∈fp,QM (z8 X vars scope cl C fp s₂ H₂) [(D,o)] H' b:=fun {H' o} hn b hb =>
  ⟨hn b hb,(hS b hb).1,(hS b hb).2.1,.inl hb,(hS b hb).2.2.1,fun p hp=>by
   have e:p=(D,o):=by simpa using hp
   subst e
   exact (hS b hb).2.2.2⟩
 refine codeAny_loop rfl (fun n s=>∃ i ys us nn H',Inv (z8 X vars scope cl C fp s₂ H₂) [(D,JM us nn)] σ0 H' s/\zY ys us/\tn i s.heap/\(∀ b∈fp,H' b=none)/\W i n ys H') (fun n s hI=>?_) m0 ⟨0,[],[],n0,H0,I0,.nil,st0,f0,w0⟩
 show wpAny _ X.A ((compTurn (.ListComp elt [⟨tg,iter,ifs,0⟩] scope pos) 0 (.ref it) (.ref D) (compEnvC scope cl C X.env)).onRaise (fun x=>do noteFrame x (compEnvC scope cl C X.env);theTreesLotGoes x)) _ _ s
 refine wpAny_noted ?_
 rw[compTurn_list]
 obtain⟨i,ys,us,nn,H',I,rv,st,fr,w⟩:=hI
 obtain⟨hz,tt⟩:=turn i n ys H' w
 refine wpAny_bind (wpAny_standAt (wpAny_bind ?_))
 rcases tt with ⟨stop,q⟩ | ⟨go,q⟩
 ·refine wpAny_mono (T.done (z8 X vars scope cl C fp s₂ H₂) rfl rfl rfl hc i _ s σ0 H' _ I (stat fr) st stop) (fun r s1 ⟨hr,I1⟩=>?_) (fun _ _ e=>e)
  subst hr
  exact wpAny_pure (hR s1 ys us nn H' I1 rv hz q)
 ·refine wpAny_mono (T.item (z8 X vars scope cl C fp s₂ H₂) rfl rfl rfl hc i _ s σ0 H' _ I (stat fr) st go) (fun r s1 ⟨u,hr,h1⟩=>?_) (fun _ _ e=>e)
  subst hr
  refine wpAny_bind (wpAny_mono h1 (fun _ s2 ⟨x,H3,I3,r3,y3,st3,fr3⟩=>?_) (fun _ _ e=>e))
  have I3':=I3.pinned (stat fr3) (T.obj _ _ st3)
  refine wpAny_bind (wpAny_mono (hg _ s2 σ0 H3 x u _ I3' r3 (q x H3 y3)) (fun _ s3 ⟨σ4,H4,I4,wk,q4⟩=>?_) (fun _ _ f=>False.elim f))
  refine wpAny_bind (wpAny_mono (hi _ s3 σ4 H4 _ I4 q4) (fun b s4 ⟨H5,I5,q5⟩=>?_) (fun _ _ f=>False.elim f))
  have back:∀ {s7:Shared}{H7:Hp}{o:Obj},Inv (z8 X vars scope cl C fp s₂ H₂) ((D,o)::yp fp s2.heap) σ4 H7 s7->tn (i+1) s7.heap/\∀ b∈fp,H7 b=none:=fun {s7 H7 o} I7=>by
   refine⟨T.keep _ _ _ st3 fun b hb ob e=>(I7.pin (b,ob) (List.mem_append_right _ (List.mem_cons_of_mem _ (Zu hb e)))).1,fun b hb=>?_⟩
   obtain⟨ob,e,d⟩:=T.obj _ _ st3 b hb
   exact (I7.pin (b,ob) (List.mem_append_right _ (List.mem_cons_of_mem _ (Zu hb e)))).2.1
  have one:∀ {s7:Shared}{H7:Hp}{o:Obj},Inv (z8 X vars scope cl C fp s₂ H₂) ((D,o)::yp fp s2.heap) σ4 H7 s7->Inv (z8 X vars scope cl C fp s₂ H₂) [(D,o)] σ0 H7 s7:=fun {s7 H7 o} I7 =>
   (I7.pins_of (pins':=[(D,o)]) fun p hp=>by
    have e:p=(D,o):=by simpa using hp
    subst e
    exact I7.pin (D,o) (List.mem_append_right _ List.mem_cons_self)).weak wk.1 wk.2
  cases b with
  | false =>
   obtain⟨m',hm,w'⟩:=q5
   obtain⟨b1,b2⟩:=back I5
   exact wpAny_pure ⟨rfl,m',hm,i+1,ys,us,nn,H5,one I5,rv,b1,b2,w'⟩
  | true =>
   refine wpAny_bind (wpAny_bind (wpAny_mono (he _ s4 σ4 H5 _ I5 q5) (fun v s5 ⟨y,H6,I6,r6,q6⟩=>?_) (fun _ _ f=>False.elim f)))
   obtain⟨m',hm,w'⟩:=q6
   obtain⟨eD,nD,_,_,_⟩:=I6.pin (D,JM us nn) (List.mem_append_right _ List.mem_cons_self)
   have hul:us.toArray.size <= sizeLine:=by rw[List.size_toArray,<- rv.length];exact hz
   refine wpAny_bind (wpAny_list_append_plain (hsz:=hul) ⟨nn,eD⟩ fun h' hp hs=>wpAny_pure (wpAny_pure ⟨rfl,?_⟩))
   obtain⟨n',hp⟩:=hp
   have hp':h'.get? D=some (JM (us++[v]) n'):=by rw[hp];simp
   have I7:Inv (z8 X vars scope cl C fp s₂ H₂) (yp fp s2.heap) σ4 H6 { s5 with heap:=h',toks:=s5.toks }:=by
    refine Inv.turned (it:=D) (I6.pins_of (pins':=yp fp s2.heap) fun p hp=>I6.pin p (List.mem_append_right _ (List.mem_cons_of_mem _ hp))) (fun b o hb e=>(hs.2 b hb).trans e) nD hDC (.inr hD0) (fun x c e=>hDc x c e) fun p hp=>?_
    have hp2:p∈yp fp s2.heap:=by simpa using hp
    exact Ne.symm (hS p.1 (zCF hp2).1).2.2.2
   have I8:Inv (z8 X vars scope cl C fp s₂ H₂) ((D,JM (us++[v]) n')::yp fp s2.heap) σ4 H6 { s5 with heap:=h',toks:=s5.toks }:=I7.pins_of fun p hp=>by
    rcases List.mem_cons.mp hp with rfl | hp
    ·exact⟨hp',nD,hDC,hDs,fun v z=>by cases z⟩
    ·exact I7.pin p (List.mem_append_right _ hp)
   obtain⟨b1,b2⟩:=back I8
   exact⟨m',hm,i+1,ys++[y],us++[v],n',H6,one I8,rv.append (.cons r6 .nil),b1,b2,w'⟩
end
section
variable {X:Cx}{vars:List Str}{scope:Scope}{cl:List (Str×Addr)}{tg elt iter:Expr}{ifs:List Expr}{pos:Pos}{wi:TI}{g:TG}{ti:TT}{te:TE}
theorem zFc (hc:X.calm=true) (S:ji X vars scope cl) (hg:∀ C fp s₂ H₂,PG (z8 X vars scope cl C fp s₂ H₂) tg g) (ht:∀ C fp s₂ H₂,Z8 (z8 X vars scope cl C fp s₂ H₂) ifs ti)
  (he:∀ C fp s₂ H₂,PE (z8 X vars scope cl C fp s₂ H₂) elt te) {pins:List (Addr×Obj)}{σ:St}{s2:Shared}{E:Value->Shared->Prop}{F:Addr->Hp->Prop}{RR:Value->Addr->Result->Shared->Prop}{itv:Value}
  (h2:PIE X pins σ tg (fun J H1=>∃ W:Nat->Nat->List V->Hp->Prop,(∃ m,W 0 m [] H1)/\∀ i m ys H2,W i m ys H2->ys.length <= sizeLine /\
   ((J.stop i H2/\∀ D,H2 D=none->F D (upd H2 D (.lst ys))) \/
    (J.go i H2/\∀ x H3,J.yld i H2 x H3->g x (σ++List.replicate vars.length none) H3 fun σ2 H4=>Wk (σ++List.replicate vars.length none) σ2/\ti σ2 H4 fun b H5 =>
     if b=true then te σ2 H5 fun y H6=>∃ m',m' < m/\W (i+1) m' (ys++[y]) H6 else ∃ m',m' < m/\W (i+1) m' ys H5))) itv s2)
  (hRR:∀ D C s' H',(∃ m,s'.heap.Ns C m)->C≠X.env.locals->(∀ x c,X.env.cells.lookup x=some c->c≠C)->Inv X pins σ H' s'->(∀ (h':Heap),Heap.SameBut C s'.heap h'->∀ (s'':Shared),s''={ s' with heap:=h' }->Inv X pins σ H' s'') ->
   (∀ (σ':St) (s3:Shared),Inv X pins σ' H' s3->(∃ a,Heap.SameBut a s'.heap s3.heap/\(a=X.env.locals\/∃ x,X.env.cells.lookup x=some a))->∀ (h':Heap),Heap.SameBut C s3.heap h'->Inv X pins σ' H' { s3 with heap:=h' }) ->
   F D H'->RR (.ref D) C (.ok .next) s') :
  wpAny (model X.prog X.w) X.A (newList []) (fun acc s₃=>wpAny (model X.prog X.w) X.A (newFunctionEnv scope X.env.globals cl [] X.env.qual none .none (some X.env)) (fun cenv s₄ =>
   codeAny (model X.prog X.w) X.A (.compStart (.ListComp elt [⟨tg,iter,ifs,0⟩] scope pos) 0 itv acc { cenv with scope:=relabel scope X.env }) (RR acc cenv.locals) s₄) E s₃) E s2:=by
 obtain⟨it,fp,tn,J,H2,e,I2,T,st2,f2,W,⟨m0,w0⟩,turn⟩:=h2
 subst e
 refine wpAny_newObj_type (wpAny_newFunctionEnv S.noCell (by intro y hy;simp at hy) (fun h₁ hns₁ hsb₁=>?_) S.kind)
 dsimp only at hns₁ hsb₁ ⊢
 generalize hH2:s2.heap.push { cls:=.type "list",dict:=none,data:=.seq ([]:List Value).toArray }=P2 at hns₁ hsb₁ ⊢
 have hC:P2.objs.size=s2.heap.objs.size+1:=by rw[<- hH2,Heap.size_push]
 have hDC:s2.heap.objs.size≠P2.objs.size:=by rw[hC];exact Nat.ne_of_lt (Nat.lt_succ_self _)
 have hCle:s2.heap.objs.size <= P2.objs.size:=by rw[hC];exact Nat.le_succ _
 have below:∀ b,b < s2.heap.objs.size->b≠P2.objs.size/\b≠s2.heap.objs.size:=fun b hb=>⟨by rw[hC];exact Nat.ne_of_lt (Nat.lt_succ_of_lt hb),Nat.ne_of_lt hb⟩
 have old:∀ b o,s2.heap.get? b=some o->h₁.get? b=some o:=fun b o e=>hsb₁.extBut b o (below b (Heap.lt_size e)).1 (Heap.get?_push_of_some _ (hH2 ▸ Heap.get?_push_of_some _ e))
 have hacc:h₁.get? s2.heap.objs.size=some (JM [] 0):=hsb₁.extBut _ _ hDC (Heap.get?_push_of_some _ (hH2 ▸ Heap.get?_push_size _ rfl))
 have hst₁:tn 0 h₁:=T.keep _ _ _ st2 fun b _ o e=>old b o e
 have hob:∀ b∈fp,∃ o,s2.heap.get? b=some o:=fun b hb=>by
  obtain⟨o,e,_⟩:=T.obj _ _ st2 b hb
  exact⟨o,e⟩
 have fpl:∀ b∈fp,b < s2.heap.objs.size:=fun b hb=>by
  obtain⟨o,e⟩:=hob b hb
  exact Heap.lt_size e
 have cget:∀ x c,cl.lookup x=some c->X.env.cells.lookup x=some c:=fun x c e=>S.cells.get e
 have celt:∀ x c,X.env.cells.lookup x=some c->c < s2.heap.objs.size:=fun x c e=>by
  obtain⟨v,q⟩:=I2.cell x c e
  exact q.lt
 have pint:∀ p∈X.pn++pins,p.1 < s2.heap.objs.size:=fun p hp=>Heap.lt_size (I2.pin p hp).1
 have fpst:∀ b∈fp,b∉frs X.stack:=fun b hb z=>by
  rcases List.mem_cons.mp (I2.stkSub b z) with e | e
  ·exact (f2 b hb).2.1 e
  ·exact (f2 b hb).2.2.1 e
 have nst:s2.heap.objs.size∉frs X.stack:=fun z=>by
  rcases List.mem_cons.mp (I2.stkSub _ z) with e | e
  ·exact absurd (e ▸ I2.lt) (Nat.lt_irrefl _)
  ·exact I2.nofs (Nat.le_refl _) e
 have CL:P2.objs.size≠X.env.locals:=fun z=>absurd (Nat.lt_of_lt_of_le (z ▸ I2.lt) hCle) (Nat.lt_irrefl _)
 have CC:∀ x c,X.env.cells.lookup x=some c->c≠P2.objs.size:=fun x c e=>Nat.ne_of_lt (Nat.lt_of_lt_of_le (celt x c e) hCle)
 have CP:∀ p∈X.pn++pins,p.1≠P2.objs.size:=fun p hp=>Nat.ne_of_lt (Nat.lt_of_lt_of_le (pint p hp) hCle)
 have loop:∀ s₃:Shared,s₃={ s2 with heap:=h₁,toks:=s2.toks+([]:List (Str×Value)).length } ->
   codeAny (model X.prog X.w) X.A (.compLoop (.ListComp elt [⟨tg,iter,ifs,0⟩] scope pos) 0 (.ref it) (.ref s2.heap.objs.size) (compEnvC scope cl P2.objs.size X.env)) (RR (.ref s2.heap.objs.size) P2.objs.size) s₃:=by
  rintro s₃ rfl
  have I0:Inv (z8 X vars scope cl P2.objs.size fp s2 H2) [(s2.heap.objs.size,JM [] 0)] (σ++List.replicate vars.length none) H2 { s2 with heap:=h₁,toks:=s2.toks+([]:List (Str×Value)).length } :=
   zFB I2 S f2 hob (Nat.le_refl _) hCle hDC hacc (fun v z=>by cases z) hns₁ old
  refine zG2 hc T (hg _ _ _ _) (ht _ _ _ _) (he _ _ _ _) (D:=s2.heap.objs.size) W (F:=fun ys H'=>∀ D,H' D=none->F D (upd H' D (.lst ys))) (Nat.le_refl _) hDC nst (fun x c e=>Nat.ne_of_lt (celt x c (cget x c e)))
   (fun b hb=>⟨(below b (fpl b hb)).1,fpst b hb,fun x c e z=>(f2 b hb).2.2.2.2.1 x c (cget x c e) z,Nat.ne_of_gt (fpl b hb)⟩) turn ?_ I0 hst₁ (fun b hb=>(f2 b hb).1) w0
  intro s' ys us n H' I' rv hz q
  obtain⟨eD,nD,_,_,_⟩:=I'.pin (s2.heap.objs.size,JM us n) (List.mem_append_right _ List.mem_cons_self)
  have J1:Inv X pins σ H' s':=I2.call' I'.os I'.base I'.hok I'.bare (fun b hb=>⟨(f2 b hb).2.2.2.1,(f2 b hb).2.1,(f2 b hb).2.2.2.2.1,(f2 b hb).2.2.2.2.2⟩) I'.tk
  have J2:Inv X pins σ (upd H' s2.heap.objs.size (.lst ys)) s':=J1.track I2.sz nD (fun z=>absurd (z ▸ I2.lt) (Nat.lt_irrefl _)) (fun x c e=>Nat.ne_of_lt (celt x c e)) (fun p hp=>Nat.ne_of_lt (pint p hp)) ⟨hz,us,n,rv,eD⟩
  have nC:upd H' s2.heap.objs.size (.lst ys) P2.objs.size=none:=by
   rw[zU (Ne.symm hDC)]
   exact I'.free
  refine hRR _ _ s' _ ?_ CL CC J2 (fun h' hs s'' e=>?_) (fun σ' s3 I3 _ h' hs=>?_) (q _ nD)
  ·obtain⟨m,hn,_⟩:=I'.loc
   exact⟨m,hn⟩
  ·subst e
   exact J2.turned (t':=s'.toks) (it:=P2.objs.size) (fun b o hb e=>(hs.2 b hb).trans e) nC CL (.inr (Nat.le_trans I2.sz hCle)) CC CP
  ·exact I3.turned (t':=s3.toks) (it:=P2.objs.size) (fun b o hb e=>(hs.2 b hb).trans e) nC CL (.inr (Nat.le_trans I2.sz hCle)) CC CP
 exact codeAny_compStart_list (loop _ rfl) (T.self _ 0 _ _ _ hst₁ (loop _ rfl))
theorem zEZ (hc:X.calm=true) (S:ji X vars scope cl) (hi:PI X tg iter wi) (hg:∀ C fp s₂ H₂,PG (z8 X vars scope cl C fp s₂ H₂) tg g) (ht:∀ C fp s₂ H₂,Z8 (z8 X vars scope cl C fp s₂ H₂) ifs ti)
  (he:∀ C fp s₂ H₂,PE (z8 X vars scope cl C fp s₂ H₂) elt te) (hs:∀ x,foldedSetIterable iter X.env x=pure x:=by intro _;rfl):PE X (.ListComp elt [⟨tg,iter,ifs,0⟩] scope pos) (zIL vars.length wi g ti te):=by
 intro pins s σ H Q I h
 rw[eval_ListComp]
 refine wpAny_comprehension_free (use:=none) rfl hs S.clos S.kind S.names (thn (hi pins s σ H _ I h) fun v s1 h1=>thn h1 fun itv s2 h2=>?_)
 refine zFc hc S hg ht he (F:=fun D H'=>Q (.ref D) H') h2 fun D C s' H' hn hCL hCC J2 J3 _ q=>?_
 obtain⟨m,hn⟩:=hn
 exact⟨m,hn,fun h' hs'=>⟨.ref D,H',J3 h' hs' _ rfl,rfl,q⟩⟩
end
end L2
namespace L2
open PySem PySem.Spec PyProof.Rows
noncomputable def Its (z:Str):It:=⟨fun i _=>i < z.length,fun i H x H'=>H'=H/\∃ c,z.cps[i]? = some c/\x=.str ⟨#[c]⟩,fun i _=>z.length <= i⟩
theorem zFi {P:Program}{w:World}{K:PySem.W.Frag}{tg:Expr} (it:Addr) (z:Str) (t:Tok):JF P w K tg (Its z) [it] it (fun i h=>h.IsStrIter it "str_ascii_iterator" z t i) where
 mem:=by simp
 obj:=fun i h st b hb=>by
  have e:b=it:=by simpa using hb
  subst e
  obtain⟨o,e,c,d⟩:=st
  exact⟨o,e,fun v z=>by rw[d] at z;cases z⟩
 keep:=fun i h h' st k=>let ⟨o,ho,r⟩:=st;⟨o,k it (by simp) o ho,r⟩
 item:=by
  intro X hP hw hK hc i pins s σ H E I hf st hg
  subst hP hw hK
  obtain⟨f0,f1,f2,f3,f4,f5⟩:=hf it (by simp)
  have hlt:i < z.cps.size:=hg
  refine wpAny_pyNext_ascii_item st (c:=z.cps[i]) (by simp[hlt]) fun h' st' sb=>?_
  have I1:Inv X pins σ H { s with heap:=h',toks:=s.toks+1 }:=I.turned (fun b o hb e=>(sb.2 b hb).trans e) f0 f1 f3 f4 f5
  obtain⟨o,e,c,d⟩:=id st'
  exact⟨_,rfl,zAE (s:={ s with heap:=h',toks:=s.toks+1 }) e c d (by decide) ⟨.str ⟨#[z.cps[i]]⟩,H,I1,⟨_,rfl⟩,⟨rfl,z.cps[i],by simp[hlt],rfl⟩,st',fun b hb=>(hf b hb).1⟩⟩
 done:=by
  intro X hP hw hK hc i pins s σ H E I hf st hg
  subst hP hw hK
  obtain⟨f0,f1,f2,f3,f4,f5⟩:=hf it (by simp)
  have hle:z.cps.size <= i:=hg
  exact wpAny_pyNext_ascii_end (I.ok.hd hc) st (by simp[hle]) fun h' eb=>⟨rfl,I.turned (t':=s.toks) (fun b o hb e=>eb b o hb e) f0 f1 f3 f4 f5⟩
 self:=fun _ _ _ _ _ st h=>wpAny_pyIter_striter_ascii st h
theorem zFv {P:Program}{w:World}{K:PySem.W.Frag}{tg:Expr} (it:Addr) (z:Str) (t:Tok):JF P w K tg (Its z) [it] it (fun i h=>h.IsStrIter it "str_iterator" z t i) where
 mem:=by simp
 obj:=fun i h st b hb=>by
  have e:b=it:=by simpa using hb
  subst e
  obtain⟨o,e,c,d⟩:=st
  exact⟨o,e,fun v z=>by rw[d] at z;cases z⟩
 keep:=fun i h h' st k=>let ⟨o,ho,r⟩:=st;⟨o,k it (by simp) o ho,r⟩
 item:=by
  intro X hP hw hK hc i pins s σ H E I hf st hg
  subst hP hw hK
  obtain⟨f0,f1,f2,f3,f4,f5⟩:=hf it (by simp)
  have hlt:i < z.cps.size:=hg
  refine wpAny_pyNext_wide_item st (c:=z.cps[i]) (by simp[hlt]) fun h' st' sb=>?_
  have I1:Inv X pins σ H { s with heap:=h',toks:=s.toks+1 }:=I.turned (fun b o hb e=>(sb.2 b hb).trans e) f0 f1 f3 f4 f5
  obtain⟨o,e,c,d⟩:=id st'
  exact⟨_,rfl,zAE (s:={ s with heap:=h',toks:=s.toks+1 }) e c d (by decide) ⟨.str ⟨#[z.cps[i]]⟩,H,I1,⟨_,rfl⟩,⟨rfl,z.cps[i],by simp[hlt],rfl⟩,st',fun b hb=>(hf b hb).1⟩⟩
 done:=by
  intro X hP hw hK hc i pins s σ H E I hf st hg
  subst hP hw hK
  obtain⟨f0,f1,f2,f3,f4,f5⟩:=hf it (by simp)
  have hle:z.cps.size <= i:=hg
  exact wpAny_pyNext_wide_end (I.ok.hd hc) st (by simp[hle]) fun h' eb=>⟨rfl,I.turned (t':=s.toks) (fun b o hb e=>eb b o hb e) f0 f1 f3 f4 f5⟩
 self:=fun _ _ _ _ _ st h=>wpAny_pyIter_striter_wide st h
noncomputable def zMy (tl:TE):TI:=fun σ H R=>tl σ H fun x H1=>∃ z,x=.str z/\R (Its z) H1
theorem zK7 {X:Cx}{tg l:Expr}{tl:TE} (hl:PE X l tl):PI X tg l (zMy tl):=by
 intro pins s σ H R I h
 refine thn (hl pins s σ H _ I h) fun v s1 ⟨x,H1,I1,r1,q1⟩=>?_
 obtain⟨z,e,q⟩:=q1
 subst e
 obtain⟨t,rfl⟩:=r1
 have fin:∀ b∈[s1.heap.objs.size],QM X pins H1 b:=fun b hb=>by
  have e:b=s1.heap.objs.size:=by simpa using hb
  subst e
  exact I1.fpOk (Nat.le_refl _) (I1.hok.fresh (Nat.le_refl _))
 cases ha:z.cps.all (· < 128)
 ·refine wpAny_pyIter_wide ha ?_
  exact⟨s1.heap.objs.size,[s1.heap.objs.size],_,Its z,H1,rfl,I1.kept (t':=s1.toks) fun b o e=>Heap.get?_push_of_some _ e,zFv _ z t,⟨_,Heap.get?_push_size _ rfl,rfl,rfl⟩,fin,q⟩
 ·refine wpAny_pyIter_ascii ha ?_
  exact⟨s1.heap.objs.size,[s1.heap.objs.size],_,Its z,H1,rfl,I1.kept (t':=s1.toks) fun b o e=>Heap.get?_push_of_some _ e,zFi _ z t,⟨_,Heap.get?_push_size _ rfl,rfl,rfl⟩,fin,q⟩
section
variable {X:Cx}
theorem zGq:OpR X (compareOp .LtE) (fun x y H Q=>∃ i j,x=.str i/\y=.str j/\Q (.bl (!decide (j.cps.toList < i.cps.toList))) H):=by
 intro pins s σ H x y v u Q I rx ry h
 obtain⟨i,j,rfl,rfl,q⟩:=h
 obtain⟨t,rfl⟩:=rx
 obtain⟨t',rfl⟩:=ry
 exact PySem.P.le_str (jA I q rfl)
noncomputable def zBW (z:Str) (lo hi:Option Int):Str:=⟨((z.cps.toList.drop (HT.sIx z.length 0 lo)).take (HT.sIx z.length z.length hi - HT.sIx z.length 0 lo)).toArray⟩
theorem zDX (lo hi:Option Int) (n:Nat):Builtin.Str.strSliceIndices lo hi 1 n=(List.range (HT.sIx n n hi - HT.sIx n 0 lo)).map fun k=>HT.sIx n 0 lo+k:=by
 have clip:∀ v:Int,max 0 (min (if v < 0 then v+(n:Int) else v) (n:Int))=((HT.sIx n 0 (some v):Nat):Int)/\max 0 (min (if v < 0 then v+(n:Int) else v) (n:Int))=((HT.sIx n n (some v):Nat):Int):=fun v=>by
  unfold HT.sIx
  by_cases hv:v < 0
  ·simp only[if_pos hv];omega
  ·simp only[if_neg hv];omega
 have key:∀ a b:Nat,sliceRange (a:Int) (b:Int) 1=(List.range (b - a)).map fun k=>a+k:=fun a b=>by
  unfold sliceRange
  have hc:(if (1:Int) > 0 then (if (a:Int) < (b:Int) then ((b:Int) - a+1 - 1) / 1 else 0) else (if (a:Int) > (b:Int) then ((a:Int) - b - 1 - 1) / (-1) else 0)).toNat=b - a:=by
   rw[if_pos (by decide)]
   by_cases h:(a:Int) < (b:Int)
   ·rw[if_pos h,Int.ediv_one];omega
   ·rw[if_neg h];omega
  dsimp only
  rw[hc]
  refine List.map_congr_left fun k _=>?_
  omega
 unfold Builtin.Str.strSliceIndices
 cases lo with
 | none =>
  cases hi with
  | none=>exact key 0 n
  | some v =>
   simp only[show (1:Int) > 0 by decide,if_true]
   rw[(clip v).2]
   exact key 0 _
 | some u =>
  cases hi with
  | none =>
   simp only[show (1:Int) > 0 by decide,if_true]
   rw[(clip u).1]
   exact key _ n
  | some v =>
   simp only[show (1:Int) > 0 by decide,if_true]
   rw[(clip u).1,(clip v).2]
   exact key _ _
theorem zIb {α:Type} (xs:Array α) (a m:Nat):((List.range m).map fun k=>a+k).filterMap (xs[·]?)=(xs.toList.drop a).take m:=by
 rw[List.filterMap_map]
 induction m generalizing a with
 | zero=>simp
 | succ m ih =>
  rw[List.range_succ,List.filterMap_append,ih,List.take_succ]
  congr 1
  simp only[List.filterMap_cons,List.filterMap_nil,Function.comp]
  rw[List.getElem?_drop,Array.getElem?_toList]
  cases xs[a+m]?<;>rfl
theorem zGW (z:Str) (lo hi:Option Int):Txt.slice z lo hi=zBW z lo hi:=by
 have h1:=HT.zDk z.length 0 (Nat.zero_le _) lo
 have h2:=HT.zDk z.length z.length (Nat.le_refl _) hi
 unfold Txt.slice zBW
 rw[zDX,zIb]
 split
 ·rename_i h
  rw[List.length_map,List.length_range] at h
  have h3:HT.sIx z.length z.length hi - HT.sIx z.length 0 lo=z.length:=by
   have h':=(Bool.and_eq_true_iff.mp h).2
   exact eq_of_beq h'
  have e1:HT.sIx z.length 0 lo=0:=by omega
  rw[h3,e1,List.drop_zero]
  have hl:z.cps.toList.length=z.length:=by simp[Str.length]
  rw[List.take_of_length_le (by omega)]
 ·rfl
noncomputable def zNE:V->Option Int->Option Int->Hp->VK->Prop:=fun x lo hi H Q=>∃ z,x=.str z/\z.length <= sizeLine/\Q (.str (zBW z lo hi)) H
theorem zJz:SlR X zNE:=by
 intro pins s σ H x v vl vu lo hi sl Q I rx hs pl pu h
 obtain⟨z,rfl,hz,q⟩:=h
 obtain⟨t,rfl⟩:=rx
 refine⟨"str",_,F.slot_str_getitem.lookup,typeIs_str _ _ _,wpAny_with_toks (n:=1) I.tk ?_⟩
 obtain⟨o,ho,hc,hd⟩:=hs
 have fin:(Txt.slice z lo hi).length <= sizeLine/\∀ t' k,1 <= ({ s with toks:=k }:Shared).toks->EP X pins σ Q (.str (Txt.slice z lo hi) t') { s with toks:=k } :=
  ⟨Nat.le_trans (Txt.slice_le z lo hi) hz,fun t' k hk=>⟨.str (Txt.slice z lo hi),H,I.tok k hk,⟨_,rfl⟩,by rw[zGW];exact q⟩⟩
 cases pl with
 | none =>
  cases pu with
  | none=>exact wpAny_getItem_str_slice (l:=none) (u:=none) (st:=none) ⟨o,ho,hc,hd⟩ rfl (post_val_or_str fin)
  | int j uj=>exact wpAny_getItem_str_slice (l:=none) (u:=some (j,uj)) (st:=none) ⟨o,ho,hc,hd⟩ rfl (post_val_or_str fin)
 | int i ui =>
  cases pu with
  | none=>exact wpAny_getItem_str_slice (l:=some (i,ui)) (u:=none) (st:=none) ⟨o,ho,hc,hd⟩ rfl (post_val_or_str fin)
  | int j uj=>exact wpAny_getItem_str_slice (l:=some (i,ui)) (u:=some (j,uj)) (st:=none) ⟨o,ho,hc,hd⟩ rfl (post_val_or_str fin)
theorem zA3 {ys:List Str}:∀ {us:List Value},zY (ys.map V.str) us->StrsAre us ys:=by
 induction ys with
 | nil=>intro us r;rw[List.map_nil] at r;cases r;exact .nil
 | cons y ys ih =>
  intro us r
  rw[List.map_cons] at r
  cases r with
  | cons r1 r2 =>
   obtain⟨t,e⟩:=r1
   subst e
   exact .cons y t (ih r2)
noncomputable def zCm (K:PySem.W.Frag):V->List V->Hp->VK->Prop:=fun x vs H Q=>∃ z p ys,x=.str z/\vs=[.ref p]/\(SqL K H p (ys.map V.str)\/SqT K H p (ys.map V.str))/\(ys.map (·.length)).sum+ys.length * z.length <= 16777216/\Q (.str (Txt.join z ys)) H
theorem zJR:MtR X "str.join" (zCm X.K):=by
 intro pins s σ H x vs v us Q I rx rv h
 obtain⟨z,p,ys,rfl,rfl,hq,hz,q⟩:=h
 obtain⟨t,rfl⟩:=rx
 obtain⟨u,rfl,ru⟩:=yd rv
 cases ru
 rcases hq with hq | hq
 ·obtain⟨its,r,pl,_⟩:=I.list hq
  exact wpAny_with_toks (n:=1) I.tk (join_list pl.isList (by simpa using zA3 r) hz fun t' k hk=>⟨.str (Txt.join z ys),H,I.tok k hk,⟨_,rfl⟩,q⟩)
 ·obtain⟨its,r,pl,_⟩:=I.tuple hq
  exact wpAny_with_toks (n:=1) I.tk (join_tuple pl (by simpa using zA3 r) hz fun t' k hk=>⟨.str (Txt.join z ys),H,I.tok k hk,⟨_,rfl⟩,q⟩)
end
end L2
namespace L2
open PySem PySem.Spec PyProof.Rows PySem.Builtin.Str
section
variable {X:Cx}
theorem zFE:OpR X (binaryOp .Mult) (fun x y H Q=>∃ z n,x=.str z/\y=.int n/\MulOk z n/\Q (.str (Txt.mul z n)) H):=by
 intro pins s σ H x y v u Q I rx ry h
 obtain⟨z,n,rfl,rfl,hm,q⟩:=h
 obtain⟨t,rfl⟩:=rx
 obtain⟨t',rfl⟩:=ry
 exact wpAny_with_toks (n:=1) I.tk (SB.mul hm fun t' k hk=>⟨.str _,H,I.tok k hk,⟨_,rfl⟩,q⟩)
end
mutual
inductive jt (K:PySem.W.Frag) (H:Hp):V->PyData->Prop
 | non:jt K H .non .none
 | bl (b:Bool):jt K H (.bl b) (.bool b)
 | int (i:Int):jt K H (.int i) (.int i)
 | str (x:Str):jt K H (.str x) (.str x)
 | lst {p:Addr}{xs:List V}{ds:List PyData}:SqL K H p xs->yS K H xs ds->jt K H (.ref p) (.list ds)
 | tup {p:Addr}{xs:List V}{ds:List PyData}:SqT K H p xs->yS K H xs ds->jt K H (.ref p) (.tuple ds)
inductive yS (K:PySem.W.Frag) (H:Hp):List V->List PyData->Prop
 | nil:yS K H [] []
 | cons {v:V}{d:PyData}{vs:List V}{ds:List PyData}:jt K H v d->yS K H vs ds->yS K H (v::vs) (d::ds)
end
section
variable {X:Cx}{pins:List (Addr×Obj)}{σ:St}{H:Hp}{s:Shared}
mutual
theorem jt.reads (I:Inv X pins σ H s):∀ {v:V}{d:PyData}{u:Value},jt X.K H v d->zZ v u->∃ as,Reads s.heap u d as
 | _,_,_,.non,r=>by cases r;exact⟨_,.none⟩
 | _,_,_,.bl b,r=>by cases r;exact⟨_,.bool b⟩
 | _,_,_,.int i,r=>by obtain⟨t,rfl⟩:=r;exact⟨_,.int i t⟩
 | _,_,_,.str x,r=>by obtain⟨t,rfl⟩:=r;exact⟨_,.str x t⟩
 | _,_,_,.lst hq ha,r=>by
  cases r
  obtain⟨its,rv,⟨o,n,e,hc,hd,hs⟩,_⟩:=I.list hq
  obtain⟨as,ra⟩:=yS.reads I ha rv
  exact⟨_,.list e hc hs (by simpa using ra)⟩
 | _,_,_,.tup hq ha,r=>by
  cases r
  obtain⟨its,rv,⟨o,e,hc,n,hs⟩,_⟩:=I.tuple hq
  obtain⟨as,ra⟩:=yS.reads I ha rv
  exact⟨_,.tuple e hc hs (by simpa using ra)⟩
theorem yS.reads (I:Inv X pins σ H s):∀ {vs:List V}{ds:List PyData}{us:List Value},yS X.K H vs ds->zY vs us->∃ as,ReadsAll s.heap us ds as
 | _,_,_,.nil,r=>by cases r;exact⟨_,.nil⟩
 | _,_,_,.cons h t,r=>by
  cases r with
  | cons r1 r2 =>
   obtain⟨as,ra⟩:=jt.reads I h r1
   obtain⟨bs,rb⟩:=yS.reads I t r2
   exact⟨_,.cons ra rb⟩
end
end
section
variable {X:Cx}
noncomputable def zHx (K:PySem.W.Frag) (neg:Bool):R2:=fun x y H Q=>∃ d e,jt K H x d/\jt K H y e/\SeqAt.shaped d=true/\SeqAt.shaped e=true/\Q (.bl (if neg then !PyData.eqv d e else PyData.eqv d e)) H
theorem zJ9 {k:Nat} (hr:z4 k X.A):OpR X (compareOp .Eq) (zHx X.K false):=by
 intro pins s σ H x y v u Q I rx ry h
 obtain⟨d,e,hd,he,sd,se,q⟩:=h
 obtain⟨as,ra⟩:=hd.reads I rx
 obtain⟨bs,rb⟩:=he.reads I ry
 exact eq_dataH ra rb sd se hr.units ⟨.bl _,H,I,rfl,q⟩
theorem zKK {k:Nat} (hr:z4 k X.A):OpR X (compareOp .NotEq) (zHx X.K true):=by
 intro pins s σ H x y v u Q I rx ry h
 obtain⟨d,e,hd,he,sd,se,q⟩:=h
 obtain⟨as,ra⟩:=hd.reads I rx
 obtain⟨bs,rb⟩:=he.reads I ry
 exact ne_dataH ra rb sd se hr.units ⟨.bl _,H,I,rfl,q⟩
where RelC:V->Value->Prop:=fun c cv=>(∃ n,c=.ty n/\cv=.type n)\/∃ a,c=.ref a/\cv=.ref a
end
end L2
namespace L2
open PySem PySem.Spec PyProof.Rows
section
variable {X:Cx}
noncomputable def zHp:R2:=fun x y H Q=>match x,y with
 | .int i,.int j=>Q (.int (i+j)) H
 | .str a,.str b=>a.length+b.length <= sizeLine/\Q (.str (a++b)) H
 | .ref l,.ref b=>∃ xs zs,H l=some (.lst xs)/\H b=some (.lst zs)/\xs.length+zs.length <= sizeLine/\∀ p,H p=none->Q (.ref p) (upd H p (.lst (xs++zs)))
 | _,_=>False
theorem yh:OpR X (binaryOp .Add) zHp:=by
 intro pins s σ H x y v u Q I rx ry h
 cases x with
 | int i =>
  cases y with
  | int j=>exact zLU pins s σ H _ _ v u Q I rx ry ⟨i,j,rfl,rfl,h⟩
  | _=>exact False.elim h
 | str a =>
  cases y with
  | str b=>exact zFb pins s σ H _ _ v u Q I rx ry ⟨a,b,rfl,rfl,h⟩
  | _=>exact False.elim h
 | ref l =>
  cases y with
  | ref b =>
   obtain⟨xs,zs,h1,h2,h3,h4⟩:=h
   exact zLQ pins s σ H _ _ v u Q I rx ry ⟨l,b,xs,zs,rfl,rfl,h1,h2,h3,h4⟩
  | _=>exact False.elim h
 | _=>exact False.elim h
noncomputable def zK1:R2:=fun x y H Q=>match x,y with
 | .int i,.int j=>Q (.int (i - j)) H
 | _,_=>False
theorem zIO:OpR X (binaryOp .Sub) zK1:=by
 intro pins s σ H x y v u Q I rx ry h
 cases x with
 | int i =>
  cases y with
  | int j=>exact zLB pins s σ H _ _ v u Q I rx ry ⟨i,j,rfl,rfl,h⟩
  | _=>exact False.elim h
 | _=>exact False.elim h
noncomputable def zKD:R2:=fun x y H Q=>match x,y with
 | .int i,.int j=>zEv i j/\Q (.int (i * j)) H
 | .str z,.int n=>MulOk z n/\Q (.str (Txt.mul z n)) H
 | _,_=>False
theorem zME:OpR X (binaryOp .Mult) zKD:=by
 intro pins s σ H x y v u Q I rx ry h
 cases x with
 | int i =>
  cases y with
  | int j=>exact zKx pins s σ H _ _ v u Q I rx ry ⟨i,j,rfl,rfl,h⟩
  | _=>exact False.elim h
 | str z =>
  cases y with
  | int n=>exact zFE pins s σ H _ _ v u Q I rx ry ⟨z,n,rfl,rfl,h⟩
  | _=>exact False.elim h
 | _=>exact False.elim h
noncomputable def zKl:R2:=fun x y H Q=>match x,y with
 | .int i,.int j=>0 < j/\Q (.int (i % j)) H
 | _,_=>False
theorem jg:OpR X (binaryOp .Mod) zKl:=by
 intro pins s σ H x y v u Q I rx ry h
 cases x with
 | int i =>
  cases y with
  | int j=>exact zJ2 pins s σ H _ _ v u Q I rx ry ⟨i,j,rfl,rfl,h⟩
  | _=>exact False.elim h
 | _=>exact False.elim h
noncomputable def zJ6:R2:=fun x y H Q=>match x,y with
 | .int i,.int j=>(0 < j/\j < 1073741824)/\Q (.int (i / j)) H
 | _,_=>False
theorem ju:OpR X (binaryOp .FloorDiv) zJ6:=by
 intro pins s σ H x y v u Q I rx ry h
 cases x with
 | int i =>
  cases y with
  | int j=>exact zJL pins s σ H _ _ v u Q I rx ry ⟨i,j,rfl,rfl,h⟩
  | _=>exact False.elim h
 | _=>exact False.elim h
noncomputable def uLt:R2:=fun x y H Q=>match x,y with
 | .int i,.int j=>Q (.bl (decide (i < j))) H
 | .str i,.str j=>Q (.bl (decide (i.cps.toList < j.cps.toList))) H
 | _,_=>False
theorem zC3:OpR X (compareOp .Lt) uLt:=by
 intro pins s σ H x y v u Q I rx ry h
 cases x with
 | int i =>
  cases y with
  | int j=>exact zMZ pins s σ H _ _ v u Q I rx ry ⟨i,j,rfl,rfl,h⟩
  | _=>exact False.elim h
 | str i =>
  cases y with
  | str j=>exact zGx pins s σ H _ _ v u Q I rx ry ⟨i,j,rfl,rfl,h⟩
  | _=>exact False.elim h
 | _=>exact False.elim h
noncomputable def uLe:R2:=fun x y H Q=>match x,y with
 | .int i,.int j=>Q (.bl (decide (i <= j))) H
 | .str i,.str j=>Q (.bl (!decide (j.cps.toList < i.cps.toList))) H
 | _,_=>False
theorem zKP:OpR X (compareOp .LtE) uLe:=by
 intro pins s σ H x y v u Q I rx ry h
 cases x with
 | int i =>
  cases y with
  | int j=>exact zMF pins s σ H _ _ v u Q I rx ry ⟨i,j,rfl,rfl,h⟩
  | _=>exact False.elim h
 | str i =>
  cases y with
  | str j=>exact zGq pins s σ H _ _ v u Q I rx ry ⟨i,j,rfl,rfl,h⟩
  | _=>exact False.elim h
 | _=>exact False.elim h
noncomputable def uGt:R2:=fun x y H Q=>match x,y with
 | .int i,.int j=>Q (.bl (decide (j < i))) H
 | _,_=>False
theorem zLc:OpR X (compareOp .Gt) uGt:=by
 intro pins s σ H x y v u Q I rx ry h
 cases x with
 | int i =>
  cases y with
  | int j=>exact zMH pins s σ H _ _ v u Q I rx ry ⟨i,j,rfl,rfl,h⟩
  | _=>exact False.elim h
 | _=>exact False.elim h
noncomputable def uIn (K:PySem.W.Frag) (neg:Bool):R2:=fun x y H Q=>match x,y with
 | .str i,.str j=>Q (.bl (xor neg (!(Builtin.Str.occurrences j i 0 j.length 1).isEmpty))) H
 | x,.ref p=>∃ xs,(SqL K H p xs\/SqT K H p xs)/\qL x=true/\xs.all qL=true/\Q (.bl (xor neg (inV x xs))) H
 | _,_=>False
theorem zMz:OpR X (compareOp .In) (uIn X.K false):=by
 intro pins s σ H x y v u Q I rx ry h
 cases y with
 | str j =>
  cases x with
  | str i =>
   have h':Q (.bl (xor false (!(Builtin.Str.occurrences j i 0 j.length 1).isEmpty))) H:=h
   rw[Bool.false_xor] at h'
   exact zGo pins s σ H _ _ v u Q I rx ry ⟨i,j,rfl,rfl,h'⟩
  | _=>exact False.elim h
 | ref p =>
  have h':∃ xs,(SqL X.K H p xs\/SqT X.K H p xs)/\qL x=true/\xs.all qL=true/\Q (.bl (xor false (inV x xs))) H:=by cases x<;>exact h
  obtain⟨xs,h1,h2,h3,h4⟩:=h'
  rw[Bool.false_xor] at h4
  exact zGI pins s σ H _ _ v u Q I rx ry ⟨p,xs,rfl,h1,h2,h3,h4⟩
 | _=>cases x<;>exact False.elim h
theorem zJZ:OpR X (compareOp .NotIn) (uIn X.K true):=by
 intro pins s σ H x y v u Q I rx ry h
 cases y with
 | str j =>
  cases x with
  | str i =>
   have h':Q (.bl (xor true (!(Builtin.Str.occurrences j i 0 j.length 1).isEmpty))) H:=h
   rw[Bool.true_xor] at h'
   exact zD9 pins s σ H _ _ v u Q I rx ry ⟨i,j,rfl,rfl,h'⟩
  | _=>exact False.elim h
 | ref p =>
  have h':∃ xs,(SqL X.K H p xs\/SqT X.K H p xs)/\qL x=true/\xs.all qL=true/\Q (.bl (xor true (inV x xs))) H:=by cases x<;>exact h
  obtain⟨xs,h1,h2,h3,h4⟩:=h'
  rw[Bool.true_xor] at h4
  exact zC9 pins s σ H _ _ v u Q I rx ry ⟨p,xs,rfl,h1,h2,h3,h4⟩
 | _=>cases x<;>exact False.elim h
noncomputable def uIx (K:PySem.W.Frag):R2:=fun x y H Q=>match x,y with
 | .str z,.int i=>∃ c,z.length <= sizeLine/\atI z.cps.toList i=some c/\Q (.str ⟨#[c]⟩) H
 | .ref p,.int i=>∃ xs v,(SqL K H p xs\/SqT K H p xs)/\atI xs i=some v/\Q v H
 | _,_=>False
theorem zMv:IxR X (uIx X.K):=by
 intro value slice pins s σ H x y v u Q I rx ry h hs
 cases x with
 | str z =>
  cases y with
  | int i =>
   obtain⟨c,h1,h2,h3⟩:=h
   exact zKr value slice pins s σ H _ _ v u Q I rx ry ⟨z,i,c,rfl,rfl,h1,h2,h3⟩ hs
  | _=>exact False.elim h
 | ref p =>
  cases y with
  | int i =>
   obtain⟨xs,c,h1 | h1,h2,h3⟩:=h
   ·exact zJu value slice pins s σ H _ _ v u Q I rx ry ⟨p,xs,i,c,rfl,rfl,h1,h2,h3⟩ hs
   ·exact zKj value slice pins s σ H _ _ v u Q I rx ry ⟨p,xs,i,c,rfl,rfl,h1,h2,h3⟩ hs
  | _=>exact False.elim h
 | _=>exact False.elim h
noncomputable def uSl (K:PySem.W.Frag):V->Option Int->Option Int->Hp->VK->Prop:=fun x lo hi H Q=>match x with
 | .str z=>z.length <= sizeLine/\Q (.str (zBW z lo hi)) H
 | .ref a=>(∃ xs,SqL K H a xs/\∀ p,H p=none->Q (.ref p) (upd H p (.lst (Qe xs lo hi)))) \/
   (∃ xs,SqT K H a xs /\ ¬ (HT.sIx xs.length 0 lo=0/\HT.sIx xs.length xs.length hi=xs.length)/\∀ p,H p=none->Q (.ref p) (upd H p (.tup (Qe xs lo hi))))
 | _=>False
theorem zMl:SlR X (uSl X.K):=by
 intro pins s σ H x v vl vu lo hi sl Q I rx hs pl pu h
 cases x with
 | str z=>exact zJz pins s σ H _ v vl vu lo hi sl Q I rx hs pl pu ⟨z,rfl,h⟩
 | ref a =>
  rcases h with ⟨xs,h1,h2⟩ | ⟨xs,h1,h2,h3⟩
  ·exact zJh pins s σ H _ v vl vu lo hi sl Q I rx hs pl pu ⟨a,xs,rfl,h1,h2⟩
  ·exact zLC pins s σ H _ v vl vu lo hi sl Q I rx hs pl pu ⟨a,xs,rfl,h1,h2,h3⟩
 | _=>exact False.elim h
noncomputable def zLd (K:PySem.W.Frag):List V->Hp->VK->Prop:=fun xs H Q=>match xs with
 | [.str z]=>z.length <= sizeLine/\Q (.int z.length) H
 | [.ref p]=>∃ ys,(SqL K H p ys\/SqT K H p ys)/\Q (.int ys.length) H
 | _=>False
theorem zMS:jh X (.builtin "len") (zLd X.K):=by
 intro pins s σ H xs us Q I r h
 match xs,h with
 | [.str z],h=>exact zD4 pins s σ H _ us Q I r ⟨z,rfl,h⟩
 | [.ref p],h =>
  obtain⟨ys,h1,h2⟩:=h
  exact zDR pins s σ H _ us Q I r ⟨p,ys,rfl,h1,h2⟩
end
theorem Jl:bootBuiltins "len" = some (.builtin "len"):=by decide +kernel
theorem Zm:bootBuiltins "isinstance" = some (.builtin "isinstance"):=by decide +kernel
theorem zGB:bootBuiltins "str" = some (.type "str"):=by decide +kernel
theorem zGs:bootBuiltins "int" = some (.type "int"):=by decide +kernel
theorem zEd:bootBuiltins "bool" = some (.type "bool"):=by decide +kernel
theorem zJk:bootBuiltins "list" = some (.type "list"):=by decide +kernel
theorem zDz:bootBuiltins "tuple" = some (.type "tuple"):=by decide +kernel
structure Has (P:Program) (w:World) (K:PySem.W.Frag) (mg:Str->Option Value) (base:Heap) (x:Str) (k:Nat) (ps:List Str) (sp:Sp):Prop where
 ex:∃ f fd,jZ P w K mg base CX0 k f fd ps sp/\y6 K fd ps []/\PySem.W.keepIn K (.ref f)=true/\mg x=some (.ref f)
section
variable {X:Cx}{k kk:Nat}{x:Str}{ps:List Str}{sp:Sp}{e:Expr}{es:List Expr}{t:TA}{p pos:Pos}
theorem zG7 (h:Has X.prog X.w X.K X.mg X.base x k ps sp) (hr:z4 kk X.A) (hk:k <= kk) (hg:Gl X x) (ha:PA X (e::es) t) (hx:qj CX0 X E0:=by exact JH) (hdb:(x == ("__debug__" : Str))=false:=by decide)
  (he:starEach (e::es) X.env=(false,eval e X.env)::starEach es X.env:=by rfl) (hpl:(backTo pos (starEach es X.env)).any (·.1)=false:=by rfl) :
  PE X (.Call (.Name x p) (e::es) [] pos) (zIK sp [] E0 t):=by
 obtain⟨f,fd,F,b,kp,m⟩:=h.ex
 exact zI9 F (hr.mono hk) hg m kp b .nil hx ha hdb he hpl
structure zDN (mg:Str->Option Value) (x:Str) (v:V):Prop where
 ex:∃ u,mg x=some u/\zZ v u
theorem zG4 {v:V} (h:zDN X.mg x v) (hg:Gl X x) (hd:(x == ("__debug__" : Str))=false:=by decide):PE X (.Name x pos) (tC v):=by
 obtain⟨u,m,r⟩:=h.ex
 exact zI5 hg m r hd
end
noncomputable def zKX:V->Value->Bool
 | .non,.none=>true
 | .bl a,.bool b=>a == b
 | .int i,.int j _=>i == j
 | .str x,.str y _=>x == y
 | _,_=>false
theorem zIt:∀ {v:V}{u:Value},zKX v u=true->zZ v u
 | .non,.none,_=>rfl
 | .bl a,.bool b,h=>by
  have e:a=b:=eq_of_beq h
  rw[e];rfl
 | .int i,.int j t,h=>by
  have e:i=j:=eq_of_beq h
  rw[e];exact⟨t,rfl⟩
 | .str x,.str y t,h=>by
  have e:x=y:=eq_of_beq h
  rw[e];exact⟨t,rfl⟩
theorem Z7 {K:PySem.W.Frag}{A B:String}{b:Bool} (h:(if (Value.type A == Value.type B)=true then some true else if PySem.W.kitMeta B=true then (PySem.fastBuiltinMro A).map (·.contains (Value.type B)) else none)=some b):PySem.W.kitOne K (.type A) (.type B)=some b:=h
end L2
namespace TX
open PySem
noncomputable def sp (y:Nat):Nat:=if y=10 then 32 else y
end TX
namespace TS
open PySem PyProof.Rows
variable {prog:Program}{w:World}{A:Around}{E:Value->Shared->Prop}{s:Shared}{a₀:Array Keyed}{κ:KeyKind}
structure SG (a₀:Array Keyed) (st:SortSt):Prop where
 pm:(arrOf st).Perm a₀
 kd:kindOf st=oneType'
 fl:failedOf st=none
noncomputable def Ri (κ:KeyKind) (xs:Array Keyed) (lo k:Nat):Prop:=∀ i j,i <= j->j < k->κ.kle (KK κ xs (lo+i)) (KK κ xs (lo+j))
structure zNJ (a₀:Array Keyed) (lo hi:Nat) (st st':SortSt):Prop where
 ok:SG a₀ st'
 out:∀ k,k < lo\/hi <= k->(arrOf st')[k]? = (arrOf st)[k]?
 pd:pendingOf st'=pendingOf st
noncomputable def kyo (κ:KeyKind) (p:Keyed):κ.α:=(κ.keyOf p.1).getD κ.dflt
noncomputable def zLE (κ:KeyKind) (p:Keyed):Prop:=∃ a,κ.keyOf p.1=some a
structure MI (R:Keyed->Keyed->Prop) (l ra rb out:List Keyed):Prop where
 pm:(out++ra++rb).Perm l
 so:out.Pairwise R
 oa:∀ x,x∈out->∀ y,y∈ra->R x y
 ob:∀ x,x∈out->∀ y,y∈rb->R x y
 sa:ra.Pairwise R
 sb:rb.Pairwise R
structure zNI (st st':SortSt):Prop where
 kd:kindOf st'=kindOf st
 ar:arrOf st'=arrOf st
 pd:pendingOf st'=pendingOf st
 fl:failedOf st'=failedOf st
noncomputable def kl (κ:KeyKind) (p q:Keyed):Prop:=κ.kle (kyo κ p) (kyo κ q)
structure MG (κ:KeyKind) (x y:Array Keyed):Prop where
 kx:∀ p,p∈x.toList->zLE κ p
 ky:∀ p,p∈y.toList->zLE κ p
 rx:Ri κ x 0 x.size
 ry:Ri κ y 0 y.size
 nx:1 <= x.size
 ny:1 <= y.size
 fst:∀ p q,y[0]? = some p->x[0]? = some q->kl κ p q
 lst:∀ p q,y[y.size - 1]? = some p->x[x.size - 1]? = some q->kl κ p q
noncomputable abbrev H7:=Option (Array Keyed)×Nat×Nat×Array Keyed×Nat×Nat×Nat
noncomputable abbrev H6:=Option (Array Keyed)×Nat×Nat×Array Keyed×Nat×Nat
noncomputable abbrev H5:=Option (Array Keyed)×Nat×Nat×Array Keyed×Nat
noncomputable def zKW (κ:KeyKind) (xs:Array Keyed):List (Nat×Nat×Nat)->Nat->Nat->Prop
 | [],lo,hi=>lo=hi
 | r::t,lo,hi=>r.1=lo/\1 <= r.2.1/\Ri κ xs lo r.2.1/\zKW κ xs t (lo+r.2.1) hi
structure PR (κ:KeyKind) (a₀:Array Keyed) (lo:Nat) (st:SortSt):Prop where
 ok:SG a₀ st
 rn:zKW κ (arrOf st) (pendingOf st).toList 0 lo
end TS
namespace M
noncomputable abbrev T:=List Nat
inductive Kd where
 | str | int | bool | list | tuple | dict
 deriving DecidableEq
inductive D where
 | non | bl (b:Bool) | int (i:Int) | str (x:T) | tup (ds:List D) | ro (ds:List D) | ref (i:Nat) | ty (n:Kd)
mutual
noncomputable def D.decEq:(a b:D)->Decidable (a=b)
 | .non,.non=>isTrue rfl
 | .bl a,.bl b=>if h:a=b then isTrue (by rw[h]) else isFalse (fun e=>h (D.bl.inj e))
 | .int a,.int b=>if h:a=b then isTrue (by rw[h]) else isFalse (fun e=>h (D.int.inj e))
 | .str a,.str b=>if h:a=b then isTrue (by rw[h]) else isFalse (fun e=>h (D.str.inj e))
 | .ref a,.ref b=>if h:a=b then isTrue (by rw[h]) else isFalse (fun e=>h (D.ref.inj e))
 | .ty a,.ty b=>if h:a=b then isTrue (by rw[h]) else isFalse (fun e=>h (D.ty.inj e))
 | .tup a,.tup b=>match D.decEqs a b with
  | isTrue h=>isTrue (by rw[h])
  | isFalse h=>isFalse (fun e=>h (D.tup.inj e))
 | .ro a,.ro b=>match D.decEqs a b with
  | isTrue h=>isTrue (by rw[h])
  | isFalse h=>isFalse (fun e=>h (D.ro.inj e))
 | .non,.bl _ | .non,.int _ | .non,.str _ | .non,.tup _ | .non,.ro _ | .non,.ref _ | .non,.ty _=>isFalse (fun e=>nomatch e)
 | .bl _,.non | .bl _,.int _ | .bl _,.str _ | .bl _,.tup _ | .bl _,.ro _ | .bl _,.ref _ | .bl _,.ty _=>isFalse (fun e=>nomatch e)
 | .int _,.non | .int _,.bl _ | .int _,.str _ | .int _,.tup _ | .int _,.ro _ | .int _,.ref _ | .int _,.ty _=>isFalse (fun e=>nomatch e)
 | .str _,.non | .str _,.bl _ | .str _,.int _ | .str _,.tup _ | .str _,.ro _ | .str _,.ref _ | .str _,.ty _=>isFalse (fun e=>nomatch e)
 | .tup _,.non | .tup _,.bl _ | .tup _,.int _ | .tup _,.str _ | .tup _,.ro _ | .tup _,.ref _ | .tup _,.ty _=>isFalse (fun e=>nomatch e)
 | .ro _,.non | .ro _,.bl _ | .ro _,.int _ | .ro _,.str _ | .ro _,.tup _ | .ro _,.ref _ | .ro _,.ty _=>isFalse (fun e=>nomatch e)
 | .ref _,.non | .ref _,.bl _ | .ref _,.int _ | .ref _,.str _ | .ref _,.tup _ | .ref _,.ro _ | .ref _,.ty _=>isFalse (fun e=>nomatch e)
 | .ty _,.non | .ty _,.bl _ | .ty _,.int _ | .ty _,.str _ | .ty _,.tup _ | .ty _,.ro _ | .ty _,.ref _=>isFalse (fun e=>nomatch e)
noncomputable def D.decEqs:(a b:List D)->Decidable (a=b)
 | [],[]=>isTrue rfl
 | [],_::_=>isFalse (fun e=>nomatch e)
 | _::_,[]=>isFalse (fun e=>nomatch e)
 | a::r,b::t=>match D.decEq a b,D.decEqs r t with
  | isTrue h,isTrue k=>isTrue (by rw[h,k])
  | isFalse h,_=>isFalse (fun e=>h (List.cons.inj e).1)
  | _,isFalse k=>isFalse (fun e=>k (List.cons.inj e).2)
end
instance:DecidableEq D:=D.decEq
inductive O where
 | lst (xs:List D) | dct (kvs:List (D×D)) | fdc (kvs:List (D×D)) | dtt (kvs:List (D×D)) | ftt (kvs:List (D×D)) | ins (c:Nat) (fs:List (Option D))
 deriving DecidableEq
noncomputable abbrev S:=List O
noncomputable abbrev St:=List (Option D)
inductive R (α:Type) where
 | ok (a:α) (s:S) | exc (e:D) (s:S) | no
noncomputable def R.bind {α β:Type}:R α->(α->S->R β)->R β
 | .ok a s,f=>f a s
 | .exc e s,_=>.exc e s
 | .no,_=>.no
@[simp] theorem R.bind_ok {α β:Type} (a:α) (s:S) (f:α->S->R β):(R.ok a s).bind f=f a s:=rfl
@[simp] theorem R.bind_no {α β:Type} (f:α->S->R β):(R.no:R α).bind f=.no:=rfl
@[simp] theorem R.bind_exc {α β:Type} (e:D) (s:S) (f:α->S->R β):(R.exc e s:R α).bind f=.exc e s:=rfl
section
variable {α β:Type}{c:Prop} [Decidable c]
@[simp] theorem R.bind_ite (a b:R α) (f:α->S->R β):(if c then a else b).bind f=if c then a.bind f else b.bind f:=by split<;>rfl
@[simp] theorem R.ite_ok (a b:α) (s:S):(if c then R.ok a s else R.ok b s)=R.ok (if c then a else b) s:=by split<;>rfl
@[simp] theorem D.ite_bl (a b:Bool):(if c then D.bl a else D.bl b)=D.bl (if c then a else b):=by split<;>rfl
@[simp] theorem D.ite_int (a b:Int):(if c then D.int a else D.int b)=D.int (if c then a else b):=by split<;>rfl
@[simp] theorem D.ite_str (a b:T):(if c then D.str a else D.str b)=D.str (if c then a else b):=by split<;>rfl
@[simp] theorem D.ite_tup (a b:List D):(if c then D.tup a else D.tup b)=D.tup (if c then a else b):=by split<;>rfl
@[simp] theorem St.ite_some (a b:D):(if c then some a else some b)=some (if c then a else b):=by split<;>rfl
@[simp] theorem St.ite_cons (a b:Option D) (r t:St):(if c then a::r else b::t)=(if c then a else b)::(if c then r else t):=by split<;>rfl
end
noncomputable abbrev EM:=St->S->R D
noncomputable abbrev TM:=St->S->R Bool
noncomputable abbrev AM:=St->S->R (List D)
noncomputable def SZ:Nat:=16777216
@[simp] noncomputable def zA (i:Nat):EM:=fun σ s=>match σ[i]? with
 | some (some d)=>.ok d s
 | _=>.no
@[simp] noncomputable def eC (d:D):EM:=fun _ s=>.ok d s
@[simp] noncomputable def eOp (f:D->D->S->R D) (a b:EM):EM:=fun σ s=>(a σ s).bind fun x s=>(b σ s).bind fun y s=>f x y s
@[simp] noncomputable def zO:AM:=fun _ s=>.ok [] s
@[simp] noncomputable def zD (a:EM) (r:AM):AM:=fun σ s=>(a σ s).bind fun x s=>(r σ s).bind fun xs s=>.ok (x::xs) s
@[simp] noncomputable def ZY (a:AM):EM:=fun σ s=>(a σ s).bind fun xs s=>if xs.length <= SZ then .ok (.tup xs) s else .no
@[simp] noncomputable def alloc (o:O) (s:S):R D:=.ok (.ref s.length) (s++[o])
@[simp] noncomputable def ym (a:AM):EM:=fun σ s=>(a σ s).bind fun xs s=>if xs.length <= SZ then alloc (.lst xs) s else .no
@[simp] noncomputable def jV (s:S) (i:Nat):Option (List D):=match s[i]? with
 | some (.lst xs)=>some xs
 | _=>none
@[simp] noncomputable def qM:D->D->S->R D
 | .int i,.int j,s=>.ok (.int (i+j)) s
 | .str a,.str b,s=>if a.length+b.length <= SZ then .ok (.str (a++b)) s else .no
 | .tup a,.tup b,s=>if a≠[]/\a.length+b.length <= SZ then .ok (.tup (a++b)) s else .no
 | .ref i,.ref j,s=>match s[i]?,s[j]? with
  | some (.lst xs),some (.lst ys)=>if xs.length+ys.length <= SZ then alloc (.lst (xs++ys)) s else .no
  | _,_=>.no
 | _,_,_=>.no
@[simp] noncomputable def zE7:D->D->S->R D
 | .int i,.int j,s=>.ok (.int (i - j)) s
 | _,_,_=>.no
noncomputable def qe (i:Int):Bool:=decide (i.natAbs < 18446744073709551616)
@[simp] noncomputable def zBR:D->D->S->R D
 | .int i,.int j,s=>if qe i || qe j then .ok (.int (i * j)) s else .no
 | .str a,.int n,s=>if 0 <= n/\n.natAbs <= 1000000/\a.length * n.natAbs <= 1000000 then .ok (.str (List.replicate n.toNat a).flatten) s else .no
 | .ref p,.int n,s=>match jV s p with
  | some xs=>if n.natAbs <= 1000/\xs.length * n.natAbs <= 1000000 then alloc (.lst (List.replicate n.toNat xs).flatten) s else .no
  | none=>.no
 | _,_,_=>.no
@[simp] noncomputable def jO:D->D->S->R D
 | .int i,.int j,s=>if 0 < j/\j.natAbs < 1073741824 then .ok (.int (i / j)) s else .no
 | _,_,_=>.no
@[simp] noncomputable def z9:D->D->S->R D
 | .int i,.int j,s=>if 0 < j then .ok (.int (i % j)) s else .no
 | _,_,_=>.no
@[simp] noncomputable def zCs:D->D->S->R D
 | .int i,.int j,s=>if 0 <= j/\j.natAbs <= 1000000/\i.natAbs < 18446744073709551616 then .ok (.int (i ^ j.toNat)) s else .no
 | _,_,_=>.no
noncomputable abbrev CM:=D->D->S->R Bool
@[simp] noncomputable def cLt:CM
 | .int i,.int j,s=>.ok (decide (i < j)) s
 | .str a,.str b,s=>.ok (decide (a < b)) s
 | _,_,_=>.no
@[simp] noncomputable def cLe:CM
 | .int i,.int j,s=>.ok (decide (i <= j)) s
 | .str a,.str b,s=>.ok (!decide (b < a)) s
 | _,_,_=>.no
@[simp] noncomputable def cGt:CM
 | .int i,.int j,s=>.ok (decide (j < i)) s
 | _,_,_=>.no
inductive P where
 | non | bl (b:Bool) | int (i:Int) | str (x:T) | tup (ps:List P) | lst (ps:List P)
mutual
noncomputable def P.eqv:P->P->Bool
 | .non,.non=>true
 | .bl a,.bl b=>a == b
 | .int a,.int b=>a == b
 | .bl a,.int b=>(if a then 1 else 0) == b
 | .int a,.bl b=>a == (if b then 1 else 0)
 | .str a,.str b=>a == b
 | .tup a,.tup b=>P.eqvs a b
 | .lst a,.lst b=>P.eqvs a b
 | _,_=>false
noncomputable def P.eqvs:List P->List P->Bool
 | [],[]=>true
 | a::r,b::t=>P.eqv a b && P.eqvs r t
 | _,_=>false
end
mutual
noncomputable def P.dep:P->Nat
 | .tup ps=>P.deps ps+1
 | .lst ps=>P.deps ps+1
 | _=>0
noncomputable def P.deps:List P->Nat
 | []=>0
 | p::ps=>max (P.dep p) (P.deps ps)
end
noncomputable def qc (g:Nat->Option P):D->Option P
 | .non=>some .non
 | .bl b=>some (.bl b)
 | .int i=>some (.int i)
 | .str x=>some (.str x)
 | .tup ds=>(all ds).map .tup
 | .ro ds=>(all ds).map .lst
 | .ref i=>g i
 | .ty _=>none
where all:List D->Option (List P)
 | []=>some []
 | d::ds=>match qc g d,all ds with
  | some p,some ps=>some (p::ps)
  | _,_=>none
noncomputable def toP:Nat->S->D->Option P
 | 0,_=>qc fun _=>none
 | n+1,s=>qc fun i=>match jV s i with
  | some xs=>(qc.all (fun j=>toP n s (.ref j)) xs).map .lst
  | none=>none
noncomputable def JW:Nat:=9
noncomputable def zy (k:D) (kvs:List (D×D)):Option D:=kvs.lookup k
noncomputable def dEq (s:S) (ws:List (D×D)):List (D×D)->Option Bool
 | []=>some true
 | (k,v)::r=>match zy k ws with
  | none=>some false
  | some w=>match toP 8 s v,toP 8 s w,dEq s ws r with
   | some p,some q,some b=>if P.dep p <= 64/\P.dep q <= 64 then some (P.eqv p q && b) else none
   | _,_,_=>none
noncomputable def zCk (x y:D) (s:S):R Bool:=match x,y with
 | .ref i,.ref j=>match s[i]?,s[j]? with
  | some (.dct ks),some (.dct ws)=>if ks.length=ws.length then (match dEq s ws ks with | some b=>.ok b s | none=>.no) else .ok false s
  | _,_=>.no
 | _,_=>.no
@[simp] noncomputable def eqD (x y:D) (s:S):R Bool:=match x,y with
 | .str a,.str b=>.ok (decide (a=b)) s
 | .int a,.int b=>.ok (decide (a=b)) s
 | .bl a,.bl b=>.ok (decide (a=b)) s
 | .non,.non=>.ok true s
 | x,y=>match toP JW s x,toP JW s y with
  | some p,some q=>if P.dep p <= 64/\P.dep q <= 64 then .ok (P.eqv p q) s else .no
  | _,_=>zCk x y s
@[simp] noncomputable def cEq:CM:=fun x y s=>eqD x y s
@[simp] noncomputable def cNe:CM:=fun x y s=>(eqD x y s).bind fun b s=>.ok (!b) s
noncomputable def Jf (a:T):T->Bool
 | []=>a.isEmpty
 | c::r=>a.isPrefixOf (c::r) || Jf a r
noncomputable def flat:D->Bool
 | .non=>true
 | .bl _=>true
 | .int _=>true
 | .str _=>true
 | _=>false
noncomputable def eqF:D->D->Bool
 | .non,.non=>true
 | .bl a,.bl b=>a == b
 | .int a,.int b=>a == b
 | .bl a,.int b=>(if a then 1 else 0) == b
 | .int a,.bl b=>a == (if b then 1 else 0)
 | .str a,.str b=>a == b
 | _,_=>false
noncomputable def Jh (x:D) (xs:List D):Bool:=xs.any fun y=>eqF y x
noncomputable def y7:D->Bool
 | .int _=>true
 | .str _=>true
 | _=>false
@[simp] noncomputable def inD (x y:D) (s:S):R Bool:=match y with
 | .str b=>match x with
  | .str a=>.ok (Jf a b) s
  | _=>.no
 | .tup ys=>if flat x && ys.all flat then .ok (Jh x ys) s else .no
 | .ro ys=>if flat x && ys.all flat then .ok (Jh x ys) s else .no
 | .ref i=>match s[i]? with
  | some (.lst ys)=>if flat x && ys.all flat then .ok (Jh x ys) s else .no
  | some (.dct kvs)=>if y7 x then .ok (zy x kvs).isSome s else .no
  | some (.fdc kvs)=>if y7 x then .ok (zy x kvs).isSome s else .no
  | _=>.no
 | _=>.no
@[simp] noncomputable def Js (c:CM) (a b:EM):EM:=fun σ s=>(a σ s).bind fun x s=>(b σ s).bind fun y s=>(c x y s).bind fun k s=>.ok (.bl k) s
@[simp] noncomputable def je (c:CM) (a b:EM):TM:=fun σ s=>(a σ s).bind fun x s=>(b σ s).bind fun y s=>c x y s
@[simp] noncomputable def zDT (c d:CM) (a b e:EM):EM:=fun σ s=>(a σ s).bind fun x s=>(b σ s).bind fun y s=>(c x y s).bind fun k s =>
 if k then (e σ s).bind fun z s=>(d y z s).bind fun k s=>.ok (.bl k) s else .ok (.bl false) s
@[simp] noncomputable def zFX:D->Bool
 | .non=>true
 | _=>false
@[simp] noncomputable def zHz (a:EM):EM:=fun σ s=>(a σ s).bind fun x s=>.ok (.bl (zFX x)) s
@[simp] noncomputable def zDi (a:EM):TM:=fun σ s=>(a σ s).bind fun x s=>.ok (zFX x) s
@[simp] noncomputable def Zg:D->S->R Bool
 | .non,s=>.ok false s
 | .bl b,s=>.ok b s
 | .int i,s=>.ok (decide (i≠0)) s
 | .str x,s=>if x.length <= SZ then .ok (!x.isEmpty) s else .no
 | .tup ds,s=>.ok (!ds.isEmpty) s
 | .ro ds,s=>.ok (!ds.isEmpty) s
 | .ref i,s=>match s[i]? with
  | some (.lst xs)=>.ok (!xs.isEmpty) s
  | some (.dct kvs)=>.ok (!kvs.isEmpty) s
  | _=>.no
 | .ty _,_=>.no
@[simp] noncomputable def QJ (a:EM):TM:=fun σ s=>(a σ s).bind Zg
@[simp] noncomputable def QP (a:TM):TM:=fun σ s=>(a σ s).bind fun b s=>.ok (!b) s
@[simp] noncomputable def zBd (a b:TM):TM:=fun σ s=>(a σ s).bind fun k s=>if k then b σ s else .ok false s
@[simp] noncomputable def tOr (a b:TM):TM:=fun σ s=>(a σ s).bind fun k s=>if k then .ok true s else b σ s
noncomputable def ixN (n:Nat) (i:Int):Option Nat:=if 0 <= i then (if i < n then some i.toNat else none) else if -(n:Int) <= i then some (i+n).toNat else none
noncomputable def atI {α:Type} (xs:List α) (i:Int):Option α:=(ixN xs.length i).bind fun j=>xs[j]?
@[simp] noncomputable def ZD:D->D->S->R D
 | .str x,.int i,s=>if x.length <= SZ then (match atI x i with | some c=>.ok (.str [c]) s | none=>.no) else .no
 | .tup xs,.int i,s=>match atI xs i with | some d=>.ok d s | none=>.no
 | .ro xs,.int i,s=>match atI xs i with | some d=>.ok d s | none=>.no
 | .ref p,k,s=>match s[p]? with
  | some (.lst xs)=>(match k with | .int i=>(match atI xs i with | some d=>.ok d s | none=>.no) | _=>.no)
  | some (.dct kvs)=>if y7 k then (match zy k kvs with | some d=>.ok d s | none=>.no) else .no
  | some (.fdc kvs)=>if y7 k then (match zy k kvs with | some d=>.ok d s | none=>.no) else .no
  | _=>.no
 | _,_,_=>.no
noncomputable def sIx (n d:Nat):Option Int->Nat
 | none=>d
 | some v=>(if v < 0 then max (v+(n:Int)) 0 else min v (n:Int)).toNat
noncomputable def cut {α:Type} (xs:List α) (lo hi:Option Int):List α:=(xs.drop (sIx xs.length 0 lo)).take (sIx xs.length xs.length hi - sIx xs.length 0 lo)
noncomputable abbrev OM:=St->S->R (Option Int)
@[simp] noncomputable def zEt:OM:=fun _ s=>.ok none s
@[simp] noncomputable def zEq (a:EM):OM:=fun σ s=>(a σ s).bind fun x s=>match x with | .int i=>.ok (some i) s | _=>.no
@[simp] noncomputable def slD (x:D) (lo hi:Option Int) (s:S):R D:=match x with
 | .str z=>if z.length <= SZ then .ok (.str (cut z lo hi)) s else .no
 | .tup xs=>if sIx xs.length 0 lo=0/\sIx xs.length xs.length hi=xs.length then .no else .ok (.tup (cut xs lo hi)) s
 | .ro xs=>alloc (.lst (cut xs lo hi)) s
 | .ref p=>match jV s p with
  | some xs=>alloc (.lst (cut xs lo hi)) s
  | none=>.no
 | _=>.no
@[simp] noncomputable def eSl (a:EM) (lo hi:OM):EM:=fun σ s=>(a σ s).bind fun x s=>(lo σ s).bind fun l s=>(hi σ s).bind fun h s=>slD x l h s
noncomputable abbrev F:=List D->S->R D
@[simp] noncomputable def zX (f:F) (a:AM):EM:=fun σ s=>(a σ s).bind fun xs s=>f xs s
@[simp] noncomputable def Qk (k:Kd) (x:D) (s:S):Bool:=match x with
 | .str _=>(match k with | .str=>true | _=>false)
 | .ro _=>(match k with | .list=>true | _=>false)
 | .ref p=>match s[p]? with
  | some (.lst _)=>(match k with | .list=>true | _=>false)
  | some (.dct _)=>(match k with | .dict=>true | _=>false)
  | some (.dtt _)=>(match k with | .dict=>true | _=>false)
  | _=>false
 | _=>false
@[simp] noncomputable def eM (k:Kd) (f:D->F) (o:EM) (a:AM):EM:=fun σ s=>(o σ s).bind fun x s=>if Qk k x s then (a σ s).bind fun xs s=>f x xs s else .no
@[simp] noncomputable def zAF (c:Nat) (f:F) (o:EM) (a:AM):EM:=fun σ s=>(o σ s).bind fun x s=>match x with
 | .ref p=>(match s[p]? with
  | some (.ins c' _)=>if c'=c then (a σ s).bind fun xs s=>f (x::xs) s else .no
  | _=>.no)
 | _=>.no
@[simp] noncomputable def zCp (c:Nat) (n:Nat) (f:F) (a:AM):EM:=fun σ s=>(a σ s).bind fun xs s=>(f (.ref s.length::xs) (s++[.ins c (List.replicate n none)])).bind fun d s'=>if d=.non then .ok (.ref s.length) s' else .no
@[simp] noncomputable def yL (c:Nat) (i:Nat) (o:EM):EM:=fun σ s=>(o σ s).bind fun x s=>match x with
 | .ref p=>(match s[p]? with
  | some (.ins c' fs)=>if c'=c then (match fs[i]? with | some (some d)=>.ok d s | _=>.no) else .no
  | _=>.no)
 | _=>.no
@[simp] noncomputable def Qb:F
 | [.str x],s=>if x.length <= SZ then .ok (.int x.length) s else .no
 | [.tup xs],s=>.ok (.int xs.length) s
 | [.ro xs],s=>.ok (.int xs.length) s
 | [.ref p],s=>match s[p]? with
  | some (.lst xs)=>.ok (.int xs.length) s
  | some (.dct kvs)=>.ok (.int kvs.length) s
  | _=>.no
 | _,_=>.no
@[simp] noncomputable def yC (n:Kd) (x:D) (s:S):R Bool:=match x with
 | .non=>.ok false s
 | .bl _=>.ok (match n with | .bool=>true | .int=>true | _=>false) s
 | .int _=>.ok (match n with | .int=>true | _=>false) s
 | .str _=>.ok (match n with | .str=>true | _=>false) s
 | .tup _=>.ok (match n with | .tuple=>true | _=>false) s
 | .ro _=>.ok (match n with | .list=>true | _=>false) s
 | .ty _=>.no
 | .ref p=>match s[p]? with
  | some (.lst _)=>.ok (match n with | .list=>true | _=>false) s
  | some (.dct _)=>.ok (match n with | .dict=>true | _=>false) s
  | _=>.no
@[simp] noncomputable def JG:F
 | [x,.ty n],s=>(yC n x s).bind fun b s=>.ok (.bl b) s
 | _,_=>.no
noncomputable def QR:List D->Option (List T)
 | []=>some []
 | .str x::r=>(QR r).map (x :: ·)
 | _::_=>none
@[simp] noncomputable def zNK (k:List D->S->R D):F
 | [.tup xs],s=>k xs s
 | [.ro xs],s=>k xs s
 | [.ref p],s=>match jV s p with
  | some xs=>k xs s
  | none=>.no
 | _,_=>.no
noncomputable def Ze (x:T):List T->T
 | []=>[]
 | [y]=>y
 | y::r=>y++x++Ze x r
noncomputable def yy (x:T) (xs:List D) (s:S):R D:=match QR xs with
 | some ys=>if (ys.map List.length).sum+ys.length * x.length <= SZ then .ok (.str (Ze x ys)) s else .no
 | none=>.no
noncomputable def Qz (i:Int):T:=(toString i).toList.map Char.toNat
@[simp] noncomputable def zE8:F
 | [.int i],s=>if qe i then .ok (.str (Qz i)) s else .no
 | _,_=>.no
@[simp] noncomputable def zDh:F
 | [.int i],s=>.ok (.int i) s
 | [.bl b],s=>.ok (.int (if b then 1 else 0)) s
 | _,_=>.no
@[simp] noncomputable def zCn:F
 | [.tup xs],s=>alloc (.lst xs) s
 | [.ro xs],s=>alloc (.lst xs) s
 | [.ref p],s=>match s[p]? with
  | some (.lst xs)=>alloc (.lst xs) s
  | some (.dct kvs)=>alloc (.lst (kvs.map (·.1))) s
  | _=>.no
 | _,_=>.no
@[simp] noncomputable def zAy:F
 | [.tup xs],s=>.ok (.tup xs) s
 | [.ref p],s=>match jV s p with
  | some xs=>.ok (.tup xs) s
  | none=>.no
 | _,_=>.no
@[simp] noncomputable def Q9:D->F
 | .ref p,[y],s=>match s[p]? with
  | some (.lst xs)=>if xs.length < SZ then .ok .non (s.set p (.lst (xs++[y]))) else .no
  | _=>.no
 | _,_,_=>.no
noncomputable def qa (k v:D) (kvs:List (D×D)):List (D×D):=if (kvs.any fun p=>decide (p.1=k))=true then kvs.map fun p=>if p.1=k then (p.1,v) else p else kvs++[(k,v)]
noncomputable def zx (k:D) (kvs:List (D×D)):List (D×D):=kvs.filter fun p=>decide (p.1≠k)
where insT' (x:T):List T->List T
 | []=>[x]
 | y::r=>if y < x then y::insT' x r else x::y::r
noncomputable abbrev Gd:=List (Nat×O)
noncomputable def zc (g:Gd) (s:S):Bool:=g.all fun p=>decide (s[p.1]? = some p.2)
noncomputable abbrev IM:=St->S->R (List D×Gd)
@[simp] noncomputable def itD:D->S->R (List D×Gd)
 | .str x,s=>if x.length <= SZ then .ok (x.map fun c=>.str [c],[]) s else .no
 | .tup ds,s=>.ok (ds,[]) s
 | .ro ds,s=>.ok (ds,[]) s
 | .ref i,s=>match s[i]? with
  | some (.lst xs)=>.ok (xs,[(i,.lst xs)]) s
  | _=>.no
 | _,_=>.no
@[simp] noncomputable def iE (a:EM):IM:=fun σ s=>(a σ s).bind itD
noncomputable def jw (lo hi:Int):List D:=(List.range (hi - lo).toNat).map fun (k:Nat)=>.int (lo+k)
@[simp] noncomputable def jf (a:EM):IM:=fun σ s=>(a σ s).bind fun x s=>match x with
 | .int j=>if j.natAbs < 4611686018427387904 then .ok (jw 0 j,[]) s else .no
 | _=>.no
noncomputable def qf:Int->List D->List D
 | _,[]=>[]
 | k,d::ds=>.tup [.int k,d]::qf (k+1) ds
@[simp] noncomputable def zCj (k:Int) (a:EM):IM:=fun σ s=>(a σ s).bind fun x s=>match x with
 | .ro ds=>.ok (qf k ds,[]) s
 | .ref i=>(match s[i]? with | some (.lst xs)=>.ok (qf k xs,[(i,.lst xs)]) s | _=>.no)
 | _=>.no
@[simp] noncomputable def zNL (a:EM):IM:=fun σ s=>(a σ s).bind fun x s=>match x with
 | .tup ds=>.ok (ds.reverse,[]) s
 | _=>.no
noncomputable abbrev GM:=D->St->Option St
@[simp] noncomputable def zt (i:Nat):GM:=fun d σ=>some (σ.set i (some d))
noncomputable abbrev GMs:=List D->St->Option St
@[simp] noncomputable def JQ:GMs:=fun ds σ=>match ds with | []=>some σ | _=>none
@[simp] noncomputable def qd (g:GM) (r:GMs):GMs:=fun ds σ=>match ds with
 | []=>none
 | d::ds=>match g d σ with
  | some σ'=>r ds σ'
  | none=>none
@[simp] noncomputable def JS (g:GMs):GM:=fun d σ=>match d with
 | .tup ds=>g ds σ
 | _=>none
noncomputable def qQ (g:Gd) (f:D->S->R (Option D)):List D->S->R (List D)
 | [],s=>.ok [] s
 | x::xs,s=>(f x s).bind fun o s=>if zc g s then (qQ g f xs s).bind fun ys s=>.ok (match o with | some y=>y::ys | none=>ys) s else .no
@[simp] noncomputable def ZG:TM:=fun _ s=>.ok true s
@[simp] noncomputable def qK (n:Nat) (tg:GM) (c:TM) (e:EM) (σ:St):D->S->R (Option D):=fun x s=>match tg x (σ++List.replicate n none) with
 | none=>.no
 | some σ'=>(c σ' s).bind fun b s=>if b then (e σ' s).bind fun d s=>.ok (some d) s else .ok none s
noncomputable def yl (n:Nat) (it:IM) (tg:GM) (c:TM) (e:EM):AM:=fun σ s=>(it σ s).bind fun p s=>if p.1.length <= SZ/\zc p.2 s=true then qQ p.2 (qK n tg c e σ) p.1 s else .no
@[simp] noncomputable def Zb (n:Nat) (it:IM) (tg:GM) (c:TM) (e:EM):EM:=fun σ s=>(yl n it tg c e σ s).bind fun ys s=>alloc (.lst ys) s
@[simp] noncomputable def zCt (k:List D->S->R D) (n:Nat) (it:IM) (tg:GM) (c:TM) (e:EM):EM:=fun σ s=>(yl n it tg c e σ s).bind k
inductive RS where
 | nx (σ:St) (s:S) | rt (d:D) (s:S) | bk (σ:St) (s:S) | ct (σ:St) (s:S) | exc (e:D) (σ:St) (s:S) | no
noncomputable abbrev SM:=St->S->RS
noncomputable def R.stm {α:Type} (r:R α) (σ:St) (f:α->S->RS):RS:=match r with
 | .ok a s=>f a s
 | .exc e s=>.exc e σ s
 | .no=>.no
@[simp] theorem R.stm_ok {α:Type} (a:α) (s:S) (σ:St) (f:α->S->RS):(R.ok a s).stm σ f=f a s:=rfl
@[simp] theorem R.stm_no {α:Type} (σ:St) (f:α->S->RS):(R.no:R α).stm σ f=.no:=rfl
noncomputable def RS.then (r:RS) (f:SM):RS:=match r with
 | .nx σ s=>f σ s
 | r=>r
@[simp] theorem RS.then_nx (σ:St) (s:S) (f:SM):(RS.nx σ s).then f=f σ s:=rfl
@[simp] theorem RS.then_rt (d:D) (s:S) (f:SM):(RS.rt d s).then f=.rt d s:=rfl
@[simp] theorem RS.then_no (f:SM):RS.no.then f=.no:=rfl
@[simp] theorem RS.then_bk (σ:St) (s:S) (f:SM):(RS.bk σ s).then f=.bk σ s:=rfl
section
variable {α:Type}{c:Prop} [Decidable c]
@[simp] theorem R.stm_ite (a b:R α) (σ:St) (f:α->S->RS):(if c then a else b).stm σ f=if c then a.stm σ f else b.stm σ f:=by split<;>rfl
@[simp] theorem RS.ite_nx (a b:St) (s:S):(if c then RS.nx a s else RS.nx b s)=RS.nx (if c then a else b) s:=by split<;>rfl
@[simp] theorem RS.ite_rt (a b:D) (s:S):(if c then RS.rt a s else RS.rt b s)=RS.rt (if c then a else b) s:=by split<;>rfl
@[simp] theorem RS.then_ite (a b:RS) (f:SM):(if c then a else b).then f=if c then a.then f else b.then f:=by split<;>rfl
end
@[simp] theorem RS.then_exc (e:D) (σ:St) (s:S) (f:SM):(RS.exc e σ s).then f=.exc e σ s:=rfl
@[simp] theorem R.stm_exc {α:Type} (e:D) (s:S) (σ:St) (f:α->S->RS):(R.exc e s:R α).stm σ f=.exc e σ s:=rfl
@[simp] theorem RS.then_ct (σ:St) (s:S) (f:SM):(RS.ct σ s).then f=.ct σ s:=rfl
@[simp] noncomputable def jo:SM:=fun σ s=>.nx σ s
@[simp] noncomputable def zDS:SM:=fun _ _=>.no
@[simp] noncomputable def zk (a b:SM):SM:=fun σ s=>(a σ s).then b
@[simp] noncomputable def yg (e:EM):SM:=fun σ s=>(e σ s).stm σ fun _ s=>.nx σ s
@[simp] noncomputable def jX (e:EM):SM:=fun σ s=>(e σ s).stm σ fun d s=>.rt d s
@[simp] noncomputable def jj (i:Nat) (e:EM):SM:=fun σ s=>(e σ s).stm σ fun d s=>.nx (σ.set i (some d)) s
@[simp] noncomputable def zDc (c:Nat) (i:Nat) (x y:D) (s:S):R Unit:=match x with
 | .ref p=>(match s[p]? with
  | some (.ins c' fs)=>if c'=c then .ok () (s.set p (.ins c (fs.set i (some y)))) else .no
  | _=>.no)
 | _=>.no
@[simp] noncomputable def zBc (c:Nat) (i:Nat) (o e:EM):SM:=fun σ s=>(e σ s).stm σ fun y s=>(o σ s).stm σ fun x s=>(zDc c i x y s).stm σ fun _ s=>.nx σ s
@[simp] noncomputable def zFg (c:Nat) (i:Nat) (x:D) (s:S):R D:=match x with
 | .ref p=>(match s[p]? with
  | some (.ins c' fs)=>if c'=c then (match fs[i]? with | some (some d)=>.ok d s | _=>.no) else .no
  | _=>.no)
 | _=>.no
@[simp] noncomputable def yA (x k y:D) (s:S):R Unit:=match x with
 | .ref p=>(match s[p]? with
  | some (.lst xs)=>(match k with
   | .int i=>(match ixN xs.length i with | some j=>.ok () (s.set p (.lst (xs.set j y))) | none=>.no)
   | _=>.no)
  | some (.dct kvs)=>if y7 k && decide (kvs.length < SZ) then .ok () (s.set p (.dct (qa k y kvs))) else .no
  | _=>.no)
 | _=>.no
@[simp] noncomputable def zMu (o k e:EM):SM:=fun σ s=>(e σ s).stm σ fun y s=>(o σ s).stm σ fun x s=>(k σ s).stm σ fun k s=>(yA x k y s).stm σ fun _ s=>.nx σ s
@[simp] noncomputable def sIf (c:TM) (a b:SM):SM:=fun σ s=>(c σ s).stm σ fun k s=>if k then a σ s else b σ s
noncomputable def j0 (g:Gd) (f:D->SM):List D->SM
 | [],σ,s=>.nx σ s
 | x::xs,σ,s=>match f x σ s with
  | .nx σ s=>if zc g s then j0 g f xs σ s else .no
  | .ct σ s=>if zc g s then j0 g f xs σ s else .no
  | .bk σ s=>.nx σ s
  | r=>r
@[simp] noncomputable def j6 (tg:GM) (b:SM):D->SM:=fun x σ s=>match tg x σ with
 | some σ'=>b σ' s
 | none=>.no
@[simp] noncomputable def q0 (it:IM) (tg:GM) (b:SM):SM:=fun σ s=>(it σ s).stm σ fun p s=>if zc p.2 s=true then j0 p.2 (j6 tg b) p.1 σ s else .no
@[simp] noncomputable def zCl (i:Nat) (f t:O):RS->RS
 | .nx σ s=>if s[i]? = some f then .nx σ (s.set i t) else .no
 | .bk σ s=>if s[i]? = some f then .bk σ (s.set i t) else .no
 | .ct σ s=>if s[i]? = some f then .ct σ (s.set i t) else .no
 | .rt d s=>if s[i]? = some f then .rt d (s.set i t) else .no
 | _=>.no
noncomputable def ZS:Nat->TM->SM->SM
 | 0,_,_,_,_=>.no
 | n+1,c,b,σ,s=>(c σ s).stm σ fun k s=>if k then (match b σ s with
  | .nx σ s=>ZS n c b σ s
  | .ct σ s=>ZS n c b σ s
  | .bk σ s=>.nx σ s
  | r=>r) else .nx σ s
noncomputable def zFP:Nat:=1000000000000
@[simp] noncomputable def Qw (c:TM) (b:SM):SM:=fun σ s=>ZS zFP c b σ s
noncomputable def RS.out (r:RS):R D:=match r with
 | .rt d s=>.ok d s
 | .nx _ s=>.ok .non s
 | .exc e _ s=>.exc e s
 | _=>.no
@[simp] theorem RS.out_rt (d:D) (s:S):(RS.rt d s).out=.ok d s:=rfl
@[simp] theorem RS.out_nx (σ:St) (s:S):(RS.nx σ s).out=.ok .non s:=rfl
@[simp] theorem RS.out_no:RS.no.out=.no:=rfl
@[simp] theorem RS.out_exc (e:D) (σ:St) (s:S):(RS.exc e σ s).out=.exc e s:=rfl
@[simp] theorem RS.out_ite {c:Prop} [Decidable c] (a b:RS):(if c then a else b).out=if c then a.out else b.out:=by split<;>rfl
@[simp] noncomputable def fn (n:Nat) (b:SM):F:=fun xs s=>(b (xs.map some++List.replicate (n - xs.length) none) s).out
noncomputable def D.cl (n:Nat):D->Bool
 | .ref i=>decide (i < n)
 | .tup ds=>all ds
 | .ro ds=>all ds
 | _=>true
where all:List D->Bool
 | []=>true
 | d::ds=>D.cl n d && all ds
noncomputable def kyD:Nat->D->Bool
 | _,.non=>true
 | _,.int _=>true
 | _,.str _=>true
 | n+1,.tup ds=>ds.all (kyD n)
 | _,_=>false
noncomputable def O.cl (n:Nat):O->Bool
 | .lst xs=>D.cl.all n xs
 | .dct kvs=>kvs.all fun p=>D.cl n p.1 && D.cl n p.2
 | .fdc kvs=>kvs.all fun p=>D.cl n p.1 && D.cl n p.2
 | .dtt kvs=>kvs.all fun p=>D.cl n p.1 && D.cl n p.2
 | .ftt kvs=>kvs.all fun p=>D.cl n p.1 && D.cl n p.2
 | .ins _ fs=>fs.all fun o=>match o with | some d=>D.cl n d | none=>true
noncomputable def clS (n:Nat) (s:S):Bool:=s.all (O.cl n)
noncomputable def D.ren (e:List Nat):D->D
 | .ref i=>.ref (e.getD i i)
 | .tup ds=>.tup (all ds)
 | .ro ds=>.ro (all ds)
 | d=>d
where all:List D->List D
 | []=>[]
 | d::ds=>D.ren e d::all ds
noncomputable def O.ren (e:List Nat):O->O
 | .lst xs=>.lst (D.ren.all e xs)
 | .dct kvs=>.dct (kvs.map fun p=>(D.ren e p.1,D.ren e p.2))
 | .fdc kvs=>.fdc (kvs.map fun p=>(D.ren e p.1,D.ren e p.2))
 | .dtt kvs=>.dtt (kvs.map fun p=>(D.ren e p.1,D.ren e p.2))
 | .ftt kvs=>.ftt (kvs.map fun p=>(D.ren e p.1,D.ren e p.2))
 | .ins c fs=>.ins c (fs.map (Option.map (D.ren e)))
end M
namespace M
structure Emb (n:Nat) (e:List Nat) (S' S1:S):Prop where
 len:e.length=S'.length
 nd:e.Nodup
 le:n <= S'.length
 old:∀ i,i < n->e[i]? = some i
 obj:∀ (i:Nat) o,S'[i]? = some o->∃ j,e[i]? = some j/\S1[j]? = some (O.ren e o)/\O.cl S'.length o=true
noncomputable def jJ (n:Nat) (f q:F):Prop:=∀ ds S,ds.length=n->clS S.length S=true->D.cl.all S.length ds=true ->
 q ds S=.no\/∃ d S' S1 e,q ds S=.ok d S'/\f ds S=.ok (D.ren e d) S1/\Emb S.length e S' S1/\D.cl S'.length d=true
section
variable {e:List Nat}
mutual
theorem D.ren_id (h:∀ i,e.getD i i=i):∀ d:D,D.ren e d=d
 | .non=>rfl
 | .bl _=>rfl
 | .int _=>rfl
 | .str _=>rfl
 | .ty _=>rfl
 | .ref i=>by show D.ref (e.getD i i)=_;rw[h]
 | .tup ds=>by show D.tup (D.ren.all e ds)=_;rw[D.rens_id h]
 | .ro ds=>by show D.ro (D.ren.all e ds)=_;rw[D.rens_id h]
theorem D.rens_id (h:∀ i,e.getD i i=i):∀ ds:List D,D.ren.all e ds=ds
 | []=>rfl
 | d::ds=>by show D.ren e d::D.ren.all e ds=_;rw[D.ren_id h,D.rens_id h]
end
theorem O.ren_id (h:∀ i,e.getD i i=i) (o:O):O.ren e o=o:=by
 cases o with
 | lst xs=>show O.lst _=_;rw[D.rens_id h]
 | dct kvs =>
  show O.dct (kvs.map fun p=>(D.ren e p.1,D.ren e p.2))=_
  have:(fun p:D×D=>(D.ren e p.1,D.ren e p.2))=id:=by funext p;rw[D.ren_id h,D.ren_id h];rfl
  rw[this,List.map_id]
 | fdc kvs =>
  show O.fdc (kvs.map fun p=>(D.ren e p.1,D.ren e p.2))=_
  have:(fun p:D×D=>(D.ren e p.1,D.ren e p.2))=id:=by funext p;rw[D.ren_id h,D.ren_id h];rfl
  rw[this,List.map_id]
 | dtt kvs =>
  show O.dtt (kvs.map fun p=>(D.ren e p.1,D.ren e p.2))=_
  have:(fun p:D×D=>(D.ren e p.1,D.ren e p.2))=id:=by funext p;rw[D.ren_id h,D.ren_id h];rfl
  rw[this,List.map_id]
 | ftt kvs =>
  show O.ftt (kvs.map fun p=>(D.ren e p.1,D.ren e p.2))=_
  have:(fun p:D×D=>(D.ren e p.1,D.ren e p.2))=id:=by funext p;rw[D.ren_id h,D.ren_id h];rfl
  rw[this,List.map_id]
 | ins c fs =>
  show O.ins c (fs.map (Option.map (D.ren e)))=_
  have:Option.map (D.ren e)=id:=by funext o;cases o with | none=>rfl | some d=>show some _=_;rw[D.ren_id h];rfl
  rw[this,List.map_id]
theorem Zs (n i:Nat):(List.range n).getD i i=i:=by
 rw[List.getD_eq_getElem?_getD]
 by_cases h:i < n
 ·rw[List.getElem?_range h];rfl
 ·rw[List.getElem?_eq_none (by simp;omega)];rfl
end
section
variable {e:List Nat}{n:Nat}
mutual
theorem D.ren_old (h:∀ i,i < n->e[i]? = some i):∀ d:D,D.cl n d=true->D.ren e d=d
 | .non,_=>rfl
 | .bl _,_=>rfl
 | .int _,_=>rfl
 | .str _,_=>rfl
 | .ty _,_=>rfl
 | .ref i,c=>by
  have hi:i < n:=of_decide_eq_true c
  show D.ref (e.getD i i)=_
  rw[List.getD_eq_getElem?_getD,h i hi];rfl
 | .tup ds,c=>by show D.tup (D.ren.all e ds)=_;rw[D.rens_old h ds c]
 | .ro ds,c=>by show D.ro (D.ren.all e ds)=_;rw[D.rens_old h ds c]
theorem D.rens_old (h:∀ i,i < n->e[i]? = some i):∀ ds:List D,D.cl.all n ds=true->D.ren.all e ds=ds
 | [],_=>rfl
 | d::ds,c=>by
  have c':(D.cl n d && D.cl.all n ds)=true:=c
  rw[Bool.and_eq_true] at c'
  show D.ren e d::D.ren.all e ds=_
  rw[D.ren_old h d c'.1,D.rens_old h ds c'.2]
end
theorem O.ren_old (h:∀ i,i < n->e[i]? = some i) (o:O) (c:O.cl n o=true):O.ren e o=o:=by
 cases o with
 | lst xs=>show O.lst _=_;rw[D.rens_old h xs c]
 | dct kvs =>
  show O.dct (kvs.map fun p=>(D.ren e p.1,D.ren e p.2))=_
  congr 1
  conv=>rhs;rw[<- List.map_id kvs]
  refine List.map_congr_left fun p hp=>?_
  have c1:=List.all_eq_true.mp c p hp
  rw[Bool.and_eq_true] at c1
  rw[D.ren_old h _ c1.1,D.ren_old h _ c1.2];rfl
 | fdc kvs =>
  show O.fdc (kvs.map fun p=>(D.ren e p.1,D.ren e p.2))=_
  congr 1
  conv=>rhs;rw[<- List.map_id kvs]
  refine List.map_congr_left fun p hp=>?_
  have c1:=List.all_eq_true.mp c p hp
  rw[Bool.and_eq_true] at c1
  rw[D.ren_old h _ c1.1,D.ren_old h _ c1.2];rfl
 | dtt kvs =>
  show O.dtt (kvs.map fun p=>(D.ren e p.1,D.ren e p.2))=_
  congr 1
  conv=>rhs;rw[<- List.map_id kvs]
  refine List.map_congr_left fun p hp=>?_
  have c1:=List.all_eq_true.mp c p hp
  rw[Bool.and_eq_true] at c1
  rw[D.ren_old h _ c1.1,D.ren_old h _ c1.2];rfl
 | ftt kvs =>
  show O.ftt (kvs.map fun p=>(D.ren e p.1,D.ren e p.2))=_
  congr 1
  conv=>rhs;rw[<- List.map_id kvs]
  refine List.map_congr_left fun p hp=>?_
  have c1:=List.all_eq_true.mp c p hp
  rw[Bool.and_eq_true] at c1
  rw[D.ren_old h _ c1.1,D.ren_old h _ c1.2];rfl
 | ins cc fs =>
  show O.ins cc (fs.map (Option.map (D.ren e)))=_
  congr 1
  conv=>rhs;rw[<- List.map_id fs]
  refine List.map_congr_left fun p hp=>?_
  cases p with
  | none=>rfl
  | some d =>
   have c1:=List.all_eq_true.mp c (some d) hp
   show some _=some _
   rw[D.ren_old h d c1]
mutual
theorem D.cl_mono {m:Nat} (h:n <= m):∀ d:D,D.cl n d=true->D.cl m d=true
 | .non,_=>rfl
 | .bl _,_=>rfl
 | .int _,_=>rfl
 | .str _,_=>rfl
 | .ty _,_=>rfl
 | .ref i,c=>decide_eq_true (Nat.lt_of_lt_of_le (of_decide_eq_true c) h)
 | .tup ds,c=>D.cls_mono h ds c
 | .ro ds,c=>D.cls_mono h ds c
theorem D.cls_mono {m:Nat} (h:n <= m):∀ ds:List D,D.cl.all n ds=true->D.cl.all m ds=true
 | [],_=>rfl
 | d::ds,c=>by
  have c':(D.cl n d && D.cl.all n ds)=true:=c
  rw[Bool.and_eq_true] at c'
  show (D.cl m d && D.cl.all m ds)=true
  rw[D.cl_mono h d c'.1,D.cls_mono h ds c'.2];rfl
end
theorem O.cl_mono {m:Nat} (h:n <= m) (o:O) (c:O.cl n o=true):O.cl m o=true:=by
 cases o with
 | lst xs=>exact D.cls_mono h xs c
 | dct kvs =>
  refine List.all_eq_true.mpr fun p hp=>?_
  have c1:=List.all_eq_true.mp c p hp
  rw[Bool.and_eq_true] at c1 ⊢
  exact⟨D.cl_mono h _ c1.1,D.cl_mono h _ c1.2⟩
 | fdc kvs =>
  refine List.all_eq_true.mpr fun p hp=>?_
  have c1:=List.all_eq_true.mp c p hp
  rw[Bool.and_eq_true] at c1 ⊢
  exact⟨D.cl_mono h _ c1.1,D.cl_mono h _ c1.2⟩
 | dtt kvs =>
  refine List.all_eq_true.mpr fun p hp=>?_
  have c1:=List.all_eq_true.mp c p hp
  rw[Bool.and_eq_true] at c1 ⊢
  exact⟨D.cl_mono h _ c1.1,D.cl_mono h _ c1.2⟩
 | ftt kvs =>
  refine List.all_eq_true.mpr fun p hp=>?_
  have c1:=List.all_eq_true.mp c p hp
  rw[Bool.and_eq_true] at c1 ⊢
  exact⟨D.cl_mono h _ c1.1,D.cl_mono h _ c1.2⟩
 | ins cc fs =>
  refine List.all_eq_true.mpr fun p hp=>?_
  have c1:=List.all_eq_true.mp c p hp
  cases p with
  | none=>rfl
  | some d=>exact D.cl_mono h d c1
theorem zEc {S:M.S} (h:clS n S=true) {i:Nat}{o:O} (e:S[i]? = some o):O.cl n o=true:=List.all_eq_true.mp h o (List.mem_of_getElem? e)
end
theorem zIH {S S' g:M.S} (hn:S.length <= S'.length) (c:clS S'.length S'=true):Emb S.length (List.range S'.length) S' (S'++g) :=
 ⟨by simp,List.nodup_range,hn,fun i hi=>by rw[List.getElem?_range (by omega)],fun i o q=>by
  have hi:i < S'.length:=(List.getElem?_eq_some_iff.mp q).1
  exact⟨i,by rw[List.getElem?_range hi],by rw[List.getElem?_append_left hi,O.ren_id (Zs _),q],zEc c q⟩⟩
theorem zJa {S g:M.S}{o:O}{j:Nat} (c:clS S.length S=true) (co:O.cl S.length o=true) (hj:(S++g)[j]? = some o) (hle:S.length <= j):Emb S.length (List.range S.length++[j]) (S++[o]) (S++g):=by
 have old:∀ i,i < S.length->(List.range S.length++[j])[i]? = some i:=fun i hi=>by
  rw[List.getElem?_append_left (by simpa using hi),List.getElem?_range hi]
 refine⟨by simp,?_,by simp,old,fun i ob q=>?_⟩
 ·rw[List.nodup_append]
  refine⟨List.nodup_range,by simp,fun a ha b hb=>?_⟩
  have h1:=List.mem_range.mp ha
  have h2:b=j:=by simpa using hb
  omega
 ·by_cases hi:i < S.length
  ·rw[List.getElem?_append_left hi] at q
   have cq:=zEc c q
   exact⟨i,old i hi,by rw[List.getElem?_append_left hi,O.ren_old old ob cq,q],O.cl_mono (by simp) ob cq⟩
  ·rw[List.getElem?_append_right (by omega)] at q
   have hz:i - S.length=0:=by
    cases hz:i - S.length with
    | zero=>rfl
    | succ k=>rw[hz] at q;simp at q
   rw[hz] at q
   simp at q
   subst q
   refine⟨j,?_,by rw[O.ren_old old o co,hj],O.cl_mono (by simp) o co⟩
   rw[List.getElem?_append_right (by simp;omega)]
   simp[hz]
theorem jJ.pure {n:Nat}{f q:F} (h:∀ ds S,ds.length=n->clS S.length S=true->D.cl.all S.length ds=true->q ds S=.no\/∃ d g,q ds S=.ok d S/\f ds S=.ok d (S++g)/\D.cl S.length d=true):jJ n f q:=fun ds S hl c ca=>by
 rcases h ds S hl c ca with e | ⟨d,g,e1,e2,e3⟩
 ·exact .inl e
 ·exact .inr ⟨d,S,S++g,List.range S.length,e1,by rw[D.ren_id (Zs _)];exact e2,zIH (Nat.le_refl _) c,e3⟩
theorem jJ.new {n:Nat}{f q:F} (h:∀ ds S,ds.length=n->clS S.length S=true->D.cl.all S.length ds=true->q ds S=.no\/∃ o j g,q ds S=alloc o S/\f ds S=.ok (.ref j) (S++g)/\(S++g)[j]? = some o/\S.length <= j/\O.cl S.length o=true):jJ n f q:=fun ds S hl c ca=>by
 rcases h ds S hl c ca with e | ⟨o,j,g,e1,e2,e3,e4,e5⟩
 ·exact .inl e
 ·refine .inr ⟨.ref S.length,S++[o],S++g,List.range S.length++[j],e1,?_,zJa c e5 e3 e4,?_⟩
  ·rw[e2]
   show R.ok (D.ref j) _=R.ok (D.ref ((List.range S.length++[j]).getD S.length S.length)) _
   rw[List.getD_eq_getElem?_getD,List.getElem?_append_right (by simp)]
   simp
  ·show decide (S.length < (S++[o]).length)=true
   simp
noncomputable def chS (m:F):F:=fun ds s=>@dite (R D) (∃ d g,m ds s=.ok d (s++g)/\D.cl s.length d=true) (Classical.propDecidable _) (fun h=>.ok h.choose s) (fun _=>.no)
theorem Zh {n:Nat} (m:F):jJ n m (chS m):=jJ.pure fun ds S hl c ca=>by
 unfold chS
 by_cases h:∃ d g,m ds S=.ok d (S++g)/\D.cl S.length d=true
 ·obtain⟨g,e,k⟩:=h.choose_spec
  exact .inr ⟨h.choose,g,by rw[dif_pos h],e,k⟩
 ·exact .inl (by rw[dif_neg h])
theorem ZH {m:F}{ds:List D}{s g:S}{d:D} (e:m ds s=.ok d (s++g)) (k:D.cl s.length d=true):chS m ds s=.ok d s:=by
 have h:∃ d g,m ds s=.ok d (s++g)/\D.cl s.length d=true:=⟨d,g,e,k⟩
 obtain⟨g',e',_⟩:=h.choose_spec
 have e2:d=h.choose:=by
  have e3:=e.symm.trans e'
  injection e3
 unfold chS
 rw[dif_pos h,<- e2]
noncomputable def chN (m:F):F:=fun ds s=>@dite (R D) (∃ o j g,m ds s=.ok (.ref j) (s++g)/\(s++g)[j]? = some o/\s.length <= j/\O.cl s.length o=true) (Classical.propDecidable _) (fun h=>alloc h.choose s) (fun _=>.no)
theorem zF4 {n:Nat} (m:F):jJ n m (chN m):=jJ.new fun ds S hl c ca=>by
 unfold chN
 by_cases h:∃ o j g,m ds S=.ok (.ref j) (S++g)/\(S++g)[j]? = some o/\S.length <= j/\O.cl S.length o=true
 ·obtain⟨j,g,e,k⟩:=h.choose_spec
  exact .inr ⟨h.choose,j,g,by rw[dif_pos h],e,k⟩
 ·exact .inl (by rw[dif_neg h])
theorem zF9 {m:F}{ds:List D}{s g:S}{j:Nat}{o:O} (e:m ds s=.ok (.ref j) (s++g)) (q:(s++g)[j]? = some o) (l:s.length <= j) (k:O.cl s.length o=true):chN m ds s=alloc o s:=by
 have h:∃ o j g,m ds s=.ok (.ref j) (s++g)/\(s++g)[j]? = some o/\s.length <= j/\O.cl s.length o=true:=⟨o,j,g,e,q,l,k⟩
 obtain⟨j',g',e',q',_⟩:=h.choose_spec
 have e4:=e.symm.trans e'
 injection e4 with e1 e2
 injection e1 with e1
 have e3:o=h.choose:=by
  have q2:=q
  rw[e2,e1] at q2
  exact Option.some.inj (q2.symm.trans q')
 unfold chN
 rw[dif_pos h,<- e3]
end M
namespace M
theorem zB7 {g:Gd}{f:D->S->R (Option D)}{s:S}{h:D->D} (hg:zc g s=true):∀ {xs:List D},(∀ x∈xs,f x s=.ok (some (h x)) s)->qQ g f xs s=.ok (xs.map h) s
 | [],_=>rfl
 | x::xs,e=>by
  show (f x s).bind _=_
  rw[e x List.mem_cons_self,R.bind_ok,if_pos hg,zB7 hg fun y hy=>e y (List.mem_cons_of_mem _ hy)]
  rfl
theorem Jp {g:Gd}{f:D->S->R (Option D)}{s:S}{p:D->Bool}{h:D->D} (hg:zc g s=true):∀ {xs:List D},(∀ x∈xs,f x s=.ok (if p x then some (h x) else none) s)->qQ g f xs s=.ok ((xs.filter p).map h) s
 | [],_=>rfl
 | x::xs,e=>by
  show (f x s).bind _=_
  rw[e x List.mem_cons_self,R.bind_ok,if_pos hg,Jp hg fun y hy=>e y (List.mem_cons_of_mem _ hy),R.bind_ok]
  cases hp:p x<;>simp[hp]
theorem zG8 {n:Nat}{it:IM}{tg:GM}{e:EM}{σ:St}{s:S}{xs:List D}{g:Gd} (h:D->D) (hi:it σ s=.ok (xs,g) s) (hl:xs.length <= SZ) (hg:zc g s=true) (he:∀ x∈xs,qK n tg ZG e σ x s=.ok (some (h x)) s):yl n it tg ZG e σ s=.ok (xs.map h) s:=by
 unfold yl
 rw[hi,R.bind_ok,if_pos ⟨hl,hg⟩]
 exact zB7 hg he
theorem JV {n:Nat}{it:IM}{tg:GM}{e:EM}{σ:St}{s:S}{lo hi:Int} (h:Nat->D) (hit:it σ s=.ok (jw lo hi,[]) s) (hl:(hi - lo).toNat <= SZ) (he:∀ k:Nat,k < (hi - lo).toNat->qK n tg ZG e σ (.int (lo+k)) s=.ok (some (h k)) s) :
  yl n it tg ZG e σ s=.ok ((List.range (hi - lo).toNat).map h) s:=by
 have:=zG8 (n:=n) (tg:=tg) (e:=e) (fun d=>match d with | .int i=>h (i - lo).toNat | d=>d) hit (by simpa [jw] using hl) rfl fun x hx=>by
  obtain⟨k,hk,rfl⟩:=List.mem_map.mp hx
  have e:(lo+(k:Int) - lo).toNat=k:=by omega
  rw[he k (List.mem_range.mp hk)]
  show R.ok (some (h k)) s=R.ok (some (h (lo+(k:Int) - lo).toNat)) s
  rw[e]
 rw[this]
 unfold jw
 rw[List.map_map]
 have e2:∀ k:Nat,(lo+(k:Int) - lo).toNat=k:=fun k=>by omega
 have e3:((fun d=>match d with | .int i=>h (i - lo).toNat | d=>d) ∘ fun (k:Nat)=>D.int (lo+k))=h:=by
  funext k
  show h (lo+(k:Int) - lo).toNat=h k
  rw[e2]
 rw[e3]
theorem zKH {α:Type} (xs:List α) {k:Int} (h:0 <= k):cut xs (some k) none=xs.drop k.toNat:=by
 unfold cut sIx
 have:¬ k < 0:=by omega
 simp only[if_neg this]
 by_cases hk:k <= xs.length
 ·rw[show (min k (xs.length:Int)).toNat=k.toNat by omega,List.take_of_length_le (by rw[List.length_drop];omega)]
 ·rw[List.drop_of_length_le (by omega),List.drop_of_length_le (by omega)];simp
theorem zFd {α:Type} (f:α->T) (xs:List α):QR (xs.map fun x=>.str (f x))=some (xs.map f):=by
 induction xs with
 | nil=>rfl
 | cons x xs ih=>show (QR (xs.map fun x=>D.str (f x))).map _=_;rw[ih];rfl
theorem zCP (xs:List T):Ze [] xs=xs.flatten:=by
 induction xs with
 | nil=>rfl
 | cons x xs ih =>
  cases xs with
  | nil=>simp[Ze]
  | cons y ys=>show x++[]++Ze [] (y::ys)=_;rw[ih];simp
theorem zDe {α β:Type} (f:α->β) (xs:List α):(xs.map fun x=>[f x]).flatten=xs.map f:=by
 induction xs with
 | nil=>rfl
 | cons x xs ih=>rw[List.map_cons,List.flatten_cons,ih];rfl
theorem zHe {α:Type} (f:α->Nat) (xs:List α):((xs.map fun x=>[f x]).map List.length).sum=xs.length:=by
 induction xs with
 | nil=>rfl
 | cons x xs ih=>rw[List.map_cons,List.map_cons,List.sum_cons,ih,List.length_cons];show 1+xs.length=xs.length+1;omega
theorem zFe {α:Type} (f:α->Nat) (xs:List α) (s:S) (h:xs.length <= SZ):yy [] (xs.map fun x=>.str [f x]) s=.ok (.str (xs.map f)) s:=by
 unfold yy
 rw[zFd]
 dsimp only
 rw[if_pos,zCP,zDe]
 rw[zHe]
 simpa using h
theorem qN {S:M.S}{p:Nat}{o:O} (e:S[p]? = some o) (g:M.S):(S++g)[p]? = some o:=by
 rw[List.getElem?_append_left (List.getElem?_eq_some_iff.mp e).1]
 exact e
theorem zDF {n:Nat}{it:IM}{tg:GM}{c:TM}{e:EM}{σ:St}{s s1:S}{xs:List D}{g:Gd} (p:D->Bool) (h:D->D) (hi:it σ s=.ok (xs,g) s1) (hl:xs.length <= SZ) (hg:zc g s1=true) (he:∀ x∈xs,qK n tg c e σ x s1=.ok (if p x then some (h x) else none) s1):yl n it tg c e σ s=.ok ((xs.filter p).map h) s1:=by
 unfold yl
 rw[hi,R.bind_ok,if_pos ⟨hl,hg⟩]
 exact Jp hg he
theorem zHO {g:Gd}{s t:S} (h:zc g s=true):zc g (s++t)=true:=by
 unfold zc at h ⊢
 rw[List.all_eq_true] at h ⊢
 intro p hp
 exact decide_eq_true (qN (of_decide_eq_true (h p hp)) t)
theorem zBJ {g:Gd}{f:D->S->R (Option D)}{s0:S}{h:D->D} (hg:zc g s0=true):∀ {xs:List D} (t:S),(∀ x∈xs,∀ t,∃ t',f x (s0++t)=.ok (some (h x)) (s0++t'))->∃ t',qQ g f xs (s0++t)=.ok (xs.map h) (s0++t')
 | [],t,_=>⟨t,rfl⟩
 | x::xs,t,e=>by
  obtain⟨t1,e1⟩:=e x List.mem_cons_self t
  obtain⟨t2,e2⟩:=zBJ hg (xs:=xs) t1 fun y hy=>e y (List.mem_cons_of_mem _ hy)
  refine⟨t2,?_⟩
  show (f x (s0++t)).bind _=_
  rw[e1,R.bind_ok,if_pos (zHO hg),e2]
  rfl
theorem zFq {n:Nat}{it:IM}{tg:GM}{e:EM}{σ:St}{s:S}{xs:List D}{g:Gd} (h:D->D) (hi:it σ s=.ok (xs,g) s) (hl:xs.length <= SZ) (hg:zc g s=true) (he:∀ x∈xs,∀ t,∃ t',qK n tg ZG e σ x (s++t)=.ok (some (h x)) (s++t')):∃ t',yl n it tg ZG e σ s=.ok (xs.map h) (s++t'):=by
 unfold yl
 rw[hi,R.bind_ok,if_pos ⟨hl,hg⟩]
 have:=zBJ (t:=[]) hg he
 rwa [List.append_nil] at this
@[simp] noncomputable def Jo:D->D->S->R D
 | .tup [],.tup b,s=>.ok (.tup b) s
 | x,y,s=>qM x y s
@[simp] noncomputable def zNG:D->F
 | .ref p,[],s=>match s[p]? with
  | some (.dct _)=>.ok .non (s.set p (.dct []))
  | _=>.no
 | _,_,_=>.no
end M
namespace M
noncomputable def kyT:D->Bool
 | .tup ds=>kyD 7 (.tup ds)
 | _=>false
@[simp] noncomputable def Jk (x:D) (s:S):Option (Nat×List (D×D)):=match x with
 | .ref p=>(match s[p]? with | some (.dtt kvs)=>some (p,kvs) | _=>none)
 | _=>none
@[simp] noncomputable def zKt (x:D) (s:S):Option (List (D×D)):=match x with
 | .ref p=>(match s[p]? with | some (.dtt kvs)=>some kvs | some (.ftt kvs)=>some kvs | _=>none)
 | _=>none
@[simp] noncomputable def zV (x k:D) (s:S):R D:=match zKt x s with
 | some kvs=>if kyT k then (match zy k kvs with | some d=>.ok d s | none=>.no) else .no
 | none=>ZD x k s
@[simp] noncomputable def ZM (a:EM):IM:=fun σ s=>(a σ s).bind fun x s=>match x with
 | .ref i=>(match s[i]? with | some (.ftt kvs)=>.ok (kvs.map fun p:D×D=>p.1,([]:Gd)) s | _=>.no)
 | _=>.no
@[simp] noncomputable def zAx (i:Nat) (b:SM):SM:=fun σ s=>match σ[i]? with
 | some (some (.ref p))=>(match s[p]? with
  | some (.dtt kvs)=>zCl p (.ftt kvs) (.dtt kvs) (b σ (s.set p (.ftt kvs)))
  | _=>.no)
 | _=>.no
@[simp] noncomputable def inL (x:D) (ys:List D) (s:S) (r:R Bool):R Bool:=if kyD 7 x && ys.all (kyD 7) then .ok (ys.contains x) s else r
@[simp] noncomputable def inT (x y:D) (s:S):R Bool:=match Jk y s with
 | some (_,kvs)=>if kyT x then .ok (zy x kvs).isSome s else .no
 | none=>(match y with
  | .ref i=>(match jV s i with | some ys=>inL x ys s (inD x y s) | none=>inD x y s)
  | _=>inD x y s)
@[simp] noncomputable def zHG:CM:=fun x y s=>inT x y s
@[simp] noncomputable def Z0:CM:=fun x y s=>(inT x y s).bind fun b s=>.ok (!b) s
@[simp] noncomputable def ya:F
 | [x],s=>(match Jk x s with | some (_,kvs)=>.ok (.int kvs.length) s | none=>Qb [x] s)
 | xs,s=>Qb xs s
@[simp] noncomputable def zAu:F
 | [x],s=>(match Jk x s with | some (_,kvs)=>alloc (.lst (kvs.map (·.1))) s | none=>zCn [x] s)
 | xs,s=>zCn xs s
@[simp] noncomputable def Qo (x k y:D) (s:S):R Unit:=match Jk x s with
 | some (p,kvs)=>if kyT k && decide (kvs.length < SZ) then .ok () (s.set p (.dtt (qa k y kvs))) else .no
 | none=>yA x k y s
@[simp] noncomputable def Zt (o k e:EM):SM:=fun σ s=>(e σ s).stm σ fun y s=>(o σ s).stm σ fun x s=>(k σ s).stm σ fun k s=>(Qo x k y s).stm σ fun _ s=>.nx σ s
@[simp] noncomputable def QS:D->F
 | x,[k],s=>(match Jk x s with
  | some (p,kvs)=>if kyT k then (match zy k kvs with | some v=>.ok v (s.set p (.dtt (zx k kvs))) | none=>.no) else .no
  | none=>.no)
 | x,[k,d],s=>(match Jk x s with
  | some (p,kvs)=>if kyT k then (match zy k kvs with | some v=>.ok v (s.set p (.dtt (zx k kvs))) | none=>.ok d s) else .no
  | none=>.no)
 | _,_,_=>.no
@[simp] noncomputable def Qr:EM:=fun _ s=>alloc (.dtt []) s
end M
namespace M
noncomputable def zIR (m:F) (ds:List D) (s:S) (p:D×S):Prop:=∃ g,m ds s=.ok p.1 (p.2++g)/\p.2.length=s.length/\clS s.length p.2=true/\D.cl s.length p.1=true
noncomputable def chO (m:F):F:=fun ds s=>@dite (R D) (∃ p,zIR m ds s p) (Classical.propDecidable _) (fun h=>.ok h.choose.1 h.choose.2) (fun _=>.no)
theorem zDM {n:Nat} (m:F):jJ n m (chO m):=fun ds S hl c ca=>by
 unfold chO
 split
 ·rename_i h
  obtain⟨g,e,l,c1,c2⟩:=h.choose_spec
  generalize h.choose=p at *
  obtain⟨d,S'⟩:=p
  dsimp only at *
  refine .inr ⟨d,S',S'++g,List.range S.length,rfl,?_,⟨?_,List.nodup_range,Nat.le_of_eq l.symm,fun i hi=>?_,fun i o q=>?_⟩,?_⟩
  ·rw[D.ren_id fun i=>Zs _ i];exact e
  ·rw[List.length_range,l]
  ·rw[List.getElem?_range hi]
  ·have hi:i < S'.length:=(List.getElem?_eq_some_iff.mp q).1
   refine⟨i,?_,?_,?_⟩
   ·rw[List.getElem?_range (by omega)]
   ·rw[O.ren_id fun i=>Zs _ i,List.getElem?_append_left hi];exact q
   ·rw[l];exact List.all_eq_true.mp c1 o (List.mem_of_getElem? q)
  ·rw[l];exact c2
 ·exact .inl rfl
theorem Qt {m:F}{ds:List D}{s S' g:S}{d:D} (e:m ds s=.ok d (S'++g)) (l:S'.length=s.length) (c:clS s.length S'=true) (k:D.cl s.length d=true):chO m ds s=.ok d S':=by
 have h:∃ p,zIR m ds s p:=⟨(d,S'),g,e,l,c,k⟩
 unfold chO
 rw[dif_pos h]
 obtain⟨g',e',l',_⟩:=h.choose_spec
 generalize h.choose=p at *
 have e2:=e.symm.trans e'
 injection e2 with e1 e2
 have e3:=List.append_inj_left e2 (by omega)
 rw[<- e1,<- e3]
theorem QQ (m:Nat):∀ {n:Nat}{d:D},kyD n d=true->D.cl m d=true:=by
 intro n
 induction n with
 | zero=>intro d h;cases d<;>first | rfl | cases h
 | succ n ih =>
  intro d h
  cases d with
  | tup ds =>
   have h':ds.all (kyD n)=true:=h
   show D.cl.all m ds=true
   clear h
   induction ds with
   | nil=>rfl
   | cons d ds ih2 =>
    rw[List.all_cons,Bool.and_eq_true] at h'
    show (D.cl m d && D.cl.all m ds)=true
    rw[ih h'.1,ih2 h'.2];rfl
  | _=>first | rfl | cases h
theorem J6:∀ {n k:Nat}{d:D},n <= k->kyD n d=true->kyD k d=true:=by
 intro n
 induction n with
 | zero=>intro k d l h;cases d<;>first | (cases k<;>rfl) | cases h
 | succ n ih =>
  intro k d l h
  obtain⟨k,rfl⟩:∃ j,k=j+1:=⟨k - 1,by omega⟩
  cases d with
  | tup ds =>
   have h':ds.all (kyD n)=true:=h
   exact List.all_eq_true.mpr fun d hd=>ih (by omega) (List.all_eq_true.mp h' d hd)
  | _=>first | rfl | cases h
end M
namespace L2
open PySem PySem.Spec PyProof.Rows
noncomputable def ofT (x:M.T):Str:=⟨x.toArray⟩
theorem jp (x:M.T):(ofT x).length=x.length:=by simp[ofT,Str.length]
theorem ZF (x:M.T):(ofT x).cps.toList=x:=by simp[ofT]
theorem Qy {x y:M.T} (h:ofT x=ofT y):x=y:=by rw[<- ZF x,h,ZF]
theorem zIf (x y:M.T):ofT x++ofT y=ofT (x++y):=by
 show (⟨x.toArray++y.toArray⟩:Str)=_
 simp[ofT]
noncomputable abbrev okT (x:M.T):Prop:=x.all (fun c=>decide (c < 1114112))=true
theorem zBV {x y:M.T} (h:okT x) (k:okT y):okT (x++y):=by show (x++y).all _=true;rw[List.all_append,h,k];rfl
theorem J7 {x y:M.T} (h:okT x) (k:∀ c∈y,c∈x):okT y:=List.all_eq_true.mpr fun c hc=>List.all_eq_true.mp h c (k c hc)
theorem yf:M.SZ=sizeLine:=by rw[sizeLine_eq];rfl
noncomputable def Zr (K:PySem.W.Frag) (H:Hp) (a:Addr) (xs:List V):Prop :=
 (∃ o,H a=some (.frz o (.lst xs))) \/
  ∃ (o:Obj) (its:Array Value) (n:Nat),K.lookup a=some o/\o.cls=.type "list" /\ o.dict=none/\o.data=.seq its n/\its.size <= sizeLine/\zY xs its.toList
theorem Zr.sq {K:PySem.W.Frag}{H:Hp}{a:Addr}{xs:List V} (h:Zr K H a xs):SqL K H a xs:=by
 rcases h with ⟨o,h⟩ | h
 ·exact .inl (.inr ⟨o,h⟩)
 ·exact .inr h
structure Le (H H':Hp):Prop where
 tups:∀ b xs,H b=some (.tup xs)->H' b=some (.tup xs)
 frzs:∀ b o u,H b=some (.frz o u)->H' b=some (.frz o u)
theorem Le.refl (H:Hp):Le H H:=⟨fun _ _ h=>h,fun _ _ _ h=>h⟩
theorem Le.trans {H H1 H2:Hp} (a:Le H H1) (b:Le H1 H2):Le H H2:=⟨fun c xs h=>b.tups c xs (a.tups c xs h),fun c o u h=>b.frzs c o u (a.frzs c o u h)⟩
theorem Le.new {H:Hp}{p:Addr} (h:H p=none) (o:HO):Le H (upd H p o) :=
 ⟨fun b xs q=>by rw[zU (jm q h)];exact q,fun b o u q=>by rw[zU (jm q h)];exact q⟩
theorem Le.put {H:Hp}{p:Addr} (h:Mut (H p)) (o:HO):Le H (upd H p o) :=
 ⟨fun b xs q=>by rw[zU (fun z=>by subst z;rw[q] at h;exact h)];exact q,fun b o u q=>by rw[zU (fun z=>by subst z;rw[q] at h;exact h)];exact q⟩
theorem Le.rol {K:PySem.W.Frag}{H H':Hp}{a:Addr}{xs:List V} (e:Le H H') (h:Zr K H a xs):Zr K H' a xs:=by
 rcases h with ⟨o,h⟩ | h
 ·exact .inl ⟨o,e.frzs _ _ _ h⟩
 ·exact .inr h
theorem Le.sqT {K:PySem.W.Frag}{H H':Hp}{a:Addr}{xs:List V} (e:Le H H') (h:SqT K H a xs):SqT K H' a xs:=by
 rcases h with (h | ⟨o,h⟩) | h
 ·exact .inl (.inl (e.tups _ _ h))
 ·exact .inl (.inr ⟨o,e.frzs _ _ _ h⟩)
 ·exact .inr h
noncomputable def j5:M.Kd->String
 | .str => "str" | .int => "int" | .bool => "bool" | .list => "list" | .tuple => "tuple" | .dict => "dict"
noncomputable def zG (K:PySem.W.Frag) (ρ:List Addr) (H:Hp):M.D->V->Prop
 | .non,v=>v=.non
 | .bl b,v=>v=.bl b
 | .int i,v=>v=.int i
 | .str x,v=>v=.str (ofT x)/\okT x
 | .ty n,v=>v=.ty (j5 n)
 | .ref i,v=>∃ a,v=.ref a/\ρ[i]? = some a
 | .tup ds,v=>∃ a xs,v=.ref a/\SqT K H a xs/\all ds xs
 | .ro ds,v=>∃ a xs,v=.ref a/\Zr K H a xs/\all ds xs
where all:List M.D->List V->Prop
 | [],xs=>xs=[]
 | d::ds,xs=>∃ y ys,xs=y::ys/\zG K ρ H d y/\all ds ys
noncomputable abbrev zH (K:PySem.W.Frag) (ρ:List Addr) (H:Hp):List M.D->List V->Prop:=zG.all K ρ H
theorem ZZ {ρ ρ':List Addr} (h:ρ <+: ρ') {i:Nat}{a:Addr} (e:ρ[i]? = some a):ρ'[i]? = some a:=by
 obtain⟨t,rfl⟩:=h
 rw[List.getElem?_append_left (List.getElem?_eq_some_iff.mp e).1]
 exact e
section
variable {K:PySem.W.Frag}{ρ ρ':List Addr}{H H':Hp}
mutual
theorem zG.mono (hρ:ρ <+: ρ') (le:Le H H'):∀ {d:M.D}{v:V},zG K ρ H d v->zG K ρ' H' d v
 | .non,_,h=>h
 | .bl _,_,h=>h
 | .int _,_,h=>h
 | .str _,_,h=>h
 | .ty _,_,h=>h
 | .ref _,_,⟨a,e,h⟩=>⟨a,e,ZZ hρ h⟩
 | .tup _,_,⟨a,xs,e,h,r⟩=>⟨a,xs,e,le.sqT h,zH.mono hρ le r⟩
 | .ro _,_,⟨a,xs,e,h,r⟩=>⟨a,xs,e,le.rol h,zH.mono hρ le r⟩
theorem zH.mono (hρ:ρ <+: ρ') (le:Le H H'):∀ {ds:List M.D}{xs:List V},zH K ρ H ds xs->zH K ρ' H' ds xs
 | [],_,h=>h
 | _::_,_,⟨y,ys,e,h,r⟩=>⟨y,ys,e,zG.mono hρ le h,zH.mono hρ le r⟩
end
theorem zH.length:∀ {ds:List M.D}{xs:List V},zH K ρ H ds xs->ds.length=xs.length
 | [],_,h=>by cases h;rfl
 | _::_,_,⟨_,_,e,_,r⟩=>by subst e;rw[List.length_cons,List.length_cons,zH.length r]
theorem zH.get:∀ {ds:List M.D}{xs:List V}{i:Nat}{d:M.D},zH K ρ H ds xs->ds[i]? = some d->∃ v,xs[i]? = some v/\zG K ρ H d v
 | [],_,_,_,_,e=>by simp at e
 | _::_,_,0,_,⟨y,_,e1,h,_⟩,e=>by subst e1;simp at e;subst e;exact⟨y,rfl,h⟩
 | _::_,_,i+1,d,⟨_,ys,e1,_,r⟩,e=>by
  subst e1
  obtain⟨v,h1,h2⟩:=zH.get (i:=i) (d:=d) r (by simpa using e)
  exact⟨v,by simpa using h1,h2⟩
theorem zH.app:∀ {ds es:List M.D}{xs ys:List V},zH K ρ H ds xs->zH K ρ H es ys->zH K ρ H (ds++es) (xs++ys)
 | [],_,_,_,h,k=>by cases h;exact k
 | _::_,_,_,_,⟨y,ys,e,h,r⟩,k=>by subst e;exact⟨y,_,rfl,h,zH.app r k⟩
theorem zH.take:∀ {ds:List M.D}{xs:List V} (n:Nat),zH K ρ H ds xs->zH K ρ H (ds.take n) (xs.take n)
 | _,_,0,_=>rfl
 | [],_,_+1,h=>by cases h;rfl
 | _::_,_,n+1,⟨y,ys,e,h,r⟩=>by subst e;exact⟨y,_,rfl,h,zH.take n r⟩
theorem zH.drop:∀ {ds:List M.D}{xs:List V} (n:Nat),zH K ρ H ds xs->zH K ρ H (ds.drop n) (xs.drop n)
 | _,_,0,h=>h
 | [],_,_+1,h=>by cases h;rfl
 | _::_,_,n+1,⟨y,ys,e,h,r⟩=>by subst e;exact zH.drop n r
theorem zH.set {d:M.D}{v:V} (hd:zG K ρ H d v):∀ {ds:List M.D}{xs:List V} (n:Nat),zH K ρ H ds xs->zH K ρ H (ds.set n d) (xs.set n v)
 | [],_,_,h=>by cases h;rfl
 | _::_,_,0,⟨y,ys,e,h,r⟩=>by subst e;exact⟨v,ys,rfl,hd,r⟩
 | _::_,_,n+1,⟨y,ys,e,h,r⟩=>by subst e;exact⟨y,_,rfl,h,zH.set hd n r⟩
end
section
variable {K:PySem.W.Frag}{ρ ρ':List Addr}{H H':Hp}{ds es:List M.D}{xs ys:List V}
theorem zG.all.mono (h:zG.all K ρ H ds xs) (hρ:ρ <+: ρ') (le:Le H H'):zG.all K ρ' H' ds xs:=zH.mono hρ le h
theorem zG.all.length (h:zG.all K ρ H ds xs):ds.length=xs.length:=zH.length h
theorem zG.all.app (h:zG.all K ρ H ds xs) (k:zG.all K ρ H es ys):zG.all K ρ H (ds++es) (xs++ys):=zH.app h k
end
noncomputable def Zl:M.D->Key->Prop
 | .int i,k=>k=.inl i
 | .str x,k=>k=.inr (ofT x)/\okT x
 | _,_=>False
structure Tab where
 tab:Nat->Option (Addr×List Str)
 ha:M.D->Int:=fun _=>0
instance:CoeFun Tab fun _=>Nat->Option (Addr×List Str):=⟨Tab.tab⟩
noncomputable def TD (ha:M.D->Int) (a:Addr) (xs:List (M.D×Addr×Value)) (h:Heap):Prop:=xs.length <= sizeLine/\(a == sysModules)=false/\(xs.map (·.1)).Nodup /\
 ∃ o es ep,h.get? a=some o/\o.ExactDict/\o.data=.dict es ep/\es.toList=xs.map fun x=>⟨ha x.1,.ref x.2.1,x.2.2⟩
noncomputable def TDr (K:PySem.W.Frag) (ρ:List Addr) (H:Hp) (p:M.D×M.D) (q:M.D×Addr×Value):Prop:=q.1=p.1/\M.kyD 7 p.1=true/\zG K ρ H p.1 (.ref q.2.1)/\∃ v,zG K ρ H p.2 v/\zZ v q.2.2
theorem TDr.mono {K:PySem.W.Frag}{ρ ρ':List Addr}{H H':Hp} (hρ:ρ <+: ρ') (le:Le H H') {p:M.D×M.D}{q:M.D×Addr×Value} (h:TDr K ρ H p q):TDr K ρ' H' p q :=
 ⟨h.1,h.2.1,h.2.2.1.mono hρ le,let ⟨v,a,b⟩:=h.2.2.2;⟨v,a.mono hρ le,b⟩⟩
structure Jq (K:PySem.W.Frag) (ρ:List Addr) (H:Hp) (N:List Str) (fs:List (Option M.D)) (gs:List (Str×V)):Prop where
 len:fs.length=N.length
 nd:(gs.map (·.1)).Nodup
 within:∀ f∈gs.map (·.1),f∈N
 get:∀ (i:Nat) (f:Str) (d:M.D),N[i]? = some f->fs[i]? = some (some d)->∃ v,gs.lookup f=some v/\zG K ρ H d v
noncomputable def ObR (K:PySem.W.Frag) (Θ:Tab) (ρ:List Addr) (H:Hp) (a:Addr):M.O->Prop
 | .lst ds=>∃ xs,H a=some (.lst xs)/\zH K ρ H ds xs
 | .dct kvs=>∃ ks,H a=some (.dK ks)/\Paired (fun (p:M.D×M.D) (q:Key×V)=>Zl p.1 q.1/\zG K ρ H p.2 q.2) kvs ks
 | .fdc kvs=>∃ o ks,H a=some (.frz o (.dK ks))/\Paired (fun (p:M.D×M.D) (q:Key×V)=>Zl p.1 q.1/\zG K ρ H p.2 q.2) kvs ks
 | .dtt kvs=>∃ xs,H a=some (.ext (TD Θ.ha a xs))/\Paired (TDr K ρ H) kvs xs
 | .ftt kvs=>∃ o xs,H a=some (.frz o (.ext (TD Θ.ha a xs)))/\Paired (TDr K ρ H) kvs xs
 | .ins c fs=>∃ C dx gs N,H a=some (.ins C dx gs)/\Θ c=some (C,N)/\Jq K ρ H N fs gs
structure zT (K:PySem.W.Frag) (Θ:Tab) (ρ:List Addr) (S:M.S) (H:Hp):Prop where
 len:ρ.length=S.length
 nd:ρ.Nodup
 obj:∀ (i:Nat) (o:M.O),S[i]? = some o->∃ a,ρ[i]? = some a/\ObR K Θ ρ H a o
structure jE (K:PySem.W.Frag) (ρ:List Addr) (H:Hp) (σ':M.St) (σ:St):Prop where
 len:σ'.length=σ.length
 get:∀ (i:Nat) (d:M.D),σ'[i]? = some (some d)->∃ v,σ[i]? = some (some v)/\zG K ρ H d v
section
variable {K:PySem.W.Frag}{Θ:Tab}{ρ ρ':List Addr}{H H':Hp}{S:M.S}
theorem jE.mono {σ':M.St}{σ:St} (h:jE K ρ H σ' σ) (hρ:ρ <+: ρ') (le:Le H H'):jE K ρ' H' σ' σ :=
 ⟨h.len,fun i d e=>let ⟨v,h1,h2⟩:=h.get i d e;⟨v,h1,h2.mono hρ le⟩⟩
theorem jE.set {σ':M.St}{σ:St}{d:M.D}{v:V} (h:jE K ρ H σ' σ) (hd:zG K ρ H d v) (i:Nat):jE K ρ H (σ'.set i (some d)) (σ.set i (some v)):=by
 refine⟨by rw[List.length_set,List.length_set,h.len],fun j e q=>?_⟩
 by_cases hj:i=j
 ·subst hj
  by_cases hl:i < σ'.length
  ·rw[List.getElem?_set_self hl] at q
   cases q
   exact⟨v,by rw[List.getElem?_set_self (h.len ▸ hl)],hd⟩
  ·rw[List.getElem?_eq_none (by rw[List.length_set];omega)] at q
   cases q
 ·rw[List.getElem?_set_ne hj] at q
  rw[List.getElem?_set_ne hj]
  exact h.get j e q
theorem jE.more {σ':M.St}{σ:St} (h:jE K ρ H σ' σ) (n:Nat):jE K ρ H (σ'++List.replicate n none) (σ++List.replicate n none):=by
 refine⟨by simp[h.len],fun i d q=>?_⟩
 by_cases hl:i < σ'.length
 ·rw[List.getElem?_append_left hl] at q
  rw[List.getElem?_append_left (h.len ▸ hl)]
  exact h.get i d q
 ·rw[List.getElem?_append_right (by omega),List.getElem?_replicate] at q
  split at q<;>cases q
theorem zT.tracked (h:zT K Θ ρ S H) {a:Addr} (m:a∈ρ):∃ o,H a=some o:=by
 obtain⟨i,hi,e⟩:=List.mem_iff_getElem.mp m
 have hl:i < S.length:=h.len ▸ hi
 obtain⟨a',e1,r⟩:=h.obj i S[i] (by simp[hl])
 rw[List.getElem?_eq_getElem hi,e] at e1
 cases e1
 cases q:S[i] with
 | lst ds=>rw[q] at r;obtain⟨xs,e2,_⟩:=r;exact⟨_,e2⟩
 | dct kvs=>rw[q] at r;obtain⟨xs,e2,_⟩:=r;exact⟨_,e2⟩
 | fdc kvs=>rw[q] at r;obtain⟨o,xs,e2,_⟩:=r;exact⟨_,e2⟩
 | dtt kvs=>rw[q] at r;obtain⟨xs,e2,_⟩:=r;exact⟨_,e2⟩
 | ftt kvs=>rw[q] at r;obtain⟨o,xs,e2,_⟩:=r;exact⟨_,e2⟩
 | ins c fs=>rw[q] at r;obtain⟨_,_,_,_,e2,_⟩:=r;exact⟨_,e2⟩
theorem zT.fresh (h:zT K Θ ρ S H) {p:Addr} (hp:H p=none):p∉ρ:=fun m=>by
 obtain⟨o,e⟩:=h.tracked m
 rw[hp] at e;cases e
theorem ObR.stay {a:Addr}{o:M.O} (h:ObR K Θ ρ H a o) (hρ:ρ <+: ρ') (le:Le H H') (e:H' a=H a):ObR K Θ ρ' H' a o:=by
 cases o with
 | lst ds=>obtain⟨xs,e1,r⟩:=h;exact⟨xs,e.trans e1,r.mono hρ le⟩
 | dct kvs=>obtain⟨ks,e1,r⟩:=h;exact⟨ks,e.trans e1,Paired.mapP r fun p q z=>⟨z.1,z.2.mono hρ le⟩⟩
 | fdc kvs=>obtain⟨o,ks,e1,r⟩:=h;exact⟨o,ks,e.trans e1,Paired.mapP r fun p q z=>⟨z.1,z.2.mono hρ le⟩⟩
 | dtt kvs=>obtain⟨xs,e1,r⟩:=h;exact⟨xs,e.trans e1,Paired.mapP r fun p q z=>z.mono hρ le⟩
 | ftt kvs=>obtain⟨o,xs,e1,r⟩:=h;exact⟨o,xs,e.trans e1,Paired.mapP r fun p q z=>z.mono hρ le⟩
 | ins c fs =>
  obtain⟨C,dx,gs,N,e1,e2,r⟩:=h
  exact⟨C,dx,gs,N,e.trans e1,e2,r.len,r.nd,r.within,fun i f d h1 h2=>let ⟨v,k1,k2⟩:=r.get i f d h1 h2;⟨v,k1,k2.mono hρ le⟩⟩
theorem zT.stay (h:zT K Θ ρ S H) (le:Le H H') (e:∀ a∈ρ,H' a=H a):zT K Θ ρ S H' :=
 ⟨h.len,h.nd,fun i o q=>let ⟨a,h1,h2⟩:=h.obj i o q;⟨a,h1,h2.stay (List.prefix_refl _) le (e a (List.mem_of_getElem? h1))⟩⟩
theorem zT.aside (h:zT K Θ ρ S H) {p:Addr} (hp:H p=none) (o:HO):zT K Θ ρ S (upd H p o) :=
 h.stay (Le.new hp o) fun a m=>zU (fun z=>h.fresh hp (z ▸ m))
theorem zT.alloc (h:zT K Θ ρ S H) {p:Addr} (hp:H p=none) {o:M.O}{u:HO} (r:ObR K Θ (ρ++[p]) (upd H p u) p o):zT K Θ (ρ++[p]) (S++[o]) (upd H p u):=by
 refine⟨by simp[h.len],?_,fun i ob q=>?_⟩
 ·rw[List.nodup_append]
  refine⟨h.nd,by simp,fun a ha b hb=>?_⟩
  have hb':b=p:=by simpa using hb
  rw[hb']
  exact fun z=>h.fresh hp (z ▸ ha)
 ·by_cases hl:i < S.length
  ·rw[List.getElem?_append_left hl] at q
   obtain⟨a,h1,h2⟩:=h.obj i ob q
   refine⟨a,ZZ (List.prefix_append _ _) h1,h2.stay (List.prefix_append _ _) (Le.new hp u) (zU fun z=>h.fresh hp (z ▸ List.mem_of_getElem? h1))⟩
  ·rw[List.getElem?_append_right (by omega)] at q
   have hi:i - S.length=0:=by
    cases hz:i - S.length with
    | zero=>rfl
    | succ k=>rw[hz] at q;simp at q
   rw[hi] at q
   simp at q
   subst q
   refine⟨p,?_,r⟩
   rw[List.getElem?_append_right (by rw[h.len];omega),h.len,hi]
   rfl
theorem QD {α:Type}{ρ:List α} (hN:ρ.Nodup) {i j:Nat}{x:α} (a:ρ[i]? = some x) (b:ρ[j]? = some x):i=j:=by
 induction ρ generalizing i j with
 | nil=>simp at a
 | cons y r ih =>
  rw[List.nodup_cons] at hN
  cases i with
  | zero =>
   cases j with
   | zero=>rfl
   | succ j =>
    simp at a b
    subst a
    exact absurd (List.mem_of_getElem? b) hN.1
  | succ i =>
   cases j with
   | zero =>
    simp at a b
    subst b
    exact absurd (List.mem_of_getElem? a) hN.1
   | succ j =>
    simp at a b
    rw[ih hN.2 a b]
theorem zHm {α:Type}{l:List α} (h:∀ (i j:Nat) x,l[i]? = some x->l[j]? = some x->i=j):l.Nodup:=by
 induction l with
 | nil=>exact List.nodup_nil
 | cons y r ih =>
  refine List.nodup_cons.mpr ⟨fun m=>?_,ih fun i j x a b=>?_⟩
  ·obtain⟨j,hj,e⟩:=List.mem_iff_getElem.mp m
   have:=h 0 (j+1) y (by simp) (by simp[e,hj])
   omega
  ·have:=h (i+1) (j+1) x (by simpa using a) (by simpa using b)
   omega
theorem zGL {α:Type}{l:List α} (hN:l.Nodup) {i j:Nat} (hi:i < l.length) (hj:j < l.length) (e:l[i]=l[j]):i=j :=
 QD hN (x:=l[i]) (by simp[hi]) (by rw[e];simp[hj])
theorem zT.put (h:zT K Θ ρ S H) {i:Nat}{a:Addr} (ha:ρ[i]? = some a) {o:M.O}{u:HO} (mu:Mut (H a)) (r:ObR K Θ ρ (upd H a u) a o):zT K Θ ρ (S.set i o) (upd H a u):=by
 refine⟨by simp[h.len],h.nd,fun j ob q=>?_⟩
 by_cases hj:i=j
 ·subst hj
  by_cases hl:i < S.length
  ·rw[List.getElem?_set_self hl] at q
   cases q
   exact⟨a,ha,r⟩
  ·rw[List.getElem?_eq_none (by rw[List.length_set];omega)] at q
   cases q
 ·rw[List.getElem?_set_ne hj] at q
  obtain⟨b,h1,h2⟩:=h.obj j ob q
  refine⟨b,h1,h2.stay (List.prefix_refl _) (Le.put mu u) (zU fun z=>?_)⟩
  subst z
  exact hj (QD h.nd ha h1)
end
noncomputable def zE {α β:Type} (K:PySem.W.Frag) (Θ:Tab) (Rl:List Addr->Hp->α->β->Prop) (ρ:List Addr) (H:Hp):M.R α->(β->Hp->Prop)->Prop
 | .ok a S',Q=>∀ ρ' H' b,ρ <+: ρ'->Le H H'->zT K Θ ρ' S' H'->Rl ρ' H' a b->Q b H'
 | .exc _ _,_=>False
 | .no,_=>False
noncomputable abbrev rB:List Addr->Hp->Bool->Bool->Prop:=fun _ _ a b=>a=b
noncomputable abbrev rO:List Addr->Hp->Option Int->Option Int->Prop:=fun _ _ a b=>a=b
section
variable {K:PySem.W.Frag}{Θ:Tab}{ρ ρ':List Addr}{H H':Hp}{S:M.S}{α β γ δ:Type}{Rl:List Addr->Hp->α->β->Prop}{Rk:List Addr->Hp->γ->δ->Prop}{Q:β->Hp->Prop}{Q':δ->Hp->Prop}
theorem zE.weak {r:M.R α} (h:zE K Θ Rl ρ H r Q) (hρ:ρ <+: ρ') (le:Le H H'):zE K Θ Rl ρ' H' r Q:=by
 cases r with
 | ok a s=>exact fun ρ2 H2 b p l=>h ρ2 H2 b (hρ.trans p) (le.trans l)
 | exc e s=>exact h
 | no=>exact h
theorem zE.bind {r:M.R α}{f:α->M.S->M.R γ} (h:zE K Θ Rk ρ H (r.bind f) Q')
  (k:∀ ρ' H' a b S',ρ <+: ρ'->Le H H'->zT K Θ ρ' S' H'->Rl ρ' H' a b->zE K Θ Rk ρ' H' (f a S') Q'->Q b H'):zE K Θ Rl ρ H r Q:=by
 cases r with
 | ok a s=>exact fun ρ2 H2 b p l rp rl=>k ρ2 H2 a b s p l rp rl (zE.weak h p l)
 | exc e s=>exact h
 | no=>exact h
theorem zE.here {a:α}{b:β} (h:zE K Θ Rl ρ H (.ok a S) Q) (rp:zT K Θ ρ S H) (rl:Rl ρ H a b):Q b H:=h ρ H b (List.prefix_refl _) (Le.refl _) rp rl
end
noncomputable def RdE (K:PySem.W.Frag) (Θ:Tab) (m:M.EM):TE:=fun σ H Q=>∃ ρ σ' S,jE K ρ H σ' σ/\zT K Θ ρ S H/\zE K Θ (zG K) ρ H (m σ' S) Q
noncomputable def RdT (K:PySem.W.Frag) (Θ:Tab) (m:M.TM):TT:=fun σ H Q=>∃ ρ σ' S,jE K ρ H σ' σ/\zT K Θ ρ S H/\zE K Θ rB ρ H (m σ' S) Q
noncomputable def RdA (K:PySem.W.Frag) (Θ:Tab) (m:M.AM):TA:=fun σ H Q=>∃ ρ σ' S,jE K ρ H σ' σ/\zT K Θ ρ S H/\zE K Θ (zH K) ρ H (m σ' S) Q
noncomputable def RdO (K:PySem.W.Frag) (Θ:Tab) (m:M.OM):TO:=fun σ H Q=>∃ ρ σ' S,jE K ρ H σ' σ/\zT K Θ ρ S H/\zE K Θ rO ρ H (m σ' S) Q
noncomputable abbrev ME (X:Cx) (Θ:Tab) (e:Expr) (m:M.EM):Prop:=PE X e (RdE X.K Θ m)
@[irreducible] noncomputable def WE (X:Cx) (Θ:Tab) (e:Expr) (m:M.EM):Prop:=ME X Θ e m
noncomputable abbrev MT (X:Cx) (Θ:Tab) (e:Expr) (m:M.TM):Prop:=PT X e (RdT X.K Θ m)
@[irreducible] noncomputable def WT (X:Cx) (Θ:Tab) (e:Expr) (m:M.TM):Prop:=MT X Θ e m
noncomputable abbrev MW (X:Cx) (Θ:Tab) (e:Expr) (m:M.TM):Prop:=PW X e (RdT X.K Θ m)
@[irreducible] noncomputable def WW (X:Cx) (Θ:Tab) (e:Expr) (m:M.TM):Prop:=MW X Θ e m
noncomputable abbrev MA (X:Cx) (Θ:Tab) (es:List Expr) (m:M.AM):Prop:=PA X es (RdA X.K Θ m)
@[irreducible] noncomputable def WA (X:Cx) (Θ:Tab) (es:List Expr) (m:M.AM):Prop:=MA X Θ es m
noncomputable abbrev MO (X:Cx) (Θ:Tab) (e:Option Expr) (m:M.OM):Prop:=PO X e (RdO X.K Θ m)
@[irreducible] noncomputable def WO (X:Cx) (Θ:Tab) (e:Option Expr) (m:M.OM):Prop:=MO X Θ e m
theorem PE.imp {X:Cx}{e:Expr}{t t':TE} (h:PE X e t) (i:∀ σ H Q,t' σ H Q->t σ H Q):PE X e t':=fun pins s σ H Q I q=>h pins s σ H Q I (i σ H Q q)
theorem PT.imp {X:Cx}{e:Expr}{t t':TT} (h:PT X e t) (i:∀ σ H Q,t' σ H Q->t σ H Q):PT X e t':=fun pins s σ H Q I q=>h pins s σ H Q I (i σ H Q q)
theorem PW.imp {X:Cx}{e:Expr}{t t':TT} (h:PW X e t) (i:∀ σ H Q,t' σ H Q->t σ H Q):PW X e t':=fun wh pins s σ H Q I q=>h wh pins s σ H Q I (i σ H Q q)
theorem PA.imp {X:Cx}{es:List Expr}{t t':TA} (h:PA X es t) (i:∀ σ H Q,t' σ H Q->t σ H Q):PA X es t':=fun pos pins s σ H Q I q=>h pos pins s σ H Q I (i σ H Q q)
theorem PO.imp {X:Cx}{e:Option Expr}{t t':TO} (h:PO X e t) (i:∀ σ H Q,t' σ H Q->t σ H Q):PO X e t':=fun pins s σ H Q I q=>h pins s σ H Q I (i σ H Q q)
noncomputable def zu:Expr->Bool
 | .Starred _ _=>false
 | _=>true
theorem jq {e:Expr}{es:List Expr}{env:Env} (h:zu e=true):starEach (e::es) env=(false,eval e env)::starEach es env:=by
 cases e<;>first | rfl | cases h
theorem ZB {env:Env}{pos:Pos}:∀ {es:List Expr},es.all zu=true->(backTo pos (starEach es env)).any (·.1)=false
 | [],_=>rfl
 | e::es,h=>by
  rw[List.all_cons,Bool.and_eq_true] at h
  rw[jq h.1]
  show (false || (backTo pos (starEach es env)).any (·.1))=false
  rw[ZB h.2];rfl
theorem zDA {env:Env}{pos:Pos}:∀ {es:List Expr},es.all zu=true->(backTo pos (starEach es env)).all (fun x=>!x.1)=true
 | [],_=>rfl
 | e::es,h=>by
  rw[List.all_cons,Bool.and_eq_true] at h
  rw[jq h.1]
  show (true && (backTo pos (starEach es env)).all (fun x=>!x.1))=true
  rw[zDA h.2];rfl
theorem zCx {env:Env}{pos:Pos}{es:List Expr} (h:es.all zu=true) (hl:es.length < 30):((backTo pos (starEach es env)).all (fun x=>!x.1) && (backToKw pos (keywordEach [] env)).all (fun x=>x.1.isSome)
  && decide (es.length+([]:List Keyword).length+(if ([]:List Keyword).isEmpty then 0 else 1) < 30))=true:=by
 rw[zDA h,Bool.true_and,Bool.and_eq_true]
 exact⟨rfl,decide_eq_true (by simpa using hl)⟩
section
variable {X:Cx}{Θ:Tab}{a b c:Expr}{pos:Pos}{ma mb mc:M.EM}{ta tb:M.TM}{j1:List Expr}
theorem zLe (i:Nat) {x:Str} (hN:X.N[i]? = some x:=by rfl) (hv:Vis X.env.scope x:=by first | exact Or.inl rfl | exact Or.inr (Or.inl rfl) | exact Or.inr (Or.inr rfl)) (hd:(x == ("__debug__" : Str))=false:=by decide)
  (hcd:(x == ("__classdict__" : Str))=false:=by decide):ME X Θ (.Name x pos) (M.zA i):=(zKN hN hv hd hcd).imp fun σ H Q ⟨ρ,σ',S,st,rp,h⟩=>by
 unfold M.zA at h
 split at h
 ·rename_i d e
  obtain⟨v,e1,r⟩:=st.get i d e
  exact⟨v,e1,h.here rp r⟩
 ·exact h.elim
theorem zDt (i:Nat) {x:Str} (hN:X.N[i]? = some x:=by rfl) (hv:Vis X.env.scope x:=by first | exact Or.inl rfl | exact Or.inr (Or.inl rfl) | exact Or.inr (Or.inr rfl)) (hd:(x == ("__debug__" : Str))=false:=by decide)
  (hcd:(x == ("__classdict__" : Str))=false:=by decide):WE X Θ (.Name x pos) (M.zA i):=by with_unfolding_all exact zLe i (x:=x) hN hv hd hcd
theorem J4 {e:Expr}{v:V}{d:M.D} (h:PE X e (tC v)) (r:∀ ρ H,zG X.K ρ H d v):ME X Θ e (M.eC d):=h.imp fun σ H Q ⟨ρ,σ',S,st,rp,h⟩=>h.here rp (r ρ H)
theorem zLk {i:Int}{j:Nat}:ME X Θ (.Constant (.int i) j pos) (M.eC (.int i)):=J4 zLT fun _ _=>rfl
theorem zF {i:Int}{j:Nat}:WE X Θ (.Constant (.int i) j pos) (M.eC (.int i)):=by with_unfolding_all exact zLk (i:=i) (j:=j)
theorem zL8 {k:Bool}{j:Nat}:ME X Θ (.Constant (.bool k) j pos) (M.eC (.bl k)):=J4 zMM fun _ _=>rfl
theorem ZW {k:Bool}{j:Nat}:WE X Θ (.Constant (.bool k) j pos) (M.eC (.bl k)):=by with_unfolding_all exact zL8 (k:=k) (j:=j)
theorem zLN {j:Nat}:ME X Θ (.Constant .none j pos) (M.eC .non):=J4 zLI fun _ _=>rfl
theorem JP {j:Nat}:WE X Θ (.Constant .none j pos) (M.eC .non):=by with_unfolding_all exact zLN (j:=j)
theorem zK2 {y:M.T}{x:Str}{j:Nat} (h:x=ofT y) (ok:okT y):ME X Θ (.Constant (.str x) j pos) (M.eC (.str y)):=J4 zGj fun _ _=>by rw[h];exact⟨rfl,ok⟩
theorem zHv {y:M.T}{x:Str}{j:Nat} (h:x=ofT y) (ok:okT y):WE X Θ (.Constant (.str x) j pos) (M.eC (.str y)):=by with_unfolding_all exact zK2 (y:=y) (x:=x) (j:=j) h ok
theorem zH7 {x:Str}{v:V}{d:M.D} (h:zDN X.mg x v) (hg:Gl X x) (r:∀ ρ H,zG X.K ρ H d v) (hd:(x == ("__debug__" : Str))=false:=by decide):ME X Θ (.Name x pos) (M.eC d):=J4 (zG4 h hg hd) r
theorem zFG {x:Str}{v:V}{d:M.D} (h:zDN X.mg x v) (hg:Gl X x) (r:∀ ρ H,zG X.K ρ H d v) (hd:(x == ("__debug__" : Str))=false:=by decide):WE X Θ (.Name x pos) (M.eC d):=by with_unfolding_all exact zH7 (x:=x) (v:=v) (d:=d) h hg r hd
theorem zMJ (n:M.Kd) {x:Str} (hg:Gl X x) (hm:X.mg x=none) (hv:bootBuiltins x=some (.type (j5 n))) (hn:x ≠ "__name__" := by decide) (hd:(x == ("__debug__" : Str))=false:=by decide):ME X Θ (.Name x pos) (M.eC (.ty n)) :=
 J4 (zJI (v:=.ty (j5 n)) hg hm hv rfl hn hd) fun _ _=>rfl
theorem zBS (n:M.Kd) {x:Str} (hg:Gl X x) (hm:X.mg x=none) (hv:bootBuiltins x=some (.type (j5 n))) (hn:x ≠ "__name__" := by decide) (hd:(x == ("__debug__" : Str))=false:=by decide):WE X Θ (.Name x pos) (M.eC (.ty n)):=by with_unfolding_all exact zMJ n (x:=x) hg hm hv hn hd
noncomputable def Ad2 (K:PySem.W.Frag) (Θ:Tab) (f:M.D->M.D->M.S->M.R M.D) (r:R2):Prop:=∀ ρ H S x y X Y Q,zT K Θ ρ S H->zG K ρ H x X->zG K ρ H y Y->zE K Θ (zG K) ρ H (f x y S) Q->r X Y H Q
noncomputable def AdC (K:PySem.W.Frag) (Θ:Tab) (f:M.CM) (r:R2):Prop:=∀ ρ H S x y X Y (Q:VK),zT K Θ ρ S H->zG K ρ H x X->zG K ρ H y Y->zE K Θ rB ρ H (f x y S) (fun b H'=>Q (.bl b) H')->r X Y H Q
noncomputable def AdN (K:PySem.W.Frag) (Θ:Tab) (f:M.F) (r:List V->Hp->VK->Prop):Prop:=∀ ρ H S xs Xs Q,zT K Θ ρ S H->zH K ρ H xs Xs->zE K Θ (zG K) ρ H (f xs S) Q->r Xs H Q
noncomputable def AdM (K:PySem.W.Frag) (Θ:Tab) (f:M.D->M.F) (r:V->List V->Hp->VK->Prop):Prop :=
 ∀ ρ H S x xs X Xs Q,zT K Θ ρ S H->zG K ρ H x X->zH K ρ H xs Xs->zE K Θ (zG K) ρ H (f x xs S) Q->r X Xs H Q
theorem zMV {op:Operator}{f:M.D->M.D->M.S->M.R M.D}{r:R2} (ho:OpR X (binaryOp op) r) (ad:Ad2 X.K Θ f r) (ha:ME X Θ a ma) (hb:ME X Θ b mb):ME X Θ (.BinOp a op b pos) (M.eOp f ma mb) :=
 (zMD ho ha hb).imp fun σ H Q ⟨ρ,σ',S,st,rp,h⟩=>⟨ρ,σ',S,st,rp,zE.bind h fun ρ1 H1 x X1 S1 p1 l1 rp1 rx h1=>⟨ρ1,σ',S1,st.mono p1 l1,rp1,
  zE.bind h1 fun ρ2 H2 y Y S2 p2 l2 rp2 ry h2=>ad ρ2 H2 S2 x y X1 Y Q rp2 (rx.mono p2 l2) ry h2⟩⟩
theorem zJ {op:Operator}{f:M.D->M.D->M.S->M.R M.D}{r:R2} (ho:OpR X (binaryOp op) r) (ad:Ad2 X.K Θ f r) (ha:WE X Θ a ma) (hb:WE X Θ b mb):WE X Θ (.BinOp a op b pos) (M.eOp f ma mb):=by with_unfolding_all exact zMV (op:=op) (f:=f) (r:=r) ho ad ha hb
noncomputable def zDu:Expr->Bool
 | .Slice _ _ _ _=>false
 | .Tuple _ _ _=>false
 | _=>true
theorem zHI {b:Expr} (h:zDu b=true):zEh b:=fun o i=>by
 cases b<;>first | rfl | cases h
theorem zMW {f:M.D->M.D->M.S->M.R M.D}{r:R2} (ho:IxR X r) (ad:Ad2 X.K Θ f r) (ha:ME X Θ a ma) (hb:ME X Θ b mb) (hs:zDu b=true:=by rfl):ME X Θ (.Subscript a b pos) (M.eOp f ma mb) :=
 (zL5 ho ha hb (zHI hs)).imp fun σ H Q ⟨ρ,σ',S,st,rp,h⟩=>⟨ρ,σ',S,st,rp,zE.bind h fun ρ1 H1 x X1 S1 p1 l1 rp1 rx h1=>⟨ρ1,σ',S1,st.mono p1 l1,rp1,
  zE.bind h1 fun ρ2 H2 y Y S2 p2 l2 rp2 ry h2=>ad ρ2 H2 S2 x y X1 Y Q rp2 (rx.mono p2 l2) ry h2⟩⟩
theorem jM {f:M.D->M.D->M.S->M.R M.D}{r:R2} (ho:IxR X r) (ad:Ad2 X.K Θ f r) (ha:WE X Θ a ma) (hb:WE X Θ b mb) (hs:zDu b=true:=by rfl):WE X Θ (.Subscript a b pos) (M.eOp f ma mb):=by with_unfolding_all exact zMW (f:=f) (r:=r) ho ad ha hb hs
theorem zKY {op:CmpOp}{f:M.CM}{r:R2} (ho:OpR X (compareOp op) r) (ad:AdC X.K Θ f r) (ha:ME X Θ a ma) (hb:ME X Θ b mb) (hm:behindInMarks op b=false):ME X Θ (.Compare a [op] [b] pos) (M.Js f ma mb) :=
 (zIo ho ha hb hm).imp fun σ H Q ⟨ρ,σ',S,st,rp,h⟩=>⟨ρ,σ',S,st,rp,zE.bind h fun ρ1 H1 x X1 S1 p1 l1 rp1 rx h1=>⟨ρ1,σ',S1,st.mono p1 l1,rp1,
  zE.bind h1 fun ρ2 H2 y Y S2 p2 l2 rp2 ry h2=>ad ρ2 H2 S2 x y X1 Y Q rp2 (rx.mono p2 l2) ry (zE.bind h2 fun ρ3 H3 k k' S3 p3 l3 rp3 e h3=>by cases e;exact h3.here rp3 rfl)⟩⟩
theorem zD6 {op:CmpOp}{f:M.CM}{r:R2} (ho:OpR X (compareOp op) r) (ad:AdC X.K Θ f r) (ha:WE X Θ a ma) (hb:WE X Θ b mb) (hm:behindInMarks op b=false):WE X Θ (.Compare a [op] [b] pos) (M.Js f ma mb):=by with_unfolding_all exact zKY (op:=op) (f:=f) (r:=r) ho ad ha hb hm
theorem zLJ {op:CmpOp}{f:M.CM}{r:R2} (ho:OpR X (compareOp op) r) (ad:AdC X.K Θ f r) (ha:ME X Θ a ma) (hb:ME X Θ b mb) (hm:behindInMarks op b=false):MT X Θ (.Compare a [op] [b] pos) (M.je f ma mb) :=
 (zJq ho ha hb hm).imp fun σ H Q ⟨ρ,σ',S,st,rp,h⟩=>⟨ρ,σ',S,st,rp,zE.bind h fun ρ1 H1 x X1 S1 p1 l1 rp1 rx h1=>⟨ρ1,σ',S1,st.mono p1 l1,rp1,
  zE.bind h1 fun ρ2 H2 y Y S2 p2 l2 rp2 ry h2=>ad ρ2 H2 S2 x y X1 Y _ rp2 (rx.mono p2 l2) ry (by
   revert h2
   cases f x y S2 with
   | ok k s=>exact fun h2 ρ3 H3 k' p3 l3 rp3 e=>⟨k',rfl,h2 ρ3 H3 k' p3 l3 rp3 e⟩
   | exc e s=>exact fun h2=>h2
   | no=>exact fun h2=>h2)⟩⟩
theorem jP {op:CmpOp}{f:M.CM}{r:R2} (ho:OpR X (compareOp op) r) (ad:AdC X.K Θ f r) (ha:WE X Θ a ma) (hb:WE X Θ b mb) (hm:behindInMarks op b=false):WT X Θ (.Compare a [op] [b] pos) (M.je f ma mb):=by with_unfolding_all exact zLJ (op:=op) (f:=f) (r:=r) ho ad ha hb hm
theorem zGu {K:PySem.W.Frag}{ρ:List Addr}{H:Hp}{x:M.D}{v:V} (r:zG K ρ H x v):decide (v=.non)=M.zFX x:=by
 cases x with
 | non=>cases r;rfl
 | bl b=>cases r;rfl
 | int b=>cases r;rfl
 | str b=>obtain⟨rfl,_⟩:=r;rfl
 | ty b=>cases r;rfl
 | ref i=>obtain⟨_,rfl,_⟩:=r;rfl
 | tup i=>obtain⟨_,_,rfl,_⟩:=r;rfl
 | ro i=>obtain⟨_,_,rfl,_⟩:=r;rfl
theorem zJ8 {j pos'} (ha:ME X Θ a ma):ME X Θ (.Compare a [.Is] [.Constant .none j pos'] pos) (M.zHz ma):=(zKi (zGR ha)).imp fun σ H Q ⟨ρ,σ',S,st,rp,h⟩=>⟨ρ,σ',S,st,rp,zE.bind h fun ρ1 H1 x X1 S1 p1 l1 rp1 rx h1=>h1.here rp1 (by
 show V.bl _=V.bl _
 rw[zGu rx])⟩
theorem zIB {j pos'} (ha:WE X Θ a ma):WE X Θ (.Compare a [.Is] [.Constant .none j pos'] pos) (M.zHz ma):=by with_unfolding_all exact zJ8 (j:=j) (pos':=pos') ha
theorem zKp {j pos'} (ha:ME X Θ a ma):MT X Θ (.Compare a [.Is] [.Constant .none j pos'] pos) (M.zDi ma):=(zKA (zGR ha)).imp fun σ H Q ⟨ρ,σ',S,st,rp,h⟩=>⟨ρ,σ',S,st,rp,zE.bind h fun ρ1 H1 x X1 S1 p1 l1 rp1 rx h1=>⟨_,rfl,by
 rw[zGu rx];exact h1.here rp1 rfl⟩⟩
theorem zHV {j pos'} (ha:WE X Θ a ma):WT X Θ (.Compare a [.Is] [.Constant .none j pos'] pos) (M.zDi ma):=by with_unfolding_all exact zKp (j:=j) (pos':=pos') ha
theorem AdC.to {K:PySem.W.Frag}{f:M.CM}{r:R2} (ad:AdC K Θ f r) {ρ:List Addr}{H:Hp}{S:M.S}{x y:M.D}{X1 Y:V}{Q:VK}{Q':Bool->Hp->Prop} (rp:zT K Θ ρ S H) (rx:zG K ρ H x X1) (ry:zG K ρ H y Y) (h:zE K Θ rB ρ H (f x y S) Q') (e:∀ k H',Q' k H'->Q (.bl k) H'):r X1 Y H Q :=
 ad ρ H S x y X1 Y Q rp rx ry (by
  revert h
  cases f x y S with
  | ok k s=>exact fun h2 ρ3 H3 k' p3 l3 rp3 q=>e _ _ (h2 ρ3 H3 k' p3 l3 rp3 q)
  | exc e s=>exact fun h2=>h2
  | no=>exact fun h2=>h2)
theorem zG5 {op op':CmpOp}{f g:M.CM}{r r':R2} (ho:OpR X (compareOp op) r) (ho':OpR X (compareOp op') r') (ad:AdC X.K Θ f r) (ad':AdC X.K Θ g r') (ha:ME X Θ a ma) (hb:ME X Θ b mb) (hc:ME X Θ c mc)
  (hm:lastMarks [op,op'] [b,c]=false:=by with_unfolding_all rfl):ME X Θ (.Compare a [op,op'] [b,c] pos) (M.zDT f g ma mb mc) :=
 (zHQ ho ho' ha hb hc hm).imp fun σ H Q ⟨ρ,σ',S,st,rp,h⟩=>⟨ρ,σ',S,st,rp,zE.bind h fun ρ1 H1 x X1 S1 p1 l1 rp1 rx h1=>⟨ρ1,σ',S1,st.mono p1 l1,rp1,
  zE.bind h1 fun ρ2 H2 y Y S2 p2 l2 rp2 ry h2=>ad.to rp2 (rx.mono p2 l2) ry (zE.bind (Rl:=rB) (Q:=fun k H'=>∃ ρ3 S3,ρ2 <+: ρ3/\Le H2 H'/\zT X.K Θ ρ3 S3 H'/\zE X.K Θ (zG X.K) ρ3 H' (if k=true then (mc σ' S3).bind fun z s=>(g y z s).bind fun k s=>.ok (.bl k) s else .ok (.bl false) S3) Q) h2
   fun ρ3 H3 k k' S3 p3 l3 rp3 e h3=>by cases e;exact⟨ρ3,S3,p3,l3,rp3,h3⟩) fun k H3 ⟨ρ3,S3,p3,l3,rp3,h3⟩=>⟨k,rfl,by
    cases k with
    | false=>exact zBb (zE.here (b:=V.bl false) h3 rp3 rfl)
    | true =>
     refine zB0 ⟨ρ3,σ',S3,st.mono (p1.trans (p2.trans p3)) (l1.trans (l2.trans l3)),rp3,zE.bind h3 fun ρ4 H4 z Z S4 p4 l4 rp4 rz h4=>ad'.to rp4 (ry.mono (p3.trans p4) (l3.trans l4)) rz (zE.bind (Rl:=rB) (Q:=fun k H'=>Q (.bl k) H') h4 fun ρ5 H5 k k' S5 p5 l5 rp5 e h5=>by cases e;exact h5.here rp5 rfl) fun _ _ q=>q⟩⟩⟩⟩
theorem zFT {op op':CmpOp}{f g:M.CM}{r r':R2} (ho:OpR X (compareOp op) r) (ho':OpR X (compareOp op') r') (ad:AdC X.K Θ f r) (ad':AdC X.K Θ g r') (ha:WE X Θ a ma) (hb:WE X Θ b mb) (hc:WE X Θ c mc)
  (hm:lastMarks [op,op'] [b,c]=false:=by with_unfolding_all rfl):WE X Θ (.Compare a [op,op'] [b,c] pos) (M.zDT f g ma mb mc):=by with_unfolding_all exact zG5 (op:=op) (op':=op') (f:=f) (g:=g) (r:=r) (r':=r') ho ho' ad ad' ha hb hc hm
theorem zFF (ha:MT X Θ a ta):MW X Θ (.BoolOp .And [a] pos) ta:=zIq ha
theorem Jv (ha:WT X Θ a ta):WW X Θ (.BoolOp .And [a] pos) ta:=by with_unfolding_all exact zFF ha
theorem zGr (ha:MT X Θ a ta):MW X Θ (.BoolOp .Or [a] pos) ta:=zLh ha
theorem zAM (ha:WT X Θ a ta):WW X Θ (.BoolOp .Or [a] pos) ta:=by with_unfolding_all exact zGr ha
theorem zKV (ha:MT X Θ a ta) (hb:MW X Θ (.BoolOp .And (b::j1) pos) tb):MW X Θ (.BoolOp .And (a::b::j1) pos) (M.zBd ta tb) :=
 (zKc ha hb).imp fun σ H Q ⟨ρ,σ',S,st,rp,h⟩=>⟨ρ,σ',S,st,rp,zE.bind h fun ρ1 H1 k k' S1 p1 l1 rp1 e h1=>by
  cases e
  cases k with
  | true=>exact zB0 ⟨ρ1,σ',S1,st.mono p1 l1,rp1,h1⟩
  | false=>exact zBb (zE.here (b:=false) h1 rp1 rfl)⟩
theorem zDV (ha:WT X Θ a ta) (hb:WW X Θ (.BoolOp .And (b::j1) pos) tb):WW X Θ (.BoolOp .And (a::b::j1) pos) (M.zBd ta tb):=by with_unfolding_all exact zKV ha hb
theorem zMT (ha:MT X Θ a ta) (hb:MW X Θ (.BoolOp .Or (b::j1) pos) tb):MW X Θ (.BoolOp .Or (a::b::j1) pos) (M.tOr ta tb) :=
 (zL3 ha hb).imp fun σ H Q ⟨ρ,σ',S,st,rp,h⟩=>⟨ρ,σ',S,st,rp,zE.bind h fun ρ1 H1 k k' S1 p1 l1 rp1 e h1=>by
  cases e
  cases k with
  | true=>exact zB0 (zE.here (b:=true) h1 rp1 rfl)
  | false=>exact zBb ⟨ρ1,σ',S1,st.mono p1 l1,rp1,h1⟩⟩
theorem zBo (ha:WT X Θ a ta) (hb:WW X Θ (.BoolOp .Or (b::j1) pos) tb):WW X Θ (.BoolOp .Or (a::b::j1) pos) (M.tOr ta tb):=by with_unfolding_all exact zMT ha hb
theorem zKk (ha:MT X Θ a ta):MT X Θ (.UnaryOp .Not a pos) (M.QP ta):=(zKR ha).imp fun σ H Q ⟨ρ,σ',S,st,rp,h⟩=>⟨ρ,σ',S,st,rp,zE.bind h fun ρ1 H1 k k' S1 p1 l1 rp1 e h1=>by
 cases e;exact zE.here (b:=!k) h1 rp1 rfl⟩
theorem QK (ha:WT X Θ a ta):WT X Θ (.UnaryOp .Not a pos) (M.QP ta):=by with_unfolding_all exact zKk ha
theorem zDv:MA X Θ [] M.zO:=zGl.imp fun σ H Q ⟨ρ,σ',S,st,rp,h⟩=>zE.here (b:=[]) h rp rfl
theorem zI:WA X Θ [] M.zO:=by with_unfolding_all exact zDv
theorem zBi {e:Expr}{es:List Expr}{r:M.AM} (ha:ME X Θ e ma) (hr:MA X Θ es r) (hs:zu e=true:=by rfl):MA X Θ (e::es) (M.zD ma r) :=
 (zEU ha hr (jq hs)).imp fun σ H Q ⟨ρ,σ',S,st,rp,h⟩=>⟨ρ,σ',S,st,rp,zE.bind h fun ρ1 H1 x X1 S1 p1 l1 rp1 rx h1=>⟨ρ1,σ',S1,st.mono p1 l1,rp1,
  zE.bind h1 fun ρ2 H2 ys Ys S2 p2 l2 rp2 ry h2=>h2.here rp2 ⟨X1,Ys,rfl,rx.mono p2 l2,ry⟩⟩⟩
theorem zC {e:Expr}{es:List Expr}{r:M.AM} (ha:WE X Θ e ma) (hr:WA X Θ es r) (hs:zu e=true:=by rfl):WA X Θ (e::es) (M.zD ma r):=by with_unfolding_all exact zBi (e:=e) (es:=es) (r:=r) ha hr hs
theorem zLD {es:List Expr}{r:M.AM}{x1} (hr:MA X Θ es r):ME X Θ (.Tuple es x1 pos) (M.ZY r):=(zK5 hr).imp fun σ H Q ⟨ρ,σ',S,st,rp,h⟩=>⟨ρ,σ',S,st,rp,zE.bind h fun ρ1 H1 xs Xs S1 p1 l1 rp1 rx h1=>by
 by_cases hl:xs.length <= M.SZ
 ·rw[if_pos hl] at h1
  rw[yf,rx.length] at hl
  exact⟨hl,fun p hp=>h1 ρ1 _ _ (List.prefix_refl _) (Le.new hp _) (rp1.aside hp _) ⟨p,Xs,rfl,SqT.of jB,rx.mono (List.prefix_refl _) (Le.new hp _)⟩⟩
 ·rw[if_neg hl] at h1
  exact h1.elim⟩
theorem qz {es:List Expr}{r:M.AM}{x1} (hr:WA X Θ es r):WE X Θ (.Tuple es x1 pos) (M.ZY r):=by with_unfolding_all exact zLD (es:=es) (r:=r) (x1:=x1) hr
theorem zE.alloc {K:PySem.W.Frag}{ρ:List Addr}{H:Hp}{S:M.S}{ds:List M.D}{xs:List V}{Q:VK} (h:zE K Θ (zG K) ρ H (M.alloc (.lst ds) S) Q) (rp:zT K Θ ρ S H) (r:zH K ρ H ds xs) {p:Addr} (hp:H p=none):Q (.ref p) (upd H p (.lst xs)) :=
 h (ρ++[p]) _ _ (List.prefix_append _ _) (Le.new hp _) (rp.alloc hp ⟨xs,jB,r.mono (List.prefix_append _ _) (Le.new hp _)⟩) ⟨p,rfl,by rw[<- rp.len];simp⟩
theorem zKL {es:List Expr}{r:M.AM} (hr:MA X Θ es r):ME X Θ (.List es pos) (M.ym r):=(zKs hr).imp fun σ H Q ⟨ρ,σ',S,st,rp,h⟩=>⟨ρ,σ',S,st,rp,zE.bind h fun ρ1 H1 xs Xs S1 p1 l1 rp1 rx h1=>by
 by_cases hl:xs.length <= M.SZ
 ·rw[if_pos hl] at h1
  rw[yf,rx.length] at hl
  exact⟨hl,fun p hp=>h1.alloc rp1 rx hp⟩
 ·rw[if_neg hl] at h1
  exact h1.elim⟩
theorem qv {es:List Expr}{r:M.AM} (hr:WA X Θ es r):WE X Θ (.List es pos) (M.ym r):=by with_unfolding_all exact zKL (es:=es) (r:=r) hr
theorem zJd:MO X Θ none M.zEt:=zJE.imp fun σ H Q ⟨ρ,σ',S,st,rp,h⟩=>zE.here (b:=none) h rp rfl
theorem zF2:WO X Θ none M.zEt:=by with_unfolding_all exact zJd
theorem zJY (ha:ME X Θ a ma):MO X Θ (some a) (M.zEq ma):=(zIg ha).imp fun σ H Q ⟨ρ,σ',S,st,rp,h⟩=>⟨ρ,σ',S,st,rp,zE.bind h fun ρ1 H1 x X1 S1 p1 l1 rp1 rx h1=>by
 cases x with
 | int i=>cases rx;exact⟨i,rfl,zE.here (b:=some i) h1 rp1 rfl⟩
 | _=>exact h1.elim⟩
theorem zGk (ha:WE X Θ a ma):WO X Θ (some a) (M.zEq ma):=by with_unfolding_all exact zJY ha
theorem zMR {lo hi:Option Expr}{p2:Pos}{ml mh:M.OM}{r:V->Option Int->Option Int->Hp->VK->Prop} (hr:SlR X r) (ad:∀ ρ H S x X1 l u Q,zT X.K Θ ρ S H->zG X.K ρ H x X1->zE X.K Θ (zG X.K) ρ H (M.slD x l u S) Q->r X1 l u H Q) (ha:ME X Θ a ma) (hl:MO X Θ lo ml) (hh:MO X Θ hi mh) :
  ME X Θ (.Subscript a (.Slice lo hi none p2) pos) (M.eSl ma ml mh):=(zH3 hr ha hl hh).imp fun σ H Q ⟨ρ,σ',S,st,rp,h⟩=>⟨ρ,σ',S,st,rp,zE.bind h fun ρ1 H1 x X1 S1 p1 l1 rp1 rx h1=>⟨ρ1,σ',S1,st.mono p1 l1,rp1,
  zE.bind h1 fun ρ2 H2 l l' S2 p2 l2 rp2 e2 h2=>by
   cases e2
   exact⟨ρ2,σ',S2,st.mono (p1.trans p2) (l1.trans l2),rp2,zE.bind h2 fun ρ3 H3 u u' S3 p3 l3 rp3 e3 h3=>by
    cases e3
    exact ad ρ3 H3 S3 x X1 l u Q rp3 (rx.mono (p2.trans p3) (l2.trans l3)) h3⟩⟩⟩
theorem zJM {lo hi:Option Expr}{p2:Pos}{ml mh:M.OM}{r:V->Option Int->Option Int->Hp->VK->Prop} (hr:SlR X r) (ad:∀ ρ H S x X1 l u Q,zT X.K Θ ρ S H->zG X.K ρ H x X1->zE X.K Θ (zG X.K) ρ H (M.slD x l u S) Q->r X1 l u H Q) (ha:WE X Θ a ma) (hl:WO X Θ lo ml) (hh:WO X Θ hi mh) :
  WE X Θ (.Subscript a (.Slice lo hi none p2) pos) (M.eSl ma ml mh):=by with_unfolding_all exact zMR (lo:=lo) (hi:=hi) (p2:=p2) (ml:=ml) (mh:=mh) (r:=r) hr ad ha hl hh
theorem zIG {x:Str}{p:Pos}{id:String}{e:Expr}{es:List Expr}{f:M.F}{r:List V->Hp->VK->Prop}{m:M.AM} (hc:jh X (.builtin id) r) (ad:AdN X.K Θ f r) (hg:Gl X x) (hm:X.mg x=none) (hv:bootBuiltins x=some (.builtin id)) (ha:MA X Θ (e::es) m)
  (hn:x ≠ "__name__" := by decide) (hdb:(x == ("__debug__" : Str))=false:=by decide) (he:zu e=true:=by rfl) (hpl:es.all zu=true:=by rfl) :
  ME X Θ (.Call (.Name x p) (e::es) [] pos) (M.zX f m):=(zHZ hc hg hm hv ha hn hdb (jq he) (ZB hpl)).imp fun σ H Q ⟨ρ,σ',S,st,rp,h⟩=>⟨ρ,σ',S,st,rp,zE.bind h fun ρ1 H1 xs Xs S1 p1 l1 rp1 rx h1=>ad ρ1 H1 S1 xs Xs Q rp1 rx h1⟩
theorem qV {x:Str}{p:Pos}{id:String}{e:Expr}{es:List Expr}{f:M.F}{r:List V->Hp->VK->Prop}{m:M.AM} (hc:jh X (.builtin id) r) (ad:AdN X.K Θ f r) (hg:Gl X x) (hm:X.mg x=none) (hv:bootBuiltins x=some (.builtin id)) (ha:WA X Θ (e::es) m)
  (hn:x ≠ "__name__" := by decide) (hdb:(x == ("__debug__" : Str))=false:=by decide) (he:zu e=true:=by rfl) (hpl:es.all zu=true:=by rfl) :
  WE X Θ (.Call (.Name x p) (e::es) [] pos) (M.zX f m):=by with_unfolding_all exact zIG (x:=x) (p:=p) (id:=id) (e:=e) (es:=es) (f:=f) (r:=r) (m:=m) hc ad hg hm hv ha hn hdb he hpl
theorem zFx {x:Str}{p:Pos}{T:String}{e:Expr}{es:List Expr}{f:M.F}{r:List V->Hp->VK->Prop}{m:M.AM} (hc:jh X (.type T) r) (ad:AdN X.K Θ f r) (hg:Gl X x) (hm:X.mg x=none) (hv:bootBuiltins x=some (.type T)) (ha:MA X Θ (e::es) m)
  (hn:x ≠ "__name__" := by decide) (hdb:(x == ("__debug__" : Str))=false:=by decide) (he:zu e=true:=by rfl) (hpl:es.all zu=true:=by rfl) :
  ME X Θ (.Call (.Name x p) (e::es) [] pos) (M.zX f m):=(zFo hc hg hm hv ha hn hdb (jq he) (ZB hpl)).imp fun σ H Q ⟨ρ,σ',S,st,rp,h⟩=>⟨ρ,σ',S,st,rp,zE.bind h fun ρ1 H1 xs Xs S1 p1 l1 rp1 rx h1=>ad ρ1 H1 S1 xs Xs Q rp1 rx h1⟩
theorem yF {x:Str}{p:Pos}{T:String}{e:Expr}{es:List Expr}{f:M.F}{r:List V->Hp->VK->Prop}{m:M.AM} (hc:jh X (.type T) r) (ad:AdN X.K Θ f r) (hg:Gl X x) (hm:X.mg x=none) (hv:bootBuiltins x=some (.type T)) (ha:WA X Θ (e::es) m)
  (hn:x ≠ "__name__" := by decide) (hdb:(x == ("__debug__" : Str))=false:=by decide) (he:zu e=true:=by rfl) (hpl:es.all zu=true:=by rfl) :
  WE X Θ (.Call (.Name x p) (e::es) [] pos) (M.zX f m):=by with_unfolding_all exact zFx (x:=x) (p:=p) (T:=T) (e:=e) (es:=es) (f:=f) (r:=r) (m:=m) hc ad hg hm hv ha hn hdb he hpl
theorem zI2 {K:PySem.W.Frag}{ρ:List Addr}{H:Hp}{S:M.S}{k:M.Kd}{x:M.D}{v:V} (rp:zT K Θ ρ S H) (r:zG K ρ H x v) (h:M.Qk k x S=true):tyV K (j5 k) v H:=by
 cases x with
 | str z=>obtain⟨rfl,_⟩:=r;cases k<;>first | rfl | cases h
 | ro ds =>
  obtain⟨a,xs,rfl,q,_⟩:=r
  cases k<;>first | exact .inl ⟨rfl,xs,q.sq⟩ | cases h
 | ref i =>
  obtain⟨a,rfl,e⟩:=r
  cases q:S[i]? with
  | none=>simp[M.Qk,q] at h
  | some o =>
   cases o with
   | lst xs =>
    obtain⟨b,e1,zs,e2,_⟩:=rp.obj _ _ q
    rw[e] at e1;cases e1
    cases k<;>first | exact .inl ⟨rfl,zs,SqL.of e2⟩ | simp[M.Qk,q] at h
   | dct xs =>
    obtain⟨b,e1,zs,e2,_⟩:=rp.obj _ _ q
    rw[e] at e1;cases e1
    cases k<;>first | exact .inr (.inr (.inl ⟨rfl,.inl ⟨zs,e2⟩⟩)) | simp[M.Qk,q] at h
   | fdc _=>simp[M.Qk,q] at h
   | ftt _=>simp[M.Qk,q] at h
   | dtt xs =>
    obtain⟨b,e1,zs,e2,_⟩:=rp.obj _ _ q
    rw[e] at e1;cases e1
    cases k<;>first | exact .inr (.inr (.inl ⟨rfl,.inr (.inr ⟨_,e2,fun h z=>let ⟨_,_,_,o,_,_,z1,z2,_⟩:=z;⟨o,z1,z2⟩⟩)⟩)) | simp[M.Qk,q] at h
   | ins c fs=>simp[M.Qk,q] at h
 | _=>cases h
theorem zMq {k:M.Kd}{T:String}{f:M.D->M.F}{r:V->List V->Hp->VK->Prop}{o e:Expr}{es:List Expr}{mo:M.EM}{m:M.AM}{name:Str}{apos cpos:Pos}{id:String} (pa:PlainAttrs T) (slot:Slot T name id) (hty:typeOf (.builtin id)=pure (.type "method_descriptor")) (hm:MtR X id r) (ad:AdM X.K Θ f r) (hT:T=j5 k) (ho:ME X Θ o mo) (ha:MA X Θ (e::es) m)
  (hbase:attributeBase o name X.env (eval o X.env)=eval o X.env:=by rfl)
  (hfew:(e::es).length < 30:=by exact Nat.le_of_ble_eq_true rfl) (hline:(apos.endLine == cpos.line)=true:=by rfl) (hs:zu e=true:=by rfl) (hplain:es.all zu=true:=by rfl) :
  ME X Θ (.Call (.Attribute o name apos) (e::es) [] cpos) (M.eM k f mo m):=(zIS pa slot hty hm ho ha hbase (zCx (by rw[List.all_cons,hs,hplain];rfl) hfew) hline (jq hs) (ZB hplain)).imp fun σ H Q ⟨ρ,σ',S,st,rp,h⟩=>⟨ρ,σ',S,st,rp,zE.bind h fun ρ1 H1 x X1 S1 p1 l1 rp1 rx h1=>by
 cases ht:M.Qk k x S1 with
 | false=>rw[ht] at h1;exact h1.elim
 | true =>
  rw[ht] at h1
  exact⟨hT ▸ zI2 rp1 rx ht,ρ1,σ',S1,st.mono p1 l1,rp1,zE.bind h1 fun ρ2 H2 xs Xs S2 p2 l2 rp2 rxs h2=>ad ρ2 H2 S2 x xs X1 Xs Q rp2 (rx.mono p2 l2) rxs h2⟩⟩
theorem zBN {k:M.Kd}{T:String}{f:M.D->M.F}{r:V->List V->Hp->VK->Prop}{o e:Expr}{es:List Expr}{mo:M.EM}{m:M.AM}{name:Str}{apos cpos:Pos}{id:String} (pa:PlainAttrs T) (slot:Slot T name id) (hty:typeOf (.builtin id)=pure (.type "method_descriptor")) (hm:MtR X id r) (ad:AdM X.K Θ f r) (hT:T=j5 k) (ho:WE X Θ o mo) (ha:WA X Θ (e::es) m)
  (hbase:attributeBase o name X.env (eval o X.env)=eval o X.env:=by rfl)
  (hfew:(e::es).length < 30:=by exact Nat.le_of_ble_eq_true rfl) (hline:(apos.endLine == cpos.line)=true:=by rfl) (hs:zu e=true:=by rfl) (hplain:es.all zu=true:=by rfl) :
  WE X Θ (.Call (.Attribute o name apos) (e::es) [] cpos) (M.eM k f mo m):=by with_unfolding_all exact zMq (k:=k) (T:=T) (f:=f) (r:=r) (o:=o) (e:=e) (es:=es) (mo:=mo) (m:=m) (name:=name) (apos:=apos) (cpos:=cpos) (id:=id) pa slot hty hm ad hT ho ha hbase hfew hline hs hplain
end
end L2
namespace L2
open PySem PySem.Spec PyProof.Rows
noncomputable def zm (K:PySem.W.Frag) (Θ:Tab) (ρ:List Addr) (H:Hp):M.RS->Zo->Prop
 | .nx σ1 S1,D=>∀ ρ' H' σ,ρ <+: ρ'->Le H H'->zT K Θ ρ' S1 H'->jE K ρ' H' σ1 σ->D.nx σ H'
 | .rt d S1,D=>∀ ρ' H' v,ρ <+: ρ'->Le H H'->zT K Θ ρ' S1 H'->zG K ρ' H' d v->D.rt v H'
 | .bk σ1 S1,D=>∀ ρ' H' σ,ρ <+: ρ'->Le H H'->zT K Θ ρ' S1 H'->jE K ρ' H' σ1 σ->D.bk σ H'
 | .ct σ1 S1,D=>∀ ρ' H' σ,ρ <+: ρ'->Le H H'->zT K Θ ρ' S1 H'->jE K ρ' H' σ1 σ->D.ct σ H'
 | .exc _ _ _,_=>False
 | .no,_=>False
noncomputable def RdS (K:PySem.W.Frag) (Θ:Tab) (m:M.SM):TS:=fun D σ H=>∃ ρ σ' S,jE K ρ H σ' σ/\zT K Θ ρ S H/\zm K Θ ρ H (m σ' S) D
noncomputable abbrev MS (X:Cx) (Θ:Tab) (st:Stmt) (m:M.SM):Prop:=PS X st (RdS X.K Θ m)
@[irreducible] noncomputable def WS (X:Cx) (Θ:Tab) (st:Stmt) (m:M.SM):Prop:=MS X Θ st m
noncomputable abbrev MSs (X:Cx) (Θ:Tab) (st:List Stmt) (m:M.SM):Prop:=PSs X st (RdS X.K Θ m)
@[irreducible] noncomputable def WSs (X:Cx) (Θ:Tab) (st:List Stmt) (m:M.SM):Prop:=MSs X Θ st m
theorem PS.imp {X:Cx}{e:Stmt}{t t':TS} (h:PS X e t) (i:∀ D σ H,t' D σ H->t D σ H):PS X e t':=fun pins s σ H D I q=>h pins s σ H D I (i D σ H q)
theorem PSs.imp {X:Cx}{e:List Stmt}{t t':TS} (h:PSs X e t) (i:∀ D σ H,t' D σ H->t D σ H):PSs X e t':=fun pins s σ H D I q=>h pins s σ H D I (i D σ H q)
section
variable {K:PySem.W.Frag}{Θ:Tab}{ρ ρ':List Addr}{H H':Hp}{S:M.S}{α β:Type}{Rl:List Addr->Hp->α->β->Prop}{Q:β->Hp->Prop}{D D':Zo}
theorem zm.weak {r:M.RS} (h:zm K Θ ρ H r D) (hρ:ρ <+: ρ') (le:Le H H'):zm K Θ ρ' H' r D:=by
 cases r with
 | nx a s=>exact fun ρ2 H2 b p l=>h ρ2 H2 b (hρ.trans p) (le.trans l)
 | rt a s=>exact fun ρ2 H2 b p l=>h ρ2 H2 b (hρ.trans p) (le.trans l)
 | bk a s=>exact fun ρ2 H2 b p l=>h ρ2 H2 b (hρ.trans p) (le.trans l)
 | ct a s=>exact fun ρ2 H2 b p l=>h ρ2 H2 b (hρ.trans p) (le.trans l)
 | exc e a s=>exact h
 | no=>exact h
theorem zm.stm {r:M.R α}{σ:M.St}{f:α->M.S->M.RS} (h:zm K Θ ρ H (r.stm σ f) D)
  (k:∀ ρ' H' a b S',ρ <+: ρ'->Le H H'->zT K Θ ρ' S' H'->Rl ρ' H' a b->zm K Θ ρ' H' (f a S') D->Q b H'):zE K Θ Rl ρ H r Q:=by
 cases r with
 | ok a s=>exact fun ρ2 H2 b p l rp rl=>k ρ2 H2 a b s p l rp rl (zm.weak h p l)
 | exc e s=>exact h
 | no=>exact h
theorem zm.nx {σ1:M.St}{σ:St} (h:zm K Θ ρ H (.nx σ1 S) D) (rp:zT K Θ ρ S H) (st:jE K ρ H σ1 σ):D.nx σ H:=h ρ H σ (List.prefix_refl _) (Le.refl _) rp st
theorem zm.rt {d:M.D}{v:V} (h:zm K Θ ρ H (.rt d S) D) (rp:zT K Θ ρ S H) (r:zG K ρ H d v):D.rt v H:=h ρ H v (List.prefix_refl _) (Le.refl _) rp r
end
section
variable {X:Cx}{Θ:Tab}{e:Expr}{pos:Pos}{m:M.EM}{st:Stmt}{j1:List Stmt}{ms mr:M.SM}
theorem zJo:MSs X Θ [] M.jo:=zJA.imp fun D σ H ⟨ρ,σ',S,st,rp,h⟩=>h.nx rp st
theorem jD:WSs X Θ [] M.jo:=by with_unfolding_all exact zJo
theorem zIm (h:MS X Θ st ms):MSs X Θ [st] ms:=zI8 h
theorem zR (h:WS X Θ st ms):WSs X Θ [st] ms:=by with_unfolding_all exact zIm h
theorem zH5 (h1:MS X Θ st ms) (h2:MSs X Θ j1 mr):MSs X Θ (st::j1) (M.zk ms mr):=(zG6 h1 h2).imp fun D σ H ⟨ρ,σ',S,st,rp,h⟩=>⟨ρ,σ',S,st,rp,by
 have h':zm X.K Θ ρ H ((ms σ' S).then mr) D:=h
 revert h'
 cases ms σ' S with
 | nx a s=>exact fun h' ρ2 H2 σ2 p l rp2 st2=>⟨ρ2,a,s,st2,rp2,zm.weak h' p l⟩
 | rt a s=>exact fun h'=>h'
 | bk a s=>exact fun h'=>h'
 | ct a s=>exact fun h'=>h'
 | exc e a s=>exact fun h'=>h'
 | no=>exact fun h'=>h'⟩
theorem zK (h1:WS X Θ st ms) (h2:WSs X Θ j1 mr):WSs X Θ (st::j1) (M.zk ms mr):=by with_unfolding_all exact zH5 h1 h2
theorem zJc (he:ME X Θ e m) (hs:swapsWith e none pos.line X.env=pure false:=by rfl):MS X Θ (.Expr e pos) (M.yg m):=(zJb he hs).imp fun D σ H ⟨ρ,σ',S,st,rp,h⟩=>⟨ρ,σ',S,st,rp,zm.stm h fun ρ1 H1 x X1 S1 p1 l1 rp1 rx h1=>h1.nx rp1 (st.mono p1 l1)⟩
theorem QV (he:WE X Θ e m) (hs:swapsWith e none pos.line X.env=pure false:=by rfl):WS X Θ (.Expr e pos) (M.yg m):=by with_unfolding_all exact zJc he hs
theorem zK8 (he:ME X Θ e m):MS X Θ (.Return (some e) pos) (M.jX m):=(zLK he).imp fun D σ H ⟨ρ,σ',S,st,rp,h⟩=>⟨ρ,σ',S,st,rp,zm.stm h fun ρ1 H1 x X1 S1 p1 l1 rp1 rx h1=>h1.rt rp1 rx⟩
theorem zo (he:WE X Θ e m):WS X Θ (.Return (some e) pos) (M.jX m):=by with_unfolding_all exact zK8 he
theorem zLG {i:Nat}{x:Str}{pos':Pos} (hN:X.N.Nodup) (hi:X.N[i]? = some x) (hx:Loc X.env.scope x) (he:ME X Θ e m) (hs:swapsWith e (some (.Name x pos')) pos.line X.env=pure false:=by kernel_rfl) (hf:X.fn x=true\/X.env.scope.names.lookup x=some .local:=by first | exact .inl rfl | exact .inr rfl | assumption) :
  MS X Θ (.Assign [.Name x pos'] e pos) (M.jj i m):=(zK4 hN hi hx he hs hf).imp fun D σ H ⟨ρ,σ',S,st,rp,h⟩=>⟨ρ,σ',S,st,rp,zm.stm h fun ρ1 H1 x X1 S1 p1 l1 rp1 rx h1=>h1.nx rp1 ((st.mono p1 l1).set rx i)⟩
theorem jT {i:Nat}{x:Str}{pos':Pos} (hN:X.N.Nodup) (hi:X.N[i]? = some x) (hx:Loc X.env.scope x) (he:WE X Θ e m) (hs:swapsWith e (some (.Name x pos')) pos.line X.env=pure false:=by kernel_rfl) (hf:X.fn x=true\/X.env.scope.names.lookup x=some .local:=by first | exact .inl rfl | exact .inr rfl | assumption) :
  WS X Θ (.Assign [.Name x pos'] e pos) (M.jj i m):=by with_unfolding_all exact zLG (i:=i) (x:=x) (pos':=pos') hN hi hx he hs hf
theorem zLm {c:Expr}{a b:List Stmt}{tc:M.TM}{ma mb:M.SM} (hc:MT X Θ c tc) (ha:MSs X Θ a ma) (hb:MSs X Θ b mb):MS X Θ (.If c a b pos) (M.sIf tc ma mb):=(zL4 hc ha hb).imp fun D σ H ⟨ρ,σ',S,st,rp,h⟩=>⟨ρ,σ',S,st,rp,zm.stm h fun ρ1 H1 k k' S1 p1 l1 rp1 ek h1=>by
 cases ek
 cases k with
 | true=>exact zB0 ⟨ρ1,σ',S1,st.mono p1 l1,rp1,h1⟩
 | false=>exact zBb ⟨ρ1,σ',S1,st.mono p1 l1,rp1,h1⟩⟩
theorem jY {c:Expr}{a b:List Stmt}{tc:M.TM}{ma mb:M.SM} (hc:WT X Θ c tc) (ha:WSs X Θ a ma) (hb:WSs X Θ b mb):WS X Θ (.If c a b pos) (M.sIf tc ma mb):=by with_unfolding_all exact zLm (c:=c) (a:=a) (b:=b) (tc:=tc) (ma:=ma) (mb:=mb) hc ha hb
theorem zID:MS X Θ st (fun _ _=>.no):=zH8.imp fun D σ H ⟨ρ,σ',S,st,rp,h⟩=>h.elim
end
noncomputable def RdG (K:PySem.W.Frag) (Θ:Tab) (js:List Nat) (g:M.GM):TG:=fun v σ H Q=>∃ ρ σ' S d,jE K ρ H σ' σ/\zT K Θ ρ S H/\zG K ρ H d v/\∃ σ1,g d σ'=some σ1 /\
 ∀ H' σ2,Le H H'->zT K Θ ρ S H'->jE K ρ H' σ1 σ2->σ2.length=σ.length->(∀ j,j∉js->σ2[j]? = σ[j]?)->Q σ2 H'
noncomputable abbrev MG (X:Cx) (Θ:Tab) (js:List Nat) (tg:Expr) (g:M.GM):Prop:=PG X tg (RdG X.K Θ js g)
@[irreducible] noncomputable def WG (X:Cx) (Θ:Tab) (js:List Nat) (tg:Expr) (g:M.GM):Prop:=MG X Θ js tg g
theorem PG.imp {X:Cx}{e:Expr}{t t':TG} (h:PG X e t) (i:∀ v σ H Q,t' v σ H Q->t v σ H Q):PG X e t':=fun pins s σ H v u Q I r q=>h pins s σ H v u Q I r (i v σ H Q q)
theorem zJD {X:Cx}{Θ:Tab}{pos:Pos}{i:Nat}{x:Str} (hN:X.N.Nodup) (hi:X.N[i]? = some x) (hx:Loc X.env.scope x) (hf:X.fn x=true\/X.env.scope.names.lookup x=some .local:=by first | exact .inl rfl | exact .inr rfl | assumption) :
  MG X Θ [i] (.Name x pos) (M.zt i):=(zI1 hN hi hx hf).imp fun v σ H Q ⟨ρ,σ',S,d,st,rp,rv,σ1,e,h⟩=>by
 cases e
 exact h H _ (Le.refl _) rp (st.set rv i) (by rw[List.length_set]) fun j hj=>List.getElem?_set_ne (fun z=>hj (by rw[z];simp))
theorem j8 {X:Cx}{Θ:Tab}{pos:Pos}{i:Nat}{x:Str} (hN:X.N.Nodup) (hi:X.N[i]? = some x) (hx:Loc X.env.scope x) (hf:X.fn x=true\/X.env.scope.names.lookup x=some .local:=by first | exact .inl rfl | exact .inr rfl | assumption) :
  WG X Θ [i] (.Name x pos) (M.zt i):=by with_unfolding_all exact zJD (X:=X) (Θ:=Θ) (pos:=pos) (i:=i) (x:=x) hN hi hx hf
noncomputable def zK3 (K:PySem.W.Frag) (Θ:Tab) (js:List Nat) (g:M.GMs):TGs:=fun vs σ H Q=>∃ ρ σ' S ds,jE K ρ H σ' σ/\zT K Θ ρ S H/\zH K ρ H ds vs/\∃ σ1,g ds σ'=some σ1 /\
 ∀ H' σ2,Le H H'->zT K Θ ρ S H'->jE K ρ H' σ1 σ2->σ2.length=σ.length->(∀ j,j∉js->σ2[j]? = σ[j]?)->Q σ2 H'
noncomputable abbrev MGs (X:Cx) (Θ:Tab) (js:List Nat) (ts:List Expr) (g:M.GMs):Prop:=PGs X ts (zK3 X.K Θ js g)
@[irreducible] noncomputable def WGs (X:Cx) (Θ:Tab) (js:List Nat) (ts:List Expr) (g:M.GMs):Prop:=MGs X Θ js ts g
theorem PGs.imp {X:Cx}{e:List Expr}{t t':TGs} (h:PGs X e t) (i:∀ v σ H Q,t' v σ H Q->t v σ H Q):PGs X e t':=fun pins s σ H v u Q I r q=>h pins s σ H v u Q I r (i v σ H Q q)
theorem zIk {X:Cx}{Θ:Tab}:MGs X Θ [] [] M.JQ:=zJp.imp fun vs σ H Q ⟨ρ,σ',S,ds,st,rp,rv,σ1,e,h⟩=>by
 cases ds with
 | nil=>cases rv;cases e;exact⟨rfl,h H σ (Le.refl _) rp st rfl fun _ _=>rfl⟩
 | cons d ds=>cases e
theorem zF3 {X:Cx}{Θ:Tab}:WGs X Θ [] [] M.JQ:=by with_unfolding_all exact zIk (X:=X) (Θ:=Θ)
theorem zHU {X:Cx}{Θ:Tab}{e:Expr}{es:List Expr}{g:M.GM}{gs:M.GMs}{js ks:List Nat} (h1:MG X Θ js e g) (h2:MGs X Θ ks es gs) (hp:∀ {t:TG}{u:TGs},PG X e t->PGs X es u->PGs X (e::es) (qd t u)):MGs X Θ (js++ks) (e::es) (M.qd g gs) :=
 (hp h1 h2).imp fun vs σ H Q ⟨ρ,σ',S,ds,st,rp,rv,σ1,eq,h⟩=>by
  cases ds with
  | nil=>cases eq
  | cons d ds =>
   obtain⟨y,ys,rfl,r1,r2⟩:=rv
   have eq':(match g d σ' with | some σ'=>gs ds σ' | none=>none)=some σ1:=eq
   cases q:g d σ' with
   | none=>rw[q] at eq';cases eq'
   | some σm =>
    rw[q] at eq'
    refine⟨y,ys,rfl,ρ,σ',S,d,st,rp,r1,σm,q,fun H' σ2 le rp2 st2 hl hj=>⟨ρ,σm,S,ds,st2,rp2,r2.mono (List.prefix_refl _) le,σ1,eq',fun H'' σ3 le2 rp3 st3 hl3 hj3=>h H'' σ3 (le.trans le2) rp3 st3 (hl3.trans hl) fun j hjk=>?_⟩⟩
    rw[List.mem_append] at hjk
    rw[hj3 j fun z=>hjk (.inr z),hj j fun z=>hjk (.inl z)]
theorem zA7 {X:Cx}{Θ:Tab}{e:Expr}{es:List Expr}{g:M.GM}{gs:M.GMs}{js ks:List Nat} (h1:WG X Θ js e g) (h2:WGs X Θ ks es gs) (hp:∀ {t:TG}{u:TGs},PG X e t->PGs X es u->PGs X (e::es) (qd t u)):WGs X Θ (js++ks) (e::es) (M.qd g gs):=by with_unfolding_all exact zHU (X:=X) (Θ:=Θ) (e:=e) (es:=es) (g:=g) (gs:=gs) (js:=js) (ks:=ks) h1 h2 hp
theorem zKu {X:Cx}{Θ:Tab}{es:List Expr}{g:M.GMs}{js:List Nat}{tg:Expr}{n:Nat} (h:PG X tg (JS X.K n (zK3 X.K Θ js g))) (hn:∀ ds σ σ1,g ds σ=some σ1->ds.length=n):MG X Θ js tg (M.JS g):=h.imp fun v σ H Q ⟨ρ,σ',S,d,st,rp,rv,σ1,eq,h⟩=>by
 cases d with
 | tup ds =>
  obtain⟨a,xs,rfl,hq,r⟩:=rv
  exact⟨a,xs,rfl,hq,by rw[<- r.length];exact hn ds σ' σ1 eq,ρ,σ',S,ds,st,rp,r,σ1,eq,h⟩
 | _=>cases eq
structure ItR (K:PySem.W.Frag) (Θ:Tab) (ρ:List Addr) (H:Hp) (J:It) (xs:List M.D) (g:M.Gd):Prop where
 go:∀ (i:Nat) ρ' S' H',ρ <+: ρ'->Le H H'->zT K Θ ρ' S' H'->M.zc g S'=true->i < xs.length->J.go i H'
 yld:∀ (i:Nat) ρ' S' H' v H2,ρ <+: ρ'->Le H H'->zT K Θ ρ' S' H'->M.zc g S'=true->i < xs.length->J.yld i H' v H2->∃ d,xs[i]? = some d/\zG K ρ' H2 d v/\Le H' H2/\zT K Θ ρ' S' H2
 stop:∀ ρ' S' H',ρ <+: ρ'->Le H H'->zT K Θ ρ' S' H'->M.zc g S'=true->J.stop xs.length H'
noncomputable def RdI (K:PySem.W.Frag) (Θ:Tab) (m:M.IM):TI:=fun σ H R=>∃ ρ σ' S,jE K ρ H σ' σ/\zT K Θ ρ S H /\
 zE K Θ (fun ρ' H' (p:List M.D×M.Gd) (J:It)=>ItR K Θ ρ' H' J p.1 p.2) ρ H ((m σ' S).bind fun p s=>if M.zc p.2 s then .ok p s else .no) R
noncomputable abbrev MI (X:Cx) (Θ:Tab) (tg iter:Expr) (m:M.IM):Prop:=PI X tg iter (RdI X.K Θ m)
@[irreducible] noncomputable def WI (X:Cx) (Θ:Tab) (tg iter:Expr) (m:M.IM):Prop:=MI X Θ tg iter m
theorem PI.imp {X:Cx}{tg e:Expr}{t t':TI} (h:PI X tg e t) (i:∀ σ H R,t' σ H R->t σ H R):PI X tg e t':=fun pins s σ H R I q=>h pins s σ H R I (i σ H R q)
theorem PI.or {X:Cx}{tg e:Expr}{t t':TI} (h:PI X tg e t) (h':PI X tg e t'):PI X tg e (fun σ H R=>t σ H R\/t' σ H R):=fun pins s σ H R I q=>by
 rcases q with q | q
 ·exact h pins s σ H R I q
 ·exact h' pins s σ H R I q
section
variable {X:Cx}{Θ:Tab}{tg e:Expr}{m:M.EM}
theorem zHB {K:PySem.W.Frag}{ρ:List Addr}{H:Hp}{i:Nat}{a:Addr}{ds:List M.D} (ha:ρ[i]? = some a):ItR K Θ ρ H (Itl K a) ds [(i,.lst ds)]:=by
 have key:∀ {ρ':List Addr}{S':M.S}{H':Hp},ρ <+: ρ'->zT K Θ ρ' S' H'->M.zc [(i,.lst ds)] S'=true->∃ zs,H' a=some (.lst zs)/\zH K ρ' H' ds zs:=fun {ρ' S' H'} p rp g=>by
  have g':S'[i]? = some (M.O.lst ds):=by simpa [M.zc] using g
  obtain⟨b,e1,zs,e2,r⟩:=rp.obj i _ g'
  rw[ZZ p ha] at e1;cases e1
  exact⟨zs,e2,r⟩
 refine⟨fun j ρ' S' H' p l rp g hj=>?_,fun j ρ' S' H' v H2 p l rp g hj y=>?_,fun ρ' S' H' p l rp g=>?_⟩
 ·obtain⟨zs,e,r⟩:=key p rp g
  obtain⟨v,e1,_⟩:=r.get (i:=j) (d:=ds[j]) (by simp[hj])
  exact⟨zs,v,SqL.of e,e1⟩
 ·obtain⟨zs,e,r⟩:=key p rp g
  obtain⟨v',e1,rv⟩:=r.get (i:=j) (d:=ds[j]) (by simp[hj])
  obtain⟨rfl,y2⟩:=y
  have y3:=y2 zs (SqL.of e)
  rw[e1] at y3;cases y3
  exact⟨ds[j],by simp[hj],rv,Le.refl _,rp⟩
 ·obtain⟨zs,e,r⟩:=key p rp g
  exact⟨zs,SqL.of e,Nat.le_of_eq r.length.symm⟩
theorem zLL {K:PySem.W.Frag}{ρ:List Addr}{H:Hp}{a:Addr}{ds:List M.D}{xs:List V} (hq:Zr K H a xs) (r:zH K ρ H ds xs):ItR K Θ ρ H (Itl K a) ds []:=by
 refine⟨fun j ρ' S' H' p l rp g hj=>?_,fun j ρ' S' H' v H2 p l rp g hj y=>?_,fun ρ' S' H' p l rp g=>?_⟩
 ·obtain⟨v,e1,_⟩:=r.get (i:=j) (d:=ds[j]) (by simp[hj])
  exact⟨xs,v,(l.rol hq).sq,e1⟩
 ·obtain⟨v',e1,rv⟩:=(r.mono p l).get (i:=j) (d:=ds[j]) (by simp[hj])
  obtain⟨rfl,y2⟩:=y
  have y3:=y2 xs (l.rol hq).sq
  rw[e1] at y3;cases y3
  exact⟨ds[j],by simp[hj],rv,Le.refl _,rp⟩
 ·exact⟨xs,(l.rol hq).sq,Nat.le_of_eq r.length.symm⟩
theorem zJC {K:PySem.W.Frag}{ρ:List Addr}{H:Hp}{a:Addr}{ds:List M.D}{xs:List V} (hq:SqT K H a xs) (r:zH K ρ H ds xs):ItR K Θ ρ H (Itt K a) ds []:=by
 refine⟨fun j ρ' S' H' p l rp g hj=>?_,fun j ρ' S' H' v H2 p l rp g hj y=>?_,fun ρ' S' H' p l rp g=>?_⟩
 ·obtain⟨v,e1,_⟩:=r.get (i:=j) (d:=ds[j]) (by simp[hj])
  exact⟨xs,v,l.sqT hq,e1⟩
 ·obtain⟨v',e1,rv⟩:=(r.mono p l).get (i:=j) (d:=ds[j]) (by simp[hj])
  obtain⟨rfl,y2⟩:=y
  have y3:=y2 xs (l.sqT hq)
  rw[e1] at y3;cases y3
  exact⟨ds[j],by simp[hj],rv,Le.refl _,rp⟩
 ·exact⟨xs,l.sqT hq,Nat.le_of_eq r.length.symm⟩
theorem zIr {K:PySem.W.Frag}{ρ:List Addr}{H:Hp}{x:M.T} (ok:okT x):ItR K Θ ρ H (Its (ofT x)) (x.map fun c=>.str [c]) []:=by
 refine⟨fun j ρ' S' H' p l rp g hj=>?_,fun j ρ' S' H' v H2 p l rp g hj y=>?_,fun ρ' S' H' p l rp g=>?_⟩
 ·rw[List.length_map] at hj
  show j < (ofT x).length
  rw[jp];exact hj
 ·obtain⟨rfl,c,hc,rfl⟩:=y
  have hc':x[j]? = some c:=by simpa [ofT] using hc
  exact⟨.str [c],by rw[List.getElem?_map,hc'];rfl,⟨rfl,J7 ok fun d hd=>by rw[List.mem_singleton.mp hd];exact List.mem_of_getElem? hc'⟩,Le.refl _,rp⟩
 ·show (ofT x).length <= _
  rw[jp,List.length_map];exact Nat.le_refl _
theorem zGA {K:PySem.W.Frag}{ρ:List Addr}{H:Hp}{lo hi:Int}:ItR K Θ ρ H (Itr lo (hi - lo).toNat) (M.jw lo hi) []:=by
 refine⟨fun j ρ' S' H' p l rp g hj=>?_,fun j ρ' S' H' v H2 p l rp g hj y=>?_,fun ρ' S' H' p l rp g=>?_⟩
 ·show j < _
  simpa [M.jw] using hj
 ·obtain⟨rfl,rfl⟩:=y
  have hj':j < (hi - lo).toNat:=by simpa [M.jw] using hj
  exact⟨.int (lo+j),by unfold M.jw;rw[List.getElem?_map,List.getElem?_range hj'];rfl,rfl,Le.refl _,rp⟩
 ·show _ <= _
  simp[M.jw]
theorem zMj (he:ME X Θ e m):MI X Θ tg e (M.iE m):=(PI.or (zIn he) (PI.or (zLa he) (zK7 he))).imp fun σ H R ⟨ρ,σ',S,st,rp,h⟩=>by
 have h':zE X.K Θ _ ρ H (((m σ' S).bind M.itD).bind fun p s=>if M.zc p.2 s then .ok p s else .no) R:=h
 clear h
 cases hm:m σ' S with
 | no=>rw[hm] at h';exact h'.elim
 | exc a s=>rw[hm] at h';exact h'.elim
 | ok d S1 =>
  rw[hm] at h'
  have go:∀ {Q:VK},(∀ ρ1 H1 v,ρ <+: ρ1->Le H H1->zT X.K Θ ρ1 S1 H1->zG X.K ρ1 H1 d v->Q v H1)->RdE X.K Θ m σ H Q:=fun q=>⟨ρ,σ',S,st,rp,by rw[hm];exact q⟩
  cases d with
  | str x =>
   refine .inr (.inr (go fun ρ1 H1 v p l rp1 rv=>?_))
   have h2:zE X.K Θ _ ρ H ((if x.length <= M.SZ then .ok (x.map fun c=>M.D.str [c],[]) S1 else M.R.no).bind fun p s=>if M.zc p.2 s then .ok p s else .no) R:=h'
   by_cases hl:x.length <= M.SZ
   ·rw[if_pos hl] at h2
    exact⟨ofT x,rv.1,h2 ρ1 H1 _ p l rp1 (zIr rv.2)⟩
   ·rw[if_neg hl] at h2
    exact h2.elim
  | tup ds =>
   refine .inr (.inl (go fun ρ1 H1 v p l rp1 rv=>?_))
   obtain⟨a,xs,rfl,hq,r⟩:=rv
   exact⟨a,rfl,⟨xs,hq⟩,h' ρ1 H1 _ p l rp1 (zJC hq r)⟩
  | ro ds =>
   refine .inl (go fun ρ1 H1 v p l rp1 rv=>?_)
   obtain⟨a,xs,rfl,hq,r⟩:=rv
   exact⟨a,rfl,⟨xs,hq.sq⟩,h' ρ1 H1 _ p l rp1 (zLL hq r)⟩
  | ref i =>
   have h2:zE X.K Θ _ ρ H ((match S1[i]? with
    | some (.lst xs)=>M.R.ok (xs,[(i,M.O.lst xs)]) S1
    | _=>.no).bind fun p s=>if M.zc p.2 s then .ok p s else .no) R:=h'
   cases q:S1[i]? with
   | none=>rw[q] at h2;exact h2.elim
   | some o =>
    rw[q] at h2
    cases o with
    | lst xs =>
     refine .inl (go fun ρ1 H1 v p l rp1 rv=>?_)
     obtain⟨a,rfl,e1⟩:=rv
     obtain⟨b,e2,zs,e3,r⟩:=rp1.obj i _ q
     rw[e1] at e2;cases e2
     have hg:M.zc [(i,M.O.lst xs)] S1=true:=by simp[M.zc,q]
     have h3:zE X.K Θ _ ρ H (if M.zc [(i,M.O.lst xs)] S1 then M.R.ok (xs,[(i,M.O.lst xs)]) S1 else .no) R:=h2
     rw[if_pos hg] at h3
     exact⟨a,rfl,⟨zs,SqL.of e3⟩,h3 ρ1 H1 _ p l rp1 (zHB e1)⟩
    | dct kvs=>exact h2.elim
    | fdc _=>exact h2.elim
    | dtt _=>exact h2.elim
    | ftt _=>exact h2.elim
    | ins c fs=>exact h2.elim
  | non=>exact h'.elim
  | bl b=>exact h'.elim
  | int b=>exact h'.elim
  | ty b=>exact h'.elim
theorem zLV (he:WE X Θ e m):WI X Θ tg e (M.iE m):=by with_unfolding_all exact zMj he
theorem zFk {p pos:Pos} (hg:Gl X "range") (hm:X.mg "range" = none) (he:ME X Θ e m) (hs:zu e=true:=by rfl):MI X Θ tg (.Call (.Name "range" p) [e] [] pos) (M.jf m) :=
 (zFh hg hm (zBi he zDv hs) (jq hs)).imp fun σ H R ⟨ρ,σ',S,st,rp,h⟩=>⟨ρ,σ',S,st,rp,by
  have h':zE X.K Θ _ ρ H (((m σ' S).bind fun x s=>match x with
   | .int j=>if j.natAbs < 4611686018427387904 then M.R.ok (M.jw 0 j,([]:M.Gd)) s else .no
   | _=>.no).bind fun p s=>if M.zc p.2 s then .ok p s else .no) R:=h
  show zE X.K Θ _ ρ H ((m σ' S).bind fun x s=>(M.R.ok [] s).bind fun xs s=>.ok (x::xs) s) _
  cases hm:m σ' S with
  | no=>rw[hm] at h';exact h'.elim
  | exc a s=>rw[hm] at h';exact h'.elim
  | ok d S1 =>
   rw[hm] at h'
   intro ρ1 H1 vs p l rp1 rv
   obtain⟨v,ys,rfl,rv,hy⟩:=rv
   cases hy
   cases d with
   | int j =>
    cases rv
    have h2:zE X.K Θ _ ρ H ((if j.natAbs < 4611686018427387904 then M.R.ok (M.jw 0 j,([]:M.Gd)) S1 else .no).bind fun p s=>if M.zc p.2 s then .ok p s else .no) R:=h'
    by_cases hj:j.natAbs < 4611686018427387904
    ·rw[if_pos hj] at h2
     refine⟨j,rfl,by omega,by omega,?_⟩
     have:=h2 ρ1 H1 _ p l rp1 (zGA (lo:=0) (hi:=j))
     rw[Int.sub_zero] at this
     exact this
    ·rw[if_neg hj] at h2
     exact h2.elim
   | _=>exact h'.elim⟩
theorem qZ {p pos:Pos} (hg:Gl X "range") (hm:X.mg "range" = none) (he:WE X Θ e m) (hs:zu e=true:=by rfl):WI X Θ tg (.Call (.Name "range" p) [e] [] pos) (M.jf m):=by with_unfolding_all exact zFk (p:=p) (pos:=pos) hg hm he hs
end
section
variable {X:Cx}{Θ:Tab}{pos:Pos}
theorem zHf {c:Expr}{body:List Stmt}{tc:M.TM}{mb:M.SM} (hp:PassesOwn (model X.prog X.w) X.A X.env X.xe) (hc:MT X Θ c tc) (hb:MSs X Θ body mb):MS X Θ (.While c body [] pos) (M.Qw tc mb) :=
 (zHb hp hc hb).imp fun D σ H ⟨ρ,σ',S,st,rp,h⟩=>by
  refine⟨fun k σ2 H2=>∃ ρ2 σ2' S2,jE X.K ρ2 H2 σ2' σ2/\zT X.K Θ ρ2 S2 H2/\zm X.K Θ ρ2 H2 (M.ZS k tc mb σ2' S2) D,⟨M.zFP,ρ,σ',S,st,rp,h⟩,?_⟩
  rintro k σ2 H2 ⟨ρ2,σ2',S2,st2,rp2,h2⟩
  cases k with
  | zero=>exact h2.elim
  | succ k =>
   refine⟨ρ2,σ2',S2,st2,rp2,zm.stm h2 fun ρ3 H3 b b' S3 p3 l3 rp3 eb h3=>?_⟩
   cases eb
   cases b with
   | false=>exact zBb (zm.nx (σ:=σ2) h3 rp3 (st2.mono p3 l3))
   | true =>
    refine zB0 ⟨fun σ4 H4=>∃ ρ4 σ4' S4,jE X.K ρ4 H4 σ4' σ4/\zT X.K Θ ρ4 S4 H4/\zm X.K Θ ρ4 H4 (M.ZS k tc mb σ4' S4) D,fun σ4 H4 q=>⟨k,Nat.lt_succ_self k,q⟩,ρ3,σ2',S3,st2.mono p3 l3,rp3,?_⟩
    have h4:zm X.K Θ ρ3 H3 (match mb σ2' S3 with
     | .nx σ s=>M.ZS k tc mb σ s
     | .ct σ s=>M.ZS k tc mb σ s
     | .bk σ s=>.nx σ s
     | r=>r) D:=h3
    revert h4
    cases mb σ2' S3 with
    | nx a s=>exact fun h4 ρ4 H4 σ4 p4 l4 rp4 st4=>⟨ρ4,a,s,st4,rp4,zm.weak h4 p4 l4⟩
    | ct a s=>exact fun h4 ρ4 H4 σ4 p4 l4 rp4 st4=>⟨ρ4,a,s,st4,rp4,zm.weak h4 p4 l4⟩
    | bk a s=>exact fun h4=>h4
    | rt a s=>exact fun h4=>h4
    | exc e a s=>exact fun h4=>h4
    | no=>exact fun h4=>h4
theorem zFK {c:Expr}{body:List Stmt}{tc:M.TM}{mb:M.SM} (hp:PassesOwn (model X.prog X.w) X.A X.env X.xe) (hc:WT X Θ c tc) (hb:WSs X Θ body mb):WS X Θ (.While c body [] pos) (M.Qw tc mb):=by with_unfolding_all exact zHf (c:=c) (body:=body) (tc:=tc) (mb:=mb) hp hc hb
theorem zLo {K:PySem.W.Frag}{g:M.GM}{js:List Nat}{mb:M.SM}{xs:List M.D}{gd:M.Gd}{J:It}{ρ1:List Addr}{H1:Hp}{σ:St}{σ':M.St}{S1:M.S}{D:Zo} (itr:ItR K Θ ρ1 H1 J xs gd) (st:jE K ρ1 H1 σ' σ) (rp1:zT K Θ ρ1 S1 H1) (hgd:M.zc gd S1=true) (h2:zm K Θ ρ1 H1 (M.j0 gd (M.j6 g mb) xs σ' S1) D) :
  ∃ W:Nat->Nat->St->Hp->Prop,(∃ m,W 0 m σ H1)/\∀ i m σ H,W i m σ H ->
   (J.stop i H/\D.nx σ H)\/(J.go i H/\∃ N:St->Hp->Prop,(∀ σ' H',N σ' H'->∃ m',m' < m/\W (i+1) m' σ' H')/\∀ x H',J.yld i H x H'->RdG K Θ js g x σ H' fun σ2 H2=>RdS K Θ mb { D with nx:=N,ct:=N,bk:=D.nx } σ2 H2):=by
 refine⟨fun i k σ2 H2=>∃ ρ2 σ2' S2,ρ1 <+: ρ2/\Le H1 H2/\jE K ρ2 H2 σ2' σ2/\zT K Θ ρ2 S2 H2/\M.zc gd S2=true/\k=xs.length - i/\i <= xs.length/\zm K Θ ρ2 H2 (M.j0 gd (M.j6 g mb) (xs.drop i) σ2' S2) D,
  ⟨xs.length,ρ1,σ',S1,List.prefix_refl _,Le.refl _,st,rp1,hgd,rfl,Nat.zero_le _,h2⟩,?_⟩
 rintro i k σ2 H2 ⟨ρ2,σ2',S2,p2,l2,st2,rp2,g2,rfl,hi2,h3⟩
 by_cases hlt:i < xs.length
 ·refine .inr ⟨itr.go i ρ2 S2 H2 p2 l2 rp2 g2 hlt,fun σ3 H3=>∃ ρ3 σ3' S3,ρ1 <+: ρ3/\Le H1 H3/\jE K ρ3 H3 σ3' σ3/\zT K Θ ρ3 S3 H3/\M.zc gd S3=true/\zm K Θ ρ3 H3 (M.j0 gd (M.j6 g mb) (xs.drop (i+1)) σ3' S3) D,
   fun σ3 H3 ⟨ρ3,σ3',S3,a1,a2,a3,a4,a5,a6⟩=>⟨xs.length - (i+1),by omega,ρ3,σ3',S3,a1,a2,a3,a4,a5,rfl,hlt,a6⟩,fun x H' y=>?_⟩
  obtain⟨d,ed,rd,ld,rpd⟩:=itr.yld i ρ2 S2 H2 x H' p2 l2 rp2 g2 hlt y
  have edr:xs.drop i=d::xs.drop (i+1):=by
   obtain⟨_,e⟩:=List.getElem?_eq_some_iff.mp ed
   rw[List.drop_eq_getElem_cons hlt,e]
  rw[edr] at h3
  have h4:zm K Θ ρ2 H2 (match (match g d σ2' with | some σ'=>mb σ' S2 | none=>M.RS.no) with
   | .nx σ s=>if M.zc gd s then M.j0 gd (M.j6 g mb) (xs.drop (i+1)) σ s else .no
   | .ct σ s=>if M.zc gd s then M.j0 gd (M.j6 g mb) (xs.drop (i+1)) σ s else .no
   | .bk σ s=>.nx σ s
   | r=>r) D:=h3
  cases hgq:g d σ2' with
  | none=>rw[hgq] at h4;exact h4.elim
  | some σ1 =>
   rw[hgq] at h4
   refine⟨ρ2,σ2',S2,d,st2.mono (List.prefix_refl _) ld,rpd,rd,σ1,hgq,fun H'' σ3 le3 rp3 st3 _ _=>⟨ρ2,σ1,S2,st3,rp3,?_⟩⟩
   have h5:=zm.weak h4 (List.prefix_refl _) (ld.trans le3)
   have h6:zm K Θ ρ2 H'' (match mb σ1 S2 with
    | .nx σ s=>if M.zc gd s then M.j0 gd (M.j6 g mb) (xs.drop (i+1)) σ s else .no
    | .ct σ s=>if M.zc gd s then M.j0 gd (M.j6 g mb) (xs.drop (i+1)) σ s else .no
    | .bk σ s=>.nx σ s
    | r=>r) D:=h5
   have more:∀ (a:M.St) (s:M.S),zm K Θ ρ2 H'' (if M.zc gd s then M.j0 gd (M.j6 g mb) (xs.drop (i+1)) a s else .no) D->∀ ρ4 H4 σ4,ρ2 <+: ρ4->Le H'' H4->zT K Θ ρ4 s H4->jE K ρ4 H4 a σ4 ->
     ∃ ρ3 σ3' S3,ρ1 <+: ρ3/\Le H1 H4/\jE K ρ3 H4 σ3' σ4/\zT K Θ ρ3 S3 H4/\M.zc gd S3=true/\zm K Θ ρ3 H4 (M.j0 gd (M.j6 g mb) (xs.drop (i+1)) σ3' S3) D:=fun a s h7 ρ4 H4 σ4 p4 l4 rp4 st4=>by
    by_cases hs:M.zc gd s=true
    ·rw[if_pos hs] at h7
     exact⟨ρ4,a,s,p2.trans p4,l2.trans (ld.trans (le3.trans l4)),st4,rp4,hs,zm.weak h7 p4 l4⟩
    ·rw[if_neg hs] at h7;exact h7.elim
   revert h6
   cases mb σ1 S2 with
   | nx a s=>exact fun h6=>more a s h6
   | ct a s=>exact fun h6=>more a s h6
   | bk a s=>exact fun h6=>h6
   | rt a s=>exact fun h6=>h6
   | exc e a s=>exact fun h6=>h6
   | no=>exact fun h6=>h6
 ·have e:i=xs.length:=by omega
  subst e
  rw[List.drop_length] at h3
  exact .inl ⟨itr.stop ρ2 S2 H2 p2 l2 rp2 g2,zm.nx (σ:=σ2) h3 rp2 st2⟩
theorem zLH {tg iter:Expr}{body:List Stmt}{it:M.IM}{g:M.GM}{js:List Nat}{mb:M.SM} (hp:PassesOwn (model X.prog X.w) X.A X.env X.xe) (hc:X.calm=true) (hi:MI X Θ tg iter it) (hg:MG X Θ js tg g) (hb:MSs X Θ body mb)
  (hs:∀ x,foldedSetIterable iter X.env x=pure x:=by intro _;rfl):MS X Θ (.For tg iter body [] pos) (M.q0 it g mb) :=
 (zLP hp hc hi hg hb hs).imp fun D σ H ⟨ρ,σ',S,st,rp,h⟩=>⟨ρ,σ',S,st,rp,by
  have h':zm X.K Θ ρ H ((it σ' S).stm σ' fun p s=>if M.zc p.2 s=true then M.j0 p.2 (M.j6 g mb) p.1 σ' s else .no) D:=h
  cases hit:it σ' S with
  | no=>rw[hit] at h';exact h'.elim
  | exc a s=>rw[hit] at h';exact h'.elim
  | ok p S1 =>
   rw[hit] at h'
   obtain⟨xs,gd⟩:=p
   show zE X.K Θ _ ρ H (if M.zc gd S1 then M.R.ok (xs,gd) S1 else .no) _
   have h2:zm X.K Θ ρ H (if M.zc gd S1=true then M.j0 gd (M.j6 g mb) xs σ' S1 else .no) D:=h'
   by_cases hgd:M.zc gd S1=true
   case neg=>rw[if_neg hgd] at h2;exact h2.elim
   rw[if_pos hgd] at h2
   rw[if_pos hgd]
   intro ρ1 H1 J p1 l1 rp1 (itr:ItR X.K Θ ρ1 H1 J xs gd)
   exact zLo itr (st.mono p1 l1) rp1 hgd (zm.weak h2 p1 l1)⟩
theorem QN {tg iter:Expr}{body:List Stmt}{it:M.IM}{g:M.GM}{js:List Nat}{mb:M.SM} (hp:PassesOwn (model X.prog X.w) X.A X.env X.xe) (hc:X.calm=true) (hi:WI X Θ tg iter it) (hg:WG X Θ js tg g) (hb:WSs X Θ body mb)
  (hs:∀ x,foldedSetIterable iter X.env x=pure x:=by intro _;rfl):WS X Θ (.For tg iter body [] pos) (M.q0 it g mb):=by with_unfolding_all exact zLH (tg:=tg) (iter:=iter) (body:=body) (it:=it) (g:=g) (js:=js) (mb:=mb) hp hc hi hg hb hs
theorem zKf {K:PySem.W.Frag}{n:Nat}{it:M.IM}{g:M.GM}{js:List Nat}{tc:M.TM}{me:M.EM}{σ:St}{σ':M.St}{S:M.S}{ρ:List Addr}{H:Hp}{R:List V->Hp->Prop} (st:jE K ρ H σ' σ) (rp:zT K Θ ρ S H) (hj:∀ j∈js,σ.length <= j)
  (h:zE K Θ (zH K) ρ H (M.yl n it g tc me σ' S) R) :
  RdI K Θ it σ H fun J H1=>∃ W:Nat->Nat->List V->Hp->Prop,(∃ m,W 0 m [] H1)/\∀ i m ys H2,W i m ys H2->ys.length <= sizeLine /\
   ((J.stop i H2/\R ys H2) \/
    (J.go i H2/\∀ x H3,J.yld i H2 x H3->RdG K Θ js g x (σ++List.replicate n none) H3 fun σ2 H4=>Wk (σ++List.replicate n none) σ2/\RdT K Θ tc σ2 H4 fun b H5 =>
     if b=true then RdE K Θ me σ2 H5 fun y H6=>∃ m',m' < m/\W (i+1) m' (ys++[y]) H6 else ∃ m',m' < m/\W (i+1) m' ys H5)):=by
 refine⟨ρ,σ',S,st,rp,?_⟩
 have h':zE K Θ (zH K) ρ H ((it σ' S).bind fun p s=>if p.1.length <= M.SZ/\M.zc p.2 s=true then M.qQ p.2 (M.qK n g tc me σ') p.1 s else .no) R:=h
 cases hit:it σ' S with
 | no=>rw[hit] at h';exact h'.elim
 | exc a s=>rw[hit] at h';exact h'.elim
 | ok p S1 =>
  rw[hit] at h'
  obtain⟨xs,gd⟩:=p
  show zE K Θ _ ρ H (if M.zc gd S1 then M.R.ok (xs,gd) S1 else .no) _
  have h2:zE K Θ (zH K) ρ H (if xs.length <= M.SZ/\M.zc gd S1=true then M.qQ gd (M.qK n g tc me σ') xs S1 else .no) R:=h'
  by_cases hgd:xs.length <= M.SZ/\M.zc gd S1=true
  case neg=>rw[if_neg hgd] at h2;exact h2.elim
  rw[if_pos hgd] at h2
  rw[if_pos hgd.2]
  intro ρ1 H1 J p1 l1 rp1 (itr:ItR K Θ ρ1 H1 J xs gd)
  refine⟨fun i k ys H2=>∃ ρ2 S2 ds,ρ1 <+: ρ2/\Le H1 H2/\zT K Θ ρ2 S2 H2/\M.zc gd S2=true/\zH K ρ2 H2 ds ys/\ds.length <= i/\k=xs.length - i/\i <= xs.length/\zE K Θ (zH K) ρ2 H2 ((M.qQ gd (M.qK n g tc me σ') (xs.drop i) S2).bind fun es s=>.ok (ds++es) s) R,
   ⟨xs.length,ρ1,S1,[],List.prefix_refl _,Le.refl _,rp1,hgd.2,rfl,Nat.le_refl _,rfl,Nat.zero_le _,?_⟩,?_⟩
  ·have h3:=zE.weak h2 p1 l1
   revert h3
   show zE K Θ (zH K) ρ1 H1 (M.qQ gd (M.qK n g tc me σ') xs S1) R->_
   rw[List.drop_zero]
   cases M.qQ gd (M.qK n g tc me σ') xs S1 with
   | ok a s=>exact fun h3=>h3
   | exc e s=>exact fun h3=>h3
   | no=>exact fun h3=>h3
  rintro i k ys H2 ⟨ρ2,S2,ds,p2,l2,rp2,g2,rds,hdl,rfl,hi2,h3⟩
  refine⟨by rw[<- rds.length,<- yf];omega,?_⟩
  by_cases hlt:i < xs.length
  ·refine .inr ⟨itr.go i ρ2 S2 H2 p2 l2 rp2 g2 hlt,fun x H3 y=>?_⟩
   obtain⟨d,ed,rd,ld,rpd⟩:=itr.yld i ρ2 S2 H2 x H3 p2 l2 rp2 g2 hlt y
   have edr:xs.drop i=d::xs.drop (i+1):=by
    obtain⟨_,e⟩:=List.getElem?_eq_some_iff.mp ed
    rw[List.drop_eq_getElem_cons hlt,e]
   rw[edr] at h3
   have h4:zE K Θ (zH K) ρ2 H2 (((match g d (σ'++List.replicate n none) with
     | none=>M.R.no
     | some σ1=>(tc σ1 S2).bind fun b s=>if b then (me σ1 s).bind fun d s=>.ok (some d) s else .ok none s).bind fun o s =>
      if M.zc gd s then (M.qQ gd (M.qK n g tc me σ') (xs.drop (i+1)) s).bind fun ys s=>.ok (match o with | some y=>y::ys | none=>ys) s else .no).bind fun es s=>.ok (ds++es) s) R:=h3
   cases hgq:g d (σ'++List.replicate n none) with
   | none=>rw[hgq] at h4;exact h4.elim
   | some σ1 =>
    rw[hgq] at h4
    refine⟨ρ2,σ'++List.replicate n none,S2,d,((st.mono (p1.trans p2) (l1.trans (l2.trans ld))).more n),rpd,rd,σ1,hgq,fun H4 σ2 le4 rp4 st4 hl4 hj4=>⟨⟨hl4.symm,fun j v e=>?_⟩,ρ2,σ1,S2,st4,rp4,?_⟩⟩
    ·by_cases hjj:j∈js
     ·rw[List.getElem?_append_right (hj j hjj),List.getElem?_replicate] at e
      split at e<;>cases e
     ·rw[hj4 j hjj];exact e
    ·have h5:=zE.weak h4 (List.prefix_refl _) (ld.trans le4)
     dsimp only at h5
     cases htc:tc σ1 S2 with
     | no=>rw[htc] at h5;exact h5.elim
     | exc a s=>rw[htc] at h5;exact h5.elim
     | ok b S3 =>
      rw[htc] at h5
      intro ρ5 H5 b' p5 l5 rp5 eb
      cases eb
      have next:∀ (o:Option M.D) (s:M.S) (ρ6:List Addr) (H6:Hp) (zs:List V),ρ2 <+: ρ6->Le H4 H6->zT K Θ ρ6 s H6->zH K ρ6 H6 (match o with | some y=>ds++[y] | none=>ds) zs ->
        zE K Θ (zH K) ρ6 H6 ((if M.zc gd s then (M.qQ gd (M.qK n g tc me σ') (xs.drop (i+1)) s).bind fun ys s=>.ok (match o with | some y=>y::ys | none=>ys) s else .no).bind fun es s=>.ok (ds++es) s) R ->
        ∃ m',m' < xs.length - i/\∃ ρ2 S2 es,ρ1 <+: ρ2/\Le H1 H6/\zT K Θ ρ2 S2 H6/\M.zc gd S2=true/\zH K ρ2 H6 es zs/\es.length <= i+1/\m'=xs.length - (i+1)/\i+1 <= xs.length /\
         zE K Θ (zH K) ρ2 H6 ((M.qQ gd (M.qK n g tc me σ') (xs.drop (i+1)) S2).bind fun fs s=>.ok (es++fs) s) R:=fun o s ρ6 H6 zs p6 l6 rp6 rz h6=>by
       by_cases hs:M.zc gd s=true
       case neg=>rw[if_neg hs] at h6;exact h6.elim
       rw[if_pos hs] at h6
       refine⟨xs.length - (i+1),by omega,ρ6,s,_,p2.trans p6,l2.trans (ld.trans (le4.trans l6)),rp6,hs,rz,?_,rfl,hlt,?_⟩
       ·cases o<;>simp<;>omega
       ·revert h6
        cases M.qQ gd (M.qK n g tc me σ') (xs.drop (i+1)) s with
        | ok a s2 =>
         intro h6
         cases o with
         | none=>exact h6
         | some y =>
          show zE K Θ (zH K) ρ6 H6 (.ok (ds++[y]++a) s2) R
          rw[List.append_assoc]
          exact h6
        | exc e s=>exact fun h6=>h6
        | no=>exact fun h6=>h6
      cases b with
      | false=>exact zBb (next none S3 ρ5 H5 ys p5 l5 rp5 (rds.mono p5 (ld.trans (le4.trans l5))) (zE.weak h5 p5 l5))
      | true =>
       refine zB0 ⟨ρ5,σ1,S3,st4.mono p5 l5,rp5,?_⟩
       have h6:=zE.weak h5 p5 l5
       cases hme:me σ1 S3 with
       | no =>
        have h7:zE K Θ (zH K) ρ5 H5 ((((me σ1 S3).bind fun d s=>M.R.ok (some d) s).bind fun o s=>if M.zc gd s then (M.qQ gd (M.qK n g tc me σ') (xs.drop (i+1)) s).bind fun ys s=>.ok (match o with | some y=>y::ys | none=>ys) s else .no).bind fun es s=>.ok (ds++es) s) R:=h6
        rw[hme] at h7;exact h7.elim
       | exc a s =>
        have h7:zE K Θ (zH K) ρ5 H5 ((((me σ1 S3).bind fun d s=>M.R.ok (some d) s).bind fun o s=>if M.zc gd s then (M.qQ gd (M.qK n g tc me σ') (xs.drop (i+1)) s).bind fun ys s=>.ok (match o with | some y=>y::ys | none=>ys) s else .no).bind fun es s=>.ok (ds++es) s) R:=h6
        rw[hme] at h7;exact h7.elim
       | ok y S6 =>
        have h7:zE K Θ (zH K) ρ5 H5 ((((me σ1 S3).bind fun d s=>M.R.ok (some d) s).bind fun o s=>if M.zc gd s then (M.qQ gd (M.qK n g tc me σ') (xs.drop (i+1)) s).bind fun ys s=>.ok (match o with | some y=>y::ys | none=>ys) s else .no).bind fun es s=>.ok (ds++es) s) R:=h6
        rw[hme] at h7
        intro ρ6 H6 v p6 l6 rp6 rv
        exact next (some y) S6 ρ6 H6 (ys++[v]) (p5.trans p6) (l5.trans l6) rp6 ((rds.mono (p5.trans p6) (ld.trans (le4.trans (l5.trans l6)))).app ⟨v,[],rfl,rv,rfl⟩) (zE.weak h7 p6 l6)
  ·have e:i=xs.length:=by omega
   subst e
   rw[List.drop_length] at h3
   refine .inl ⟨itr.stop ρ2 S2 H2 p2 l2 rp2 g2,?_⟩
   have h4:zE K Θ (zH K) ρ2 H2 (.ok (ds++[]) S2) R:=h3
   rw[List.append_nil] at h4
   exact h4.here rp2 rds
end
end L2
namespace L2
open PySem PySem.Spec PyProof.Rows
section
variable {X:Cx}{Θ:Tab}{pos:Pos}{vars:List Str}{scope:Scope}{cl:List (Str×Addr)}{tg elt iter:Expr}{ifs:List Expr}{it:M.IM}{g:M.GM}{js:List Nat}{tc:M.TM}{me:M.EM}
theorem zEb {pins:List (Addr×Obj)}{s:Shared}{σ:St}{H:Hp} (I:Inv X pins σ H s) (hj:∀ j∈js,X.N.length <= j) {ρ:List Addr}{σ':M.St}{S:M.S} (st:jE X.K ρ H σ' σ) (rp:zT X.K Θ ρ S H) {Q:VK}{n:Nat}
  (h:zE X.K Θ (zH X.K) ρ H (M.yl n it g tc me σ' S) fun ys H2=>∀ D,H2 D=none->Q (.ref D) (upd H2 D (.lst ys))) :
  zIL n (RdI X.K Θ it) (RdG X.K Θ js g) (RdT X.K Θ tc) (RdE X.K Θ me) σ H Q:=zKf st rp (fun j hjj=>by rw[I.len];exact hj j hjj) h
theorem zIy (hc:X.calm=true) (C:ji X vars scope cl) (hi:MI X Θ tg iter it) (hg:∀ C fp s₂ H₂,MG (z8 X vars scope cl C fp s₂ H₂) Θ js tg g) (ht:∀ C fp s₂ H₂,Z8 (z8 X vars scope cl C fp s₂ H₂) ifs (RdT X.K Θ tc))
  (he:∀ C fp s₂ H₂,ME (z8 X vars scope cl C fp s₂ H₂) Θ elt me) (hj':(js.all fun j=>decide (X.N.length <= j))=true) (hs:∀ x,foldedSetIterable iter X.env x=pure x:=by intro _;rfl):ME X Θ (.ListComp elt [⟨tg,iter,ifs,0⟩] scope pos) (M.Zb vars.length it g tc me):=by
 intro pins s σ H Q I ⟨ρ,σ',S,st,rp,h⟩
 have hj:∀ j∈js,X.N.length <= j:=fun j hjj=>of_decide_eq_true (List.all_eq_true.mp hj' j hjj)
 exact zEZ hc C hi hg ht he hs pins s σ H Q I (zEb I hj st rp (zE.bind h fun ρ1 H1 ds ys S1 p1 l1 rp1 r1 h1 D hD=>h1.alloc rp1 r1 hD))
theorem QW (hc:X.calm=true) (C:ji X vars scope cl) (hi:WI X Θ tg iter it) (hg:∀ C fp s₂ H₂,WG (z8 X vars scope cl C fp s₂ H₂) Θ js tg g) (ht:∀ C fp s₂ H₂,Z8 (z8 X vars scope cl C fp s₂ H₂) ifs (RdT X.K Θ tc))
  (he:∀ C fp s₂ H₂,WE (z8 X vars scope cl C fp s₂ H₂) Θ elt me) (hj':(js.all fun j=>decide (X.N.length <= j))=true) (hs:∀ x,foldedSetIterable iter X.env x=pure x:=by intro _;rfl):WE X Θ (.ListComp elt [⟨tg,iter,ifs,0⟩] scope pos) (M.Zb vars.length it g tc me):=by with_unfolding_all exact zIy hc C hi hg ht he hj' hs
theorem zHD {y:M.T}{z:Str}{j:Nat}{p apos cpos:Pos} (hz:z=ofT y) (hc:X.calm=true) (C:ji X vars scope cl) (hi:MI X Θ tg iter it) (hg:∀ C fp s₂ H₂,MG (z8 X vars scope cl C fp s₂ H₂) Θ js tg g) (ht:∀ C fp s₂ H₂,Z8 (z8 X vars scope cl C fp s₂ H₂) ifs (RdT X.K Θ tc))
  (he:∀ C fp s₂ H₂,ME (z8 X vars scope cl C fp s₂ H₂) Θ elt me) (hj':(js.all fun j=>decide (X.N.length <= j))=true) (ad:∀ ρ H S ds ys p Q,zT X.K Θ ρ S H->zH X.K ρ H ds ys->SqL X.K H p ys->zE X.K Θ (zG X.K) ρ H (M.yy y ds S) Q->zCm X.K (.str (ofT y)) [.ref p] H Q) (hs:∀ x,foldedSetIterable iter X.env x=pure x:=by intro _;rfl)
  (hline:(apos.endLine == cpos.line)=true:=by rfl)
  :
  ME X Θ (.Call (.Attribute (.Constant (.str z) j p) "join" apos) [.ListComp elt [⟨tg,iter,ifs,0⟩] scope pos] [] cpos) (M.zCt (M.yy y) vars.length it g tc me):=by
 intro pins s σ H Q I ⟨ρ,σ',S,st,rp,h⟩
 have hj:∀ j∈js,X.N.length <= j:=fun j hjj=>of_decide_eq_true (List.all_eq_true.mp hj' j hjj)
 subst hz
 refine zIS PySem.F.plainAttrs_str PySem.F.slot_str_join PySem.F.type_str_join zJR zGj (zEU (zEZ (g:=RdG X.K Θ js g) (ti:=RdT X.K Θ tc) (te:=RdE X.K Θ me) hc C hi hg ht he hs) zGl (jq rfl)) rfl (zCx rfl (show 1 < 30 by decide)) hline (jq rfl) rfl pins s σ H Q I ?_
 refine⟨rfl,zEb I hj st rp (zE.bind h fun ρ1 H1 ds ys S1 p1 l1 rp1 r1 h1 D hD=>?_)⟩
 exact ad ρ1 _ S1 ds ys D Q (rp1.aside hD _) (r1.mono (List.prefix_refl _) (Le.new hD _)) (SqL.of jB) (zE.weak h1 (List.prefix_refl _) (Le.new hD _))
theorem zE9 {y:M.T}{z:Str}{j:Nat}{p apos cpos:Pos} (hz:z=ofT y) (hc:X.calm=true) (C:ji X vars scope cl) (hi:WI X Θ tg iter it) (hg:∀ C fp s₂ H₂,WG (z8 X vars scope cl C fp s₂ H₂) Θ js tg g) (ht:∀ C fp s₂ H₂,Z8 (z8 X vars scope cl C fp s₂ H₂) ifs (RdT X.K Θ tc))
  (he:∀ C fp s₂ H₂,WE (z8 X vars scope cl C fp s₂ H₂) Θ elt me) (hj':(js.all fun j=>decide (X.N.length <= j))=true) (ad:∀ ρ H S ds ys p Q,zT X.K Θ ρ S H->zH X.K ρ H ds ys->SqL X.K H p ys->zE X.K Θ (zG X.K) ρ H (M.yy y ds S) Q->zCm X.K (.str (ofT y)) [.ref p] H Q) (hs:∀ x,foldedSetIterable iter X.env x=pure x:=by intro _;rfl)
  (hline:(apos.endLine == cpos.line)=true:=by rfl)
  :
  WE X Θ (.Call (.Attribute (.Constant (.str z) j p) "join" apos) [.ListComp elt [⟨tg,iter,ifs,0⟩] scope pos] [] cpos) (M.zCt (M.yy y) vars.length it g tc me):=by with_unfolding_all exact zHD (y:=y) (z:=z) (j:=j) (p:=p) (apos:=apos) (cpos:=cpos) hz hc C hi hg ht he hj' ad hs hline
end
noncomputable def SpM (K:PySem.W.Frag) (Θ:Tab) (n:Nat) (f:M.F):Sp:=fun vs H Q _=>∃ ρ ds S,ds.length=n/\zH K ρ H ds vs/\zT K Θ ρ S H/\zE K Θ (zG K) ρ H (f ds S) Q
noncomputable def Zz (m:M.AM) (n:Nat):Prop:=∀ σ s xs s',m σ s=.ok xs s'->xs.length=n
theorem jN:Zz M.zO 0:=fun σ s xs s' h=>by cases h;rfl
theorem zS {a:M.EM}{r:M.AM}{n:Nat} (h:Zz r n):Zz (M.zD a r) (n+1):=fun σ s xs s' e=>by
 have e':((a σ s).bind fun x s=>(r σ s).bind fun xs s=>M.R.ok (x::xs) s)=.ok xs s':=e
 cases ha:a σ s with
 | no=>rw[ha] at e';cases e'
 | exc a s=>rw[ha] at e';cases e'
 | ok d S1 =>
  rw[ha] at e'
  have e2:((r σ S1).bind fun xs s=>M.R.ok (d::xs) s)=.ok xs s':=e'
  cases hr:r σ S1 with
  | no=>rw[hr] at e2;cases e2
  | exc a s=>rw[hr] at e2;cases e2
  | ok ds S2 =>
   rw[hr] at e2
   cases e2
   rw[List.length_cons,h _ _ _ _ hr]
section
variable {X:Cx}{Θ:Tab}{pos p:Pos}{x:Str}{ps:List Str}{e:Expr}{es:List Expr}{f:M.F}{m:M.AM}{k kk n:Nat}
theorem zIw (h:Has X.prog X.w X.K X.mg X.base x k ps (SpM X.K Θ n f)) (hr:z4 kk X.A) (hk:k <= kk) (hg:Gl X x) (ha:MA X Θ (e::es) m) (ar:Zz m n) (hx:qj CX0 X E0:=by exact JH) (hdb:(x == ("__debug__" : Str))=false:=by decide)
  (he:zu e=true:=by rfl) (hpl:es.all zu=true:=by rfl):ME X Θ (.Call (.Name x p) (e::es) [] pos) (M.zX f m) :=
 (zG7 h hr hk hg ha hx hdb (jq he) (ZB hpl)).imp fun σ H Q ⟨ρ,σ',S,st,rp,h⟩=>⟨ρ,σ',S,st,rp,by
  have h':zE X.K Θ (zG X.K) ρ H ((m σ' S).bind fun xs s=>f xs s) Q:=h
  cases hm:m σ' S with
  | no=>rw[hm] at h';exact h'.elim
  | exc a s=>rw[hm] at h';exact h'.elim
  | ok ds S1 =>
   rw[hm] at h'
   intro ρ1 H1 vs p1 l1 rp1 r1
   rw[List.append_nil]
   exact⟨ρ1,ds,S1,ar _ _ _ _ hm,r1,rp1,zE.weak h' p1 l1⟩⟩
theorem z6 (h:Has X.prog X.w X.K X.mg X.base x k ps (SpM X.K Θ n f)) (hr:z4 kk X.A) (hk:k <= kk) (hg:Gl X x) (ha:WA X Θ (e::es) m) (ar:Zz m n) (hx:qj CX0 X E0:=by exact JH) (hdb:(x == ("__debug__" : Str))=false:=by decide)
  (he:zu e=true:=by rfl) (hpl:es.all zu=true:=by rfl):WE X Θ (.Call (.Name x p) (e::es) [] pos) (M.zX f m):=by with_unfolding_all exact zIw h hr hk hg ha ar hx hdb he hpl
end
theorem zGN {e:List Nat}:∀ {n:Nat}{d:M.D},M.kyD n (M.D.ren e d)=true->M.D.ren e d=d:=by
 intro n
 induction n with
 | zero=>intro d h;cases d<;>first | rfl | cases h
 | succ n ih =>
  intro d h
  cases d with
  | tup ds =>
   show M.D.tup (M.D.ren.all e ds)=_
   have h':(M.D.ren.all e ds).all (M.kyD n)=true:=h
   have:∀ ds:List M.D,(M.D.ren.all e ds).all (M.kyD n)=true->M.D.ren.all e ds=ds:=by
    intro ds
    induction ds with
    | nil=>intro _;rfl
    | cons d ds ih2 =>
     intro h
     have h2:(M.kyD n (M.D.ren e d) && (M.D.ren.all e ds).all (M.kyD n))=true:=h
     rw[Bool.and_eq_true] at h2
     show M.D.ren e d::M.D.ren.all e ds=_
     rw[ih h2.1,ih2 h2.2]
   rw[this ds h']
  | _=>first | rfl | cases h
section
variable {K:PySem.W.Frag}{Θ:Tab}{ρ ρ':List Addr}{H:Hp}{e:List Nat}
mutual
theorem zG.unren (hρ:∀ (i j:Nat) a,e[i]? = some j->ρ[j]? = some a->ρ'[i]? = some a):∀ {d:M.D}{v:V},M.D.cl e.length d=true->zG K ρ H (M.D.ren e d) v->zG K ρ' H d v
 | .non,_,_,h=>h
 | .bl _,_,_,h=>h
 | .int _,_,_,h=>h
 | .str _,_,_,h=>h
 | .ty _,_,_,h=>h
 | .ref i,_,c,⟨a,h1,h2⟩=>by
  have hi:i < e.length:=of_decide_eq_true c
  refine⟨a,h1,hρ i (e.getD i i) a ?_ h2⟩
  rw[List.getD_eq_getElem?_getD,List.getElem?_eq_getElem hi];rfl
 | .tup _,_,c,⟨a,xs,h1,h2,h3⟩=>⟨a,xs,h1,h2,zH.unren hρ c h3⟩
 | .ro _,_,c,⟨a,xs,h1,h2,h3⟩=>⟨a,xs,h1,h2,zH.unren hρ c h3⟩
theorem zH.unren (hρ:∀ (i j:Nat) a,e[i]? = some j->ρ[j]? = some a->ρ'[i]? = some a):∀ {ds:List M.D}{xs:List V},M.D.cl.all e.length ds=true->zH K ρ H (M.D.ren.all e ds) xs->zH K ρ' H ds xs
 | [],_,_,h=>h
 | d::ds,_,c,⟨y,ys,h1,h2,h3⟩=>by
  have c':(M.D.cl e.length d && M.D.cl.all e.length ds)=true:=c
  rw[Bool.and_eq_true] at c'
  exact⟨y,ys,h1,zG.unren hρ c'.1 h2,zH.unren hρ c'.2 h3⟩
end
theorem ObR.unren (hρ:∀ (i j:Nat) a,e[i]? = some j->ρ[j]? = some a->ρ'[i]? = some a) {a:Addr}{o:M.O} (c:M.O.cl e.length o=true) (h:ObR K Θ ρ H a (M.O.ren e o)):ObR K Θ ρ' H a o:=by
 cases o with
 | lst ds=>obtain⟨xs,h1,h2⟩:=h;exact⟨xs,h1,zH.unren hρ c h2⟩
 | dct kvs =>
  obtain⟨ks,h1,h2⟩:=h
  refine⟨ks,h1,?_⟩
  have c':∀ p∈kvs,(M.D.cl e.length p.1 && M.D.cl e.length p.2)=true:=List.all_eq_true.mp c
  clear h1
  revert h2 c'
  clear c
  induction kvs generalizing ks with
  | nil=>intro h2 c';cases h2;exact .nil
  | cons p kvs ih =>
   intro h2 c'
   rw[List.map_cons] at h2
   cases h2 with
   | cons r1 r2 =>
    have c1:=c' p List.mem_cons_self
    rw[Bool.and_eq_true] at c1
    refine .cons ⟨?_,zG.unren hρ c1.2 r1.2⟩ (ih _ r2 (fun q hq=>c' q (List.mem_cons_of_mem _ hq)))
    have hk:=r1.1
    revert hk
    cases p.1<;>exact fun hk=>hk
 | fdc kvs =>
  obtain⟨o,ks,h1,h2⟩:=h
  refine⟨o,ks,h1,?_⟩
  have c':∀ p∈kvs,(M.D.cl e.length p.1 && M.D.cl e.length p.2)=true:=List.all_eq_true.mp c
  clear h1
  revert h2 c'
  clear c
  induction kvs generalizing ks with
  | nil=>intro h2 c';cases h2;exact .nil
  | cons p kvs ih =>
   intro h2 c'
   rw[List.map_cons] at h2
   cases h2 with
   | cons r1 r2 =>
    have c1:=c' p List.mem_cons_self
    rw[Bool.and_eq_true] at c1
    refine .cons ⟨?_,zG.unren hρ c1.2 r1.2⟩ (ih _ r2 (fun q hq=>c' q (List.mem_cons_of_mem _ hq)))
    have hk:=r1.1
    revert hk
    cases p.1<;>exact fun hk=>hk
 | dtt kvs =>
  obtain⟨xs,h1,h2⟩:=h
  refine⟨xs,h1,?_⟩
  have c':∀ p∈kvs,(M.D.cl e.length p.1 && M.D.cl e.length p.2)=true:=List.all_eq_true.mp c
  clear h1
  revert h2 c'
  clear c
  induction kvs generalizing xs with
  | nil=>intro h2 c';cases h2;exact .nil
  | cons p kvs ih =>
   intro h2 c'
   rw[List.map_cons] at h2
   cases h2 with
   | cons r1 r2 =>
    have c1:=c' p List.mem_cons_self
    rw[Bool.and_eq_true] at c1
    obtain⟨a1,a2,a3,v,a4,a5⟩:=r1
    have e1:=zGN a2
    rw[e1] at a1 a2
    exact .cons ⟨a1,a2,zG.unren hρ c1.1 a3,v,zG.unren hρ c1.2 a4,a5⟩ (ih _ r2 (fun q hq=>c' q (List.mem_cons_of_mem _ hq)))
 | ftt kvs =>
  obtain⟨o,xs,h1,h2⟩:=h
  refine⟨o,xs,h1,?_⟩
  have c':∀ p∈kvs,(M.D.cl e.length p.1 && M.D.cl e.length p.2)=true:=List.all_eq_true.mp c
  clear h1
  revert h2 c'
  clear c
  induction kvs generalizing xs with
  | nil=>intro h2 c';cases h2;exact .nil
  | cons p kvs ih =>
   intro h2 c'
   rw[List.map_cons] at h2
   cases h2 with
   | cons r1 r2 =>
    have c1:=c' p List.mem_cons_self
    rw[Bool.and_eq_true] at c1
    obtain⟨a1,a2,a3,v,a4,a5⟩:=r1
    have e1:=zGN a2
    rw[e1] at a1 a2
    exact .cons ⟨a1,a2,zG.unren hρ c1.1 a3,v,zG.unren hρ c1.2 a4,a5⟩ (ih _ r2 (fun q hq=>c' q (List.mem_cons_of_mem _ hq)))
 | ins cc fs =>
  obtain⟨C,dx,gs,N,h1,h2,h3⟩:=h
  refine⟨C,dx,gs,N,h1,h2,by rw[<- h3.len];simp,h3.nd,h3.within,fun i f d q1 q2=>?_⟩
  obtain⟨v,k1,k2⟩:=h3.get i f (M.D.ren e d) q1 (by rw[List.getElem?_map,q2];rfl)
  refine⟨v,k1,zG.unren hρ ?_ k2⟩
  have:=List.all_eq_true.mp c (some d) (List.mem_of_getElem? q2)
  exact this
theorem zE.gc {S S' S1:M.S}{d:M.D}{Q:VK} (em:M.Emb S.length e S' S1) (cd:M.D.cl S'.length d=true) (rp:zT K Θ ρ S H) (h:zE K Θ (zG K) ρ H (.ok d S') Q):zE K Θ (zG K) ρ H (.ok (M.D.ren e d) S1) Q:=by
 intro ρ1 H1 v p1 l1 rp1 r1
 have hlt:∀ {i j:Nat},e[i]? = some j->j < ρ1.length:=fun {i j} q=>by
  have hi:i < S'.length:=by rw[<- em.len];exact (List.getElem?_eq_some_iff.mp q).1
  obtain⟨j',q1,q2,_⟩:=em.obj i S'[i] (by simp[hi])
  rw[q] at q1;cases q1
  rw[rp1.len];exact (List.getElem?_eq_some_iff.mp q2).1
 have hρ:∀ (i j:Nat) a,e[i]? = some j->ρ1[j]? = some a->(e.map fun j=>ρ1.getD j 0)[i]? = some a:=fun i j a q1 q2=>by
  rw[List.getElem?_map,q1,Option.map_some,List.getD_eq_getElem?_getD,q2];rfl
 refine h (e.map fun j=>ρ1.getD j 0) H1 v ?_ l1 ⟨by rw[List.length_map,em.len],?_,fun i o q=>?_⟩ (zG.unren hρ (by rw[em.len];exact cd) r1)
 ·refine List.prefix_iff_getElem?.mpr fun i hi=>?_
  have hi':i < S.length:=rp.len ▸ hi
  exact hρ i i _ (em.old i hi') (ZZ p1 (List.getElem?_eq_getElem hi))
 ·refine zHm fun i j x a b=>?_
  rw[List.getElem?_map] at a b
  cases ei:e[i]? with
  | none=>rw[ei] at a;cases a
  | some k =>
   cases ej:e[j]? with
   | none=>rw[ej] at b;cases b
   | some l =>
    rw[ei,Option.map_some,List.getD_eq_getElem?_getD,List.getElem?_eq_getElem (hlt ei)] at a
    rw[ej,Option.map_some,List.getD_eq_getElem?_getD,List.getElem?_eq_getElem (hlt ej)] at b
    have e1:ρ1[k]'(hlt ei)=x:=by simpa using a
    have e2:ρ1[l]'(hlt ej)=x:=by simpa using b
    have e3:=zGL rp1.nd (hlt ei) (hlt ej) (e1.trans e2.symm)
    subst e3
    exact QD em.nd ei ej
 ·obtain⟨j,q1,q2,q3⟩:=em.obj i o q
  obtain⟨a,q4,q5⟩:=rp1.obj j _ q2
  exact⟨a,hρ i j a q1 q4,ObR.unren hρ (by rw[em.len];exact q3) q5⟩
end
section
variable {K:PySem.W.Frag}{Θ:Tab}{ρ:List Addr}{H:Hp}
mutual
theorem zG.cl:∀ {d:M.D}{v:V},zG K ρ H d v->M.D.cl ρ.length d=true
 | .non,_,_=>rfl
 | .bl _,_,_=>rfl
 | .int _,_,_=>rfl
 | .str _,_,_=>rfl
 | .ty _,_,_=>rfl
 | .ref _,_,⟨a,_,h2⟩=>decide_eq_true (List.getElem?_eq_some_iff.mp h2).1
 | .tup _,_,⟨_,_,_,_,h⟩=>zH.cl h
 | .ro _,_,⟨_,_,_,_,h⟩=>zH.cl h
theorem zH.cl:∀ {ds:List M.D}{xs:List V},zH K ρ H ds xs->M.D.cl.all ρ.length ds=true
 | [],_,_=>rfl
 | d::ds,_,⟨_,_,_,h1,h2⟩=>by
  show (M.D.cl ρ.length d && M.D.cl.all ρ.length ds)=true
  rw[zG.cl h1,zH.cl h2];rfl
end
theorem zT.cl {S:M.S} (rp:zT K Θ ρ S H):M.clS S.length S=true:=by
 refine List.all_eq_true.mpr fun o ho=>?_
 obtain⟨i,hi,rfl⟩:=List.mem_iff_getElem.mp ho
 obtain⟨a,h1,h2⟩:=rp.obj i S[i] (by simp[hi])
 rw[<- rp.len]
 revert h2
 cases S[i] with
 | lst ds=>exact fun ⟨xs,_,r⟩=>r.cl
 | dct kvs =>
  intro ⟨ks,_,r⟩
  refine List.all_eq_true.mpr fun p hp=>?_
  have:∀ {kvs:List (M.D×M.D)}{ks:List (Key×V)},Paired (fun (p:M.D×M.D) (q:Key×V)=>Zl p.1 q.1/\zG K ρ H p.2 q.2) kvs ks->p∈kvs->(M.D.cl ρ.length p.1 && M.D.cl ρ.length p.2)=true:=by
   intro kvs ks r hp
   induction r with
   | nil=>cases hp
   | cons r1 r2 ih =>
    rcases List.mem_cons.mp hp with rfl | hp
    ·rw[r1.2.cl,Bool.and_true]
     have hk:=r1.1
     revert hk
     cases p.1<;>first | exact fun _=>rfl | exact fun hk=>hk.elim
    ·exact ih hp
  exact this r hp
 | fdc kvs =>
  intro ⟨_,ks,_,r⟩
  refine List.all_eq_true.mpr fun p hp=>?_
  have:∀ {kvs:List (M.D×M.D)}{ks:List (Key×V)},Paired (fun (p:M.D×M.D) (q:Key×V)=>Zl p.1 q.1/\zG K ρ H p.2 q.2) kvs ks->p∈kvs->(M.D.cl ρ.length p.1 && M.D.cl ρ.length p.2)=true:=by
   intro kvs ks r hp
   induction r with
   | nil=>cases hp
   | cons r1 r2 ih =>
    rcases List.mem_cons.mp hp with rfl | hp
    ·rw[r1.2.cl,Bool.and_true]
     have hk:=r1.1
     revert hk
     cases p.1<;>first | exact fun _=>rfl | exact fun hk=>hk.elim
    ·exact ih hp
  exact this r hp
 | dtt kvs =>
  intro ⟨xs,_,r⟩
  refine List.all_eq_true.mpr fun p hp=>?_
  have:∀ {kvs:List (M.D×M.D)}{xs:List (M.D×Addr×Value)},Paired (TDr K ρ H) kvs xs->p∈kvs->(M.D.cl ρ.length p.1 && M.D.cl ρ.length p.2)=true:=by
   intro kvs xs r hp
   induction r with
   | nil=>cases hp
   | cons r1 r2 ih =>
    rcases List.mem_cons.mp hp with rfl | hp
    ·obtain⟨_,_,a3,v,a4,_⟩:=r1
     rw[a3.cl,a4.cl];rfl
    ·exact ih hp
  exact this r hp
 | ftt kvs =>
  intro ⟨o,xs,_,r⟩
  refine List.all_eq_true.mpr fun p hp=>?_
  have:∀ {kvs:List (M.D×M.D)}{xs:List (M.D×Addr×Value)},Paired (TDr K ρ H) kvs xs->p∈kvs->(M.D.cl ρ.length p.1 && M.D.cl ρ.length p.2)=true:=by
   intro kvs xs r hp
   induction r with
   | nil=>cases hp
   | cons r1 r2 ih =>
    rcases List.mem_cons.mp hp with rfl | hp
    ·obtain⟨_,_,a3,v,a4,_⟩:=r1
     rw[a3.cl,a4.cl];rfl
    ·exact ih hp
  exact this r hp
 | ins c fs =>
  intro ⟨C,dx,gs,N,_,_,r⟩
  refine List.all_eq_true.mpr fun od hod=>?_
  cases od with
  | none=>rfl
  | some d =>
   obtain⟨j,hj,ej⟩:=List.mem_iff_getElem.mp hod
   have hN:j < N.length:=r.len ▸ hj
   obtain⟨v,_,rv⟩:=r.get j N[j] d (by simp[hN]) (by rw[List.getElem?_eq_getElem hj,ej])
   exact rv.cl
end
section
variable {P:Program}{w:World}{K:PySem.W.Frag}{mg:Str->Option Value}{base:Heap}{Θ:Tab}
theorem zB5 {ρ:List Addr}{H:Hp}{ds:List M.D}{vs:List V} (r:zH K ρ H ds vs) (N:List Str):jE K ρ H (ds.map some++List.replicate (N.length - ds.length) none) (yM N vs):=by
 have hl:=r.length
 refine⟨by simp[yM,hl],fun i d q=>?_⟩
 unfold yM
 by_cases hi:i < ds.length
 ·rw[List.getElem?_append_left (by simpa using hi),List.getElem?_map] at q
  cases e:ds[i]? with
  | none=>rw[e] at q;cases q
  | some d' =>
   rw[e] at q
   cases q
   obtain⟨v,e1,rv⟩:=r.get e
   refine⟨v,?_,rv⟩
   rw[List.getElem?_append_left (by simp;omega),List.getElem?_map,e1];rfl
 ·rw[List.getElem?_append_right (by simp;omega),List.getElem?_replicate] at q
  split at q<;>cases q
theorem zLu {x qual:Str}{st:Stmt}{f:Addr}{fd:FuncData}{N ps:List Str}{k:Nat}{b:M.SM}{q:M.F} (F:Fun K x qual st f fd) (Sc:jS N ps (zN st)) (rf:M.jJ ps.length (M.fn N.length b) q)
  (hbody:∀ (cdv:Value) (A:Around) (outer:List Env) (s:Shared) (H:Hp) (E:XK),z4 k (A.deeper (envOfC qual (zN st) s.heap.objs.size f cdv)) ->
   MSs (QG CX0 P w K mg base N qual (zN st) f cdv A outer s H E).nox Θ (jF st) b):jZ P w K mg base CX0 (k+1) f fd ps (SpM K Θ ps.length q):=by
 refine F.ok (k:=k) Sc (fun vs H Q E h=>?_) (fun cdv A outer s H vs Q E hr h=>?_)
 ·obtain⟨ρ,ds,S,hl,r,_⟩:=h
  rw[<- r.length,hl]
 ·obtain⟨ρ,ds,S,hl,r,rp,h⟩:=h
  refine⟨_,hbody cdv A outer s H E hr,ρ,_,S,zB5 r N,rp,?_⟩
  rcases rf ds S hl rp.cl (rp.len ▸ r.cl) with e | ⟨d,S',S1,em,e1,e2,emb,cd⟩
  ·rw[e] at h;exact h.elim
  ·rw[e1] at h
   have h2:=zE.gc emb cd rp h
   have e3:(b (ds.map some++List.replicate (N.length - ds.length) none) S).out=.ok (M.D.ren em d) S1:=e2
   show zm K Θ ρ H (b (ds.map some++List.replicate (N.length - ds.length) none) S) _
   revert e3
   cases b (ds.map some++List.replicate (N.length - ds.length) none) S with
   | rt a s=>intro e3;cases e3;exact h2
   | nx a s =>
    intro e3
    have e4:M.R.ok M.D.non s=.ok (M.D.ren em d) S1:=e3
    injection e4 with e5 e6
    subst e6
    rw[<- e5] at h2
    exact fun ρ1 H1 σ1 p1 l1 rp1 _=>h2 ρ1 H1 .non p1 l1 rp1 rfl
   | bk a s=>intro e3;cases e3
   | ct a s=>intro e3;cases e3
   | exc e a s=>intro e3;cases e3
   | no=>intro e3;cases e3
theorem j9 {x qual:Str}{st:Stmt}{f:Addr}{fd:FuncData}{N ps:List Str}{k:Nat}{b:M.SM}{q:M.F} (F:Fun K x qual st f fd) (Sc:jS N ps (zN st)) (rf:M.jJ ps.length (M.fn N.length b) q)
  (hbody:∀ (cdv:Value) (A:Around) (outer:List Env) (s:Shared) (H:Hp) (E:XK),z4 k (A.deeper (envOfC qual (zN st) s.heap.objs.size f cdv)) ->
   WSs (QG CX0 P w K mg base N qual (zN st) f cdv A outer s H E).nox Θ (jF st) b):jZ P w K mg base CX0 (k+1) f fd ps (SpM K Θ ps.length q):=by with_unfolding_all exact zLu (x:=x) (qual:=qual) (st:=st) (f:=f) (fd:=fd) (N:=N) (ps:=ps) (k:=k) (b:=b) (q:=q) F Sc rf hbody
end
end L2
namespace L2
open PySem PySem.Spec PyProof.Rows
section
variable {K:PySem.W.Frag}{Θ:Tab}
theorem zGc:Ad2 K Θ M.zE7 zK1:=by
 intro ρ H S x y X Y Q rp rx ry h
 cases x with
 | int i =>
  cases y with
  | int j=>cases rx;cases ry;exact zE.here (b:=V.int (i - j)) h rp rfl
  | _=>exact h.elim
 | _=>exact h.elim
theorem zDg {i:Int} (h:M.qe i=true):-(2 ^ 64) < i/\i < 2 ^ 64:=by
 have h':i.natAbs < 18446744073709551616:=of_decide_eq_true h
 exact⟨by omega,by omega⟩
theorem jc:Ad2 K Θ M.jO zJ6:=by
 intro ρ H S x y X Y Q rp rx ry h
 cases x with
 | int i =>
  cases y with
  | int j =>
   cases rx;cases ry
   have h':zE K Θ (zG K) ρ H (if 0 < j/\j.natAbs < 1073741824 then M.R.ok (M.D.int (i / j)) S else .no) Q:=h
   by_cases hc:0 < j/\j.natAbs < 1073741824
   ·rw[if_pos hc] at h';exact⟨⟨hc.1,by omega⟩,zE.here (b:=V.int (i / j)) h' rp rfl⟩
   ·rw[if_neg hc] at h';exact h'.elim
  | _=>exact h.elim
 | _=>exact h.elim
theorem jQ:Ad2 K Θ M.z9 zKl:=by
 intro ρ H S x y X Y Q rp rx ry h
 cases x with
 | int i =>
  cases y with
  | int j =>
   cases rx;cases ry
   have h':zE K Θ (zG K) ρ H (if 0 < j then M.R.ok (M.D.int (i % j)) S else .no) Q:=h
   by_cases hc:0 < j
   ·rw[if_pos hc] at h';exact⟨hc,zE.here (b:=V.int (i % j)) h' rp rfl⟩
   ·rw[if_neg hc] at h';exact h'.elim
  | _=>exact h.elim
 | _=>exact h.elim
theorem yU {ρ:List Addr}{S:M.S}{H:Hp} (rp:zT K Θ ρ S H) {i:Nat}{a:Addr} (ha:ρ[i]? = some a) {xs:List M.D} (q:S[i]? = some (.lst xs)):∃ zs,H a=some (.lst zs)/\zH K ρ H xs zs:=by
 obtain⟨b,e1,zs,e2,r⟩:=rp.obj i _ q
 rw[ha] at e1;cases e1
 exact⟨zs,e2,r⟩
theorem qp:Ad2 K Θ M.qM (fun x y H Q=>zHp x y H Q\/zFD K x y H Q):=by
 intro ρ H S x y X Y Q rp rx ry h
 cases x with
 | int i =>
  cases y with
  | int j=>cases rx;cases ry;exact .inl (zE.here (b:=V.int (i+j)) h rp rfl)
  | _=>exact h.elim
 | str a =>
  cases y with
  | str b =>
   obtain⟨rfl,oka⟩:=rx
   obtain⟨rfl,okb⟩:=ry
   have h':zE K Θ (zG K) ρ H (if a.length+b.length <= M.SZ then M.R.ok (M.D.str (a++b)) S else .no) Q:=h
   by_cases hc:a.length+b.length <= M.SZ
   ·rw[if_pos hc] at h'
    refine .inl ⟨by rw[jp,jp,<- yf];exact hc,?_⟩
    rw[zIf]
    exact zE.here (b:=V.str (ofT (a++b))) h' rp ⟨rfl,zBV oka okb⟩
   ·rw[if_neg hc] at h';exact h'.elim
  | _=>exact h.elim
 | tup a =>
  cases y with
  | tup b =>
   obtain⟨l,xs,rfl,hq,r⟩:=rx
   obtain⟨l',ys,rfl,hq',r'⟩:=ry
   have h':zE K Θ (zG K) ρ H (if a≠[]/\a.length+b.length <= M.SZ then M.R.ok (M.D.tup (a++b)) S else .no) Q:=h
   by_cases hc:a≠[]/\a.length+b.length <= M.SZ
   ·rw[if_pos hc] at h'
    refine .inr ⟨l,l',xs,ys,rfl,rfl,hq,hq',fun z=>hc.1 ?_,by rw[<- r.length,<- r'.length,<- yf];exact hc.2,fun hy=>?_,fun hy p hp=>?_⟩
    ·subst z
     have:=r.length
     exact List.length_eq_zero_iff.mp this
    ·subst hy
     have hb:b=[]:=List.length_eq_zero_iff.mp r'.length
     subst hb
     rw[List.append_nil] at h'
     exact zE.here h' rp ⟨l,xs,rfl,hq,r⟩
    ·exact h' ρ _ _ (List.prefix_refl _) (Le.new hp _) (rp.aside hp _) ⟨p,_,rfl,SqT.of jB,(r.app r').mono (List.prefix_refl _) (Le.new hp _)⟩
   ·rw[if_neg hc] at h';exact h'.elim
  | _=>exact h.elim
 | ref i =>
  cases y with
  | ref j =>
   obtain⟨a,rfl,ea⟩:=rx
   obtain⟨b,rfl,eb⟩:=ry
   have h':zE K Θ (zG K) ρ H (match S[i]?,S[j]? with
    | some (.lst xs),some (.lst ys)=>if xs.length+ys.length <= M.SZ then M.alloc (.lst (xs++ys)) S else .no
    | _,_=>.no) Q:=h
   split at h'
   ·rename_i xs ys q1 q2
    obtain⟨zs,e1,r1⟩:=yU rp ea q1
    obtain⟨ws,e2,r2⟩:=yU rp eb q2
    by_cases hc:xs.length+ys.length <= M.SZ
    ·rw[if_pos hc] at h'
     exact .inl ⟨zs,ws,e1,e2,by rw[<- r1.length,<- r2.length,<- yf];exact hc,fun p hp=>h'.alloc rp (r1.app r2) hp⟩
    ·rw[if_neg hc] at h';exact h'.elim
   ·exact h'.elim
  | _=>exact h.elim
 | _=>exact h.elim
theorem zBD:AdC K Θ M.cLt uLt:=by
 intro ρ H S x y X Y Q rp rx ry h
 cases x with
 | int i =>
  cases y with
  | int j=>cases rx;cases ry;exact zE.here (b:=decide (i < j)) h rp rfl
  | _=>exact h.elim
 | str a =>
  cases y with
  | str b =>
   obtain⟨rfl,_⟩:=rx
   obtain⟨rfl,_⟩:=ry
   show Q (.bl (decide ((ofT a).cps.toList < (ofT b).cps.toList))) H
   rw[ZF,ZF]
   exact zE.here (b:=decide (a < b)) h rp rfl
  | _=>exact h.elim
 | _=>exact h.elim
theorem zIN:AdC K Θ M.cLe uLe:=by
 intro ρ H S x y X Y Q rp rx ry h
 cases x with
 | int i =>
  cases y with
  | int j=>cases rx;cases ry;exact zE.here (b:=decide (i <= j)) h rp rfl
  | _=>exact h.elim
 | str a =>
  cases y with
  | str b =>
   obtain⟨rfl,_⟩:=rx
   obtain⟨rfl,_⟩:=ry
   show Q (.bl (!decide ((ofT b).cps.toList < (ofT a).cps.toList))) H
   rw[ZF,ZF]
   exact zE.here (b:=!decide (b < a)) h rp rfl
  | _=>exact h.elim
 | _=>exact h.elim
theorem zIW:AdC K Θ M.cGt uGt:=by
 intro ρ H S x y X Y Q rp rx ry h
 cases x with
 | int i =>
  cases y with
  | int j=>cases rx;cases ry;exact zE.here (b:=decide (j < i)) h rp rfl
  | _=>exact h.elim
 | _=>exact h.elim
theorem zB3 {ρ:List Addr}{H:Hp}{ds:List M.D}{xs:List V}{i:Int}{d:M.D} (r:zH K ρ H ds xs) (e:M.atI ds i=some d):∃ v,atI xs i=some v/\zG K ρ H d v:=by
 unfold M.atI at e
 cases q:M.ixN ds.length i with
 | none=>rw[q] at e;cases e
 | some j =>
  rw[q] at e
  obtain⟨v,e1,rv⟩:=r.get (i:=j) e
  have q':ixN xs.length i=some j:=by rw[<- r.length];exact q
  exact⟨v,by unfold atI;rw[q'];exact e1,rv⟩
end
end L2
namespace L2
open PySem PySem.Spec PyProof.Rows
section
variable {K:PySem.W.Frag}{Θ:Tab}
theorem zJ1 {X:Cx}{a:Expr}{ma:M.EM} (ha:ME X Θ a ma) (he:∀ whole,isTrue a X.env whole=(do let v <- whole;standAt a.pos;holding [v] (truthy v)):=by intro _;rfl):MT X Θ a (M.QJ ma) :=
 (zHM ha he).imp fun σ H Q ⟨ρ,σ',S,st,rp,h⟩=>⟨ρ,σ',S,st,rp,zE.bind h fun ρ1 H1 x X1 S1 p1 l1 rp1 rx h1=>by
  cases x with
  | non=>cases rx;exact⟨false,rfl,zE.here (b:=false) h1 rp1 rfl⟩
  | bl b=>cases rx;exact⟨b,rfl,zE.here (b:=b) h1 rp1 rfl⟩
  | int i=>cases rx;exact⟨_,rfl,zE.here (b:=(i != 0)) h1 rp1 (by show decide (i≠0)=(i != 0);by_cases hi:i=0<;>simp[hi])⟩
  | str z =>
   obtain⟨rfl,_⟩:=rx
   by_cases hz:z.length <= M.SZ
   ·simp only[M.Zg,if_pos hz] at h1
    refine⟨_,⟨by rw[jp,<- yf];exact hz,rfl⟩,zE.here (b:=(((ofT z).length:Int) != 0)) h1 rp1 ?_⟩
    show (!z.isEmpty)=_
    rw[jp]
    cases z<;>simp<;>omega
   ·simp only[M.Zg,if_neg hz] at h1;exact h1.elim
  | tup ds =>
   obtain⟨l,xs,rfl,hq,r⟩:=rx
   refine⟨_,.inr (.inl ⟨xs,hq,rfl⟩),zE.here (b:=!xs.isEmpty) h1 rp1 ?_⟩
   show (!ds.isEmpty)=_
   have:=r.length
   cases ds<;>cases xs<;>first | rfl | cases this
  | ro ds =>
   obtain⟨l,xs,rfl,hq,r⟩:=rx
   refine⟨_,.inl ⟨xs,hq.sq,rfl⟩,zE.here (b:=!xs.isEmpty) h1 rp1 ?_⟩
   show (!ds.isEmpty)=_
   have:=r.length
   cases ds<;>cases xs<;>first | rfl | cases this
  | ref p =>
   obtain⟨a,rfl,ea⟩:=rx
   cases q:S1[p]? with
   | none=>simp[M.Zg,q] at h1;exact h1.elim
   | some o =>
    cases o with
    | lst xs =>
     simp only[M.Zg,q] at h1
     obtain⟨zs,e1,r⟩:=yU rp1 ea q
     refine⟨_,.inl ⟨zs,SqL.of e1,rfl⟩,zE.here (b:=!zs.isEmpty) h1 rp1 ?_⟩
     show (!xs.isEmpty)=_
     have:=r.length
     cases xs<;>cases zs<;>first | rfl | cases this
    | dct kvs =>
     simp only[M.Zg,q] at h1
     obtain⟨b,e1,zs,e2,r⟩:=rp1.obj _ _ q
     rw[ea] at e1;cases e1
     refine⟨_,.inr (.inr ⟨zs,e2,rfl⟩),zE.here (b:=!zs.isEmpty) h1 rp1 ?_⟩
     cases r<;>rfl
    | fdc _=>simp[M.Zg,q] at h1;exact h1.elim
    | dtt _=>simp[M.Zg,q] at h1;exact h1.elim
    | ftt _=>simp[M.Zg,q] at h1;exact h1.elim
    | ins c fs=>simp[M.Zg,q] at h1;exact h1.elim
  | ty n=>exact h1.elim⟩
theorem ZA {X:Cx}{a:Expr}{ma:M.EM} (ha:WE X Θ a ma) (he:∀ whole,isTrue a X.env whole=(do let v <- whole;standAt a.pos;holding [v] (truthy v)):=by intro _;rfl):WT X Θ a (M.QJ ma):=by with_unfolding_all exact zJ1 (X:=X) (a:=a) (ma:=ma) ha he
inductive TyM (K:PySem.W.Frag) (H:Hp):V->String->Prop where
 | of {x:V}{A:String} (h:ZV K H x (.type A)):TyM K H x A
 | sqT {a:Addr}{xs:List V} (h:SqT K H a xs):TyM K H (.ref a) "tuple"
 | sqL {a:Addr}{xs:List V} (h:SqL K H a xs):TyM K H (.ref a) "list"
noncomputable def zHa (K:PySem.W.Frag):List V->Hp->VK->Prop:=fun xs H Q=>∃ x n A b,xs=[x,.ty n]/\TyM K H x A/\PySem.W.kitOne K (.type A) (.type n)=some b/\Q (.bl b) H
theorem zAe {X:Cx}:jh X (.builtin "isinstance") (zHa X.K):=by
 intro pins s σ H xs us Q I r h
 obtain⟨x,n,A,b,rfl,ty,e,q⟩:=h
 obtain⟨u,w',rfl,ru,rc⟩:=zLt r
 cases rc
 cases ty with
 | of h=>exact wpAny_with_toks (n:=1) I.tk (zFn I ru h e fun tk hk=>⟨.bl b,H,I.tok tk hk,rfl,q⟩)
 | sqT h =>
  cases ru
  obtain⟨its,_,⟨o,h1,h2,_⟩,_⟩:=I.tuple h
  exact wpAny_with_toks (n:=1) I.tk (PySem.W.kia_one PySem.W.kitx_tuple I.kIn ⟨o,h1,h2⟩ e (fun z=>nomatch z) fun tk hk=>⟨.bl b,H,I.tok tk hk,rfl,q⟩)
 | sqL h =>
  cases ru
  obtain⟨its,_,⟨o,n,h1,h2,_⟩,_⟩:=I.list h
  exact wpAny_with_toks (n:=1) I.tk (PySem.W.kia_one PySem.W.kitx_list I.kIn ⟨o,h1,h2⟩ e (fun z=>nomatch z) fun tk hk=>⟨.bl b,H,I.tok tk hk,rfl,q⟩)
theorem zJs (n:M.Kd):PySem.W.kitOne K (.type "NoneType") (.type (j5 n))=some false/\PySem.W.kitOne K (.type "bool") (.type (j5 n))=some (match n with | .bool=>true | .int=>true | _=>false) /\
  PySem.W.kitOne K (.type "int") (.type (j5 n))=some (match n with | .int=>true | _=>false)/\PySem.W.kitOne K (.type "str") (.type (j5 n))=some (match n with | .str=>true | _=>false) /\
  PySem.W.kitOne K (.type "tuple") (.type (j5 n))=some (match n with | .tuple=>true | _=>false)/\PySem.W.kitOne K (.type "list") (.type (j5 n))=some (match n with | .list=>true | _=>false) /\
  PySem.W.kitOne K (.type "dict") (.type (j5 n))=some (match n with | .dict=>true | _=>false):=by
 cases n<;>exact⟨Z7 (by decide +kernel),Z7 (by decide +kernel),Z7 (by decide +kernel),Z7 (by decide +kernel),Z7 (by decide +kernel),Z7 (by decide +kernel),Z7 (by decide +kernel)⟩
theorem zDQ:AdN K Θ M.JG (zHa K):=by
 intro ρ H S xs Xs Q rp rx h
 match xs,rx,h with
 | [x,.ty n],rx,h =>
  obtain⟨v,_,rfl,rv,_,_,rfl,rfl,rfl⟩:=rx
  obtain⟨k1,k2,k3,k4,k5,k6,k7⟩:=zJs (K:=K) n
  have fin:∀ {A:String}{b:Bool},M.yC n x S=.ok b S->TyM K H v A->PySem.W.kitOne K (.type A) (.type (j5 n))=some b->zHa K [v,.ty (j5 n)] H Q:=fun {A b} e ty k=>by
   have h':zE K Θ (zG K) ρ H ((M.yC n x S).bind fun b s=>.ok (.bl b) s) Q:=h
   rw[e] at h'
   exact⟨v,j5 n,A,b,rfl,ty,k,zE.here (b:=V.bl b) h' rp rfl⟩
  cases x with
  | non=>cases rv;exact fin rfl (.of .non) k1
  | bl b=>cases rv;exact fin rfl (.of (.bl b)) k2
  | int i=>cases rv;exact fin rfl (.of (.int i)) k3
  | str z=>obtain⟨rfl,_⟩:=rv;exact fin rfl (.of (.str _)) k4
  | tup ds=>obtain⟨l,ys,rfl,hq,r⟩:=rv;exact fin rfl (.sqT hq) k5
  | ro ds=>obtain⟨l,ys,rfl,hq,r⟩:=rv;exact fin rfl (.sqL hq.sq) k6
  | ty m=>exact h.elim
  | ref p =>
   obtain⟨a,rfl,ea⟩:=rv
   cases q:S[p]? with
   | none=>simp[M.JG,M.yC,q] at h;exact h.elim
   | some o =>
    cases o with
    | lst xs =>
     obtain⟨zs,e1,r⟩:=yU rp ea q
     refine fin ?_ (.sqL (SqL.of e1)) k6
     simp only[M.yC,q]<;>(cases n<;>rfl)
    | dct kvs =>
     obtain⟨b,e1,zs,e2,r⟩:=rp.obj _ _ q
     rw[ea] at e1;cases e1
     refine fin ?_ (.of (.dK e2)) k7
     simp only[M.yC,q]<;>(cases n<;>rfl)
    | fdc _=>simp[M.JG,M.yC,q] at h;exact h.elim
    | dtt _=>simp[M.JG,M.yC,q] at h;exact h.elim
    | ftt _=>simp[M.JG,M.yC,q] at h;exact h.elim
    | ins c fs=>simp[M.JG,M.yC,q] at h;exact h.elim
 | [_,.non],_,h=>exact h.elim
 | [_,.bl _],_,h=>exact h.elim
 | [_,.int _],_,h=>exact h.elim
 | [_,.str _],_,h=>exact h.elim
 | [_,.tup _],_,h=>exact h.elim
 | [_,.ro _],_,h=>exact h.elim
 | [_,.ref _],_,h=>exact h.elim
 | [],_,h=>exact h.elim
 | [_],_,h=>exact h.elim
 | _::b::_::_,_,h=>cases b<;>exact h.elim
noncomputable def ofP:M.P->PyData
 | .non=>.none
 | .bl b=>.bool b
 | .int i=>.int i
 | .str x=>.str (ofT x)
 | .tup ps=>.tuple (all ps)
 | .lst ps=>.list (all ps)
where all:List M.P->List PyData
 | []=>[]
 | p::ps=>ofP p::all ps
theorem zEX (x y:M.T):(ofT x == ofT y)=(x == y):=by
 by_cases h:x=y
 ·subst h;simp
 ·rw[beq_eq_false_iff_ne.mpr h,beq_eq_false_iff_ne.mpr fun e=>h (Qy e)]
mutual
theorem zBZ:∀ p q:M.P,PyData.eqv (ofP p) (ofP q)=M.P.eqv p q
 | .non,.non=>rfl
 | .non,.bl _=>rfl
 | .non,.int _=>rfl
 | .non,.str _=>rfl
 | .non,.tup _=>rfl
 | .non,.lst _=>rfl
 | .bl _,.non=>rfl
 | .bl _,.bl _=>rfl
 | .bl _,.int _=>rfl
 | .bl _,.str _=>rfl
 | .bl _,.tup _=>rfl
 | .bl _,.lst _=>rfl
 | .int _,.non=>rfl
 | .int _,.bl _=>rfl
 | .int _,.int _=>rfl
 | .int _,.str _=>rfl
 | .int _,.tup _=>rfl
 | .int _,.lst _=>rfl
 | .str _,.non=>rfl
 | .str _,.bl _=>rfl
 | .str _,.int _=>rfl
 | .str x,.str y=>zEX x y
 | .str _,.tup _=>rfl
 | .str _,.lst _=>rfl
 | .tup _,.non=>rfl
 | .tup _,.bl _=>rfl
 | .tup _,.int _=>rfl
 | .tup _,.str _=>rfl
 | .tup ps,.tup qs=>zAU ps qs
 | .tup _,.lst _=>rfl
 | .lst _,.non=>rfl
 | .lst _,.bl _=>rfl
 | .lst _,.int _=>rfl
 | .lst _,.str _=>rfl
 | .lst _,.tup _=>rfl
 | .lst ps,.lst qs=>zAU ps qs
theorem zAU:∀ ps qs:List M.P,PyData.eqvAll (ofP.all ps) (ofP.all qs)=M.P.eqvs ps qs
 | [],[]=>rfl
 | [],_::_=>rfl
 | _::_,[]=>rfl
 | p::ps,q::qs=>by
  show (PyData.eqv (ofP p) (ofP q) && PyData.eqvAll (ofP.all ps) (ofP.all qs))=(M.P.eqv p q && M.P.eqvs ps qs)
  rw[zBZ p q,zAU ps qs]
end
mutual
theorem Qp:∀ p:M.P,PyData.depth (ofP p)=M.P.dep p
 | .non=>rfl
 | .bl _=>rfl
 | .int _=>rfl
 | .str _=>rfl
 | .tup ps=>by show PyData.depthAll (ofP.all ps)+1=M.P.deps ps+1;rw[zAQ ps]
 | .lst ps=>by show PyData.depthAll (ofP.all ps)+1=M.P.deps ps+1;rw[zAQ ps]
theorem zAQ:∀ ps:List M.P,PyData.depthAll (ofP.all ps)=M.P.deps ps
 | []=>rfl
 | p::ps=>by show max (PyData.depth (ofP p)) (PyData.depthAll (ofP.all ps))=max (M.P.dep p) (M.P.deps ps);rw[Qp p,zAQ ps]
end
section
variable {ρ:List Addr}{H:Hp}
mutual
theorem zFZ {g:Nat->Option M.P} (hg:∀ i p v,g i=some p->zG K ρ H (.ref i) v->jt K H v (ofP p)/\(ofP p).canLay0=true):∀ {d:M.D}{p:M.P}{v:V},M.qc g d=some p->zG K ρ H d v->jt K H v (ofP p)/\(ofP p).canLay0=true
 | .non,_,_,e,r=>by cases e;cases r;exact⟨.non,rfl⟩
 | .bl _,_,_,e,r=>by cases e;cases r;exact⟨.bl _,rfl⟩
 | .int _,_,_,e,r=>by cases e;cases r;exact⟨.int _,rfl⟩
 | .str x,_,_,e,r=>by
  cases e
  obtain⟨rfl,ok⟩:=r
  refine⟨.str _,?_⟩
  show PyData.strOk (ofT x)=true
  unfold PyData.strOk ofT
  have ok':x.all (fun c=>decide (c < 1114112))=true:=ok
  simpa using ok'
 | .tup ds,_,_,e,r=>by
  obtain⟨l,xs,rfl,hq,rr⟩:=r
  have e':(M.qc.all g ds).map M.P.tup=some _:=e
  cases q:M.qc.all g ds with
  | none=>rw[q] at e';cases e'
  | some ps =>
   rw[q] at e'
   cases e'
   obtain⟨h1,h2⟩:=zA0 hg q rr
   exact⟨.tup hq h1,h2⟩
 | .ro ds,_,_,e,r=>by
  obtain⟨l,xs,rfl,hq,rr⟩:=r
  have e':(M.qc.all g ds).map M.P.lst=some _:=e
  cases q:M.qc.all g ds with
  | none=>rw[q] at e';cases e'
  | some ps =>
   rw[q] at e'
   cases e'
   obtain⟨h1,h2⟩:=zA0 hg q rr
   exact⟨.lst hq.sq h1,h2⟩
 | .ref i,_,_,e,r=>hg i _ _ e r
 | .ty _,_,_,e,_=>by cases e
theorem zA0 {g:Nat->Option M.P} (hg:∀ i p v,g i=some p->zG K ρ H (.ref i) v->jt K H v (ofP p)/\(ofP p).canLay0=true):∀ {ds:List M.D}{ps:List M.P}{xs:List V},M.qc.all g ds=some ps->zH K ρ H ds xs->yS K H xs (ofP.all ps)/\PyData.canLayAll0 (ofP.all ps)=true
 | [],_,_,e,r=>by cases e;cases r;exact⟨.nil,rfl⟩
 | d::ds,_,_,e,r=>by
  obtain⟨y,ys,rfl,r1,r2⟩:=r
  have e':(match M.qc g d,M.qc.all g ds with | some p,some ps=>some (p::ps) | _,_=>none)=some _:=e
  cases q1:M.qc g d with
  | none=>rw[q1] at e';cases e'
  | some p =>
   cases q2:M.qc.all g ds with
   | none=>rw[q1,q2] at e';cases e'
   | some ps =>
    rw[q1,q2] at e'
    cases e'
    obtain⟨h1,h2⟩:=zFZ hg q1 r1
    obtain⟨h3,h4⟩:=zA0 hg q2 r2
    refine⟨.cons h1 h3,?_⟩
    show (PyData.canLay0 (ofP p) && PyData.canLayAll0 (ofP.all ps))=true
    rw[h2,h4];rfl
end
theorem Jr {S:M.S} (rp:zT K Θ ρ S H):∀ (n:Nat) {d:M.D}{p:M.P}{v:V},M.toP n S d=some p->zG K ρ H d v->jt K H v (ofP p)/\(ofP p).canLay0=true
 | 0,_,_,_,e,r=>zFZ (fun i p v e _=>by cases e) e r
 | n+1,_,_,_,e,r=>zFZ (fun i p v e r=>by
   obtain⟨a,rfl,ea⟩:=r
   have e':(match M.jV S i with | some xs=>(M.qc.all (fun j=>M.toP n S (.ref j)) xs).map M.P.lst | none=>none)=some p:=e
   cases q:S[i]? with
   | none=>simp[M.jV,q] at e'
   | some o =>
    cases o with
    | lst xs =>
     simp only[M.jV,q] at e'
     obtain⟨zs,e1,rr⟩:=yU rp ea q
     cases q2:M.qc.all (fun j=>M.toP n S (.ref j)) xs with
     | none=>rw[q2] at e';cases e'
     | some ps =>
      rw[q2] at e'
      cases e'
      obtain⟨h1,h2⟩:=zA0 (fun j p v e r=>Jr rp n e r) q2 rr
      exact⟨.lst (SqL.of e1) h1,h2⟩
    | dct kvs=>simp[M.jV,q] at e'
    | fdc _=>simp[M.jV,q] at e'
    | dtt _=>simp[M.jV,q] at e'
    | ftt _=>simp[M.jV,q] at e'
    | ins c fs=>simp[M.jV,q] at e') e r
end
noncomputable abbrev DR (K:PySem.W.Frag) (ρ:List Addr) (H:Hp):List (M.D×M.D)->List (Key×V)->Prop:=Paired fun p q=>Zl p.1 q.1/\zG K ρ H p.2 q.2
theorem zAS {d e:M.D}{a b:Key} (ha:Zl d a) (hb:Zl e b):(a=b)=(d=e):=by
 cases d with
 | int i =>
  cases ha
  cases e with
  | int j=>cases hb;exact propext ⟨fun z=>by cases z;rfl,fun z=>by cases z;rfl⟩
  | str y=>obtain⟨rfl,_⟩:=hb;exact propext ⟨fun z=>(nomatch z),fun z=>(nomatch z)⟩
  | _=>exact hb.elim
 | str x =>
  obtain⟨rfl,_⟩:=ha
  cases e with
  | int j=>cases hb;exact propext ⟨fun z=>(nomatch z),fun z=>(nomatch z)⟩
  | str y=>obtain⟨rfl,_⟩:=hb;exact propext ⟨fun z=>by rw[Qy (Sum.inr.inj z)],fun z=>by cases z;rfl⟩
  | _=>exact hb.elim
 | _=>exact ha.elim
theorem JA {ρ:List Addr}{H:Hp}{d:M.D}{v:V} (h:M.y7 d=true) (r:zG K ρ H d v):∃ k,Zl d k/\v=kV k:=by
 cases d with
 | int i=>cases r;exact⟨.inl i,rfl,rfl⟩
 | str x=>obtain⟨rfl,ok⟩:=r;exact⟨.inr (ofT x),⟨rfl,ok⟩,rfl⟩
 | _=>cases h
section
variable {ρ:List Addr}{H:Hp}{kvs:List (M.D×M.D)}{ks:List (Key×V)}{d:M.D}{k:Key}
theorem DR.val (r:DR K ρ H kvs ks) (hk:Zl d k):match M.zy d kvs with | some e=>∃ v,q9 ks k=some v/\zG K ρ H e v | none=>q9 ks k=none:=by
 induction r with
 | nil=>exact rfl
 | @cons p q ps qs h t ih =>
  have e:=zAS h.1 hk
  by_cases hd:p.1=d
  ·have hq:q.1=k:=e.mpr hd
   rw[JU hq,M.zy,List.lookup_cons,beq_iff_eq.mpr hd.symm]
   exact⟨_,rfl,h.2⟩
  ·have hq:¬ q.1=k:=fun z=>hd (e.mp z)
   rw[JE hq,M.zy,List.lookup_cons,beq_eq_false_iff_ne.mpr (Ne.symm hd)]
   exact ih
theorem DR.any (r:DR K ρ H kvs ks) (hk:Zl d k):(ks.any fun kv=>decide (kv.1=k))=kvs.any fun kv=>decide (kv.1=d):=by
 induction r with
 | nil=>rfl
 | @cons p q ps qs h t ih =>
  rw[List.any_cons,List.any_cons,ih]
  congr 1
  exact decide_eq_decide.mpr (zAS h.1 hk ▸ Iff.rfl)
theorem DR.put (r:DR K ρ H kvs ks) (hk:Zl d k) {e:M.D}{v:V} (rv:zG K ρ H e v):DR K ρ H (M.qa d e kvs) (y8 ks k v):=by
 unfold M.qa y8
 rw[r.any hk]
 by_cases ha:(kvs.any fun kv=>decide (kv.1=d))=true
 ·rw[if_pos ha,if_pos ha]
  clear ha
  induction r with
  | nil=>exact .nil
  | @cons p q ps qs h t ih =>
   rw[List.map_cons,List.map_cons]
   refine .cons ?_ ih
   have eq:=zAS h.1 hk
   by_cases hd:p.1=d
   ·rw[if_pos hd,if_pos (eq.mpr hd)];exact⟨h.1,rv⟩
   ·rw[if_neg hd,if_neg fun z=>hd (eq.mp z)];exact h
 ·rw[if_neg ha,if_neg ha]
  exact Paired.snoc r ⟨hk,rv⟩
end
theorem Qn {ρ:List Addr}{S:M.S}{H:Hp} (rp:zT K Θ ρ S H) {i:Nat}{a:Addr} (ha:ρ[i]? = some a) {kvs:List (M.D×M.D)} (q:S[i]? = some (.dct kvs)):∃ ks,H a=some (.dK ks)/\DR K ρ H kvs ks:=by
 obtain⟨b,e1,zs,e2,r⟩:=rp.obj i _ q
 rw[ha] at e1;cases e1
 exact⟨zs,e2,r⟩
theorem zFf {ρ:List Addr}{S:M.S}{H:Hp} (rp:zT K Θ ρ S H) {i:Nat}{a:Addr} (ha:ρ[i]? = some a) {kvs:List (M.D×M.D)} (q:S[i]? = some (.fdc kvs)):∃ o ks,H a=some (.frz o (.dK ks))/\DR K ρ H kvs ks:=by
 obtain⟨b,e1,o,zs,e2,r⟩:=rp.obj i _ q
 rw[ha] at e1;cases e1
 exact⟨o,zs,e2,r⟩
inductive Zf (K:PySem.W.Frag) (H:Hp) (kb:List (Key×V)):List (Key×V)->Bool->Prop where
 | nil:Zf K H kb [] true
 | miss {k:Key}{v:V}{r:List (Key×V)} (h:q9 kb k=none):Zf K H kb ((k,v)::r) false
 | hit {k:Key}{v y:V}{r:List (Key×V)}{d e:PyData}{b:Bool} (h:q9 kb k=some y) (hd:jt K H v d) (he:jt K H y e) (sd:SeqAt.shaped d=true) (se:SeqAt.shaped e=true) (t:Zf K H kb r b):Zf K H kb ((k,v)::r) (PyData.eqv d e && b)
noncomputable def zHE (neg:Bool) (K:PySem.W.Frag):R2:=fun x y H Q=>∃ a b ka kb r,x=.ref a/\y=.ref b/\H a=some (.dK ka)/\H b=some (.dK kb)/\(ka.length=kb.length->Zf K H kb ka r)/\Q (.bl (if neg then !(ka.length == kb.length && r) else (ka.length == kb.length && r))) H
theorem zBq {X:Cx}{pins:List (Addr×Obj)}{σ:St}{H:Hp}{s:Shared}{A:Around} (I:Inv X pins σ H s) (hu:A.units+64 < cLine) {kb:List (Key×V)}{vb:List (Key×Value)} (rb:KV kb vb):∀ {ka:List (Key×V)}{va:List (Key×Value)}{r:Bool},KV ka va->Zf X.K H kb ka r->PySem.W.KeqHits A s vb va r
 | _,_,_,ra,.nil=>by cases ra;exact .nil
 | _,_,_,ra,.miss h=>by
  cases ra with
  | @cons p q ps qs h1 t =>
   obtain⟨k,v⟩:=q
   have hk:_=k:=h1.1
   have hv:=rb.val k
   rw[<- hk,h] at hv
   refine .miss ?_
   rw[<- hk]
   cases q2:valueAt vb _ with
   | none=>rfl
   | some w=>rw[q2] at hv;exact hv.elim
 | _,_,_,ra,.hit h hd he sd se t=>by
  cases ra with
  | @cons p q ps qs h1 t1 =>
   obtain⟨k,v⟩:=q
   have hk:_=k:=h1.1
   have hv:=rb.val k
   rw[<- hk,h] at hv
   cases q2:valueAt vb k with
   | none=>rw[hk,q2] at hv;exact hv.elim
   | some w =>
    rw[hk,q2] at hv
    obtain⟨as,r1⟩:=hd.reads I h1.2
    obtain⟨bs,r2⟩:=he.reads I hv
    exact .hit q2 (SeqAt.eqAt_reads _ _ A s _ _ as bs r1 r2 (SeqAt.canLay_of_shaped sd) (SeqAt.canLay_of_shaped se) (SeqAt.room_of_shaped sd hu)) (zBq I hu rb t1 t)
theorem zJx {X:Cx}{k:Nat} (hr:z4 k X.A):OpR X (compareOp .Eq) (zHE false X.K):=by
 intro pins s σ H x y v u Q I rx ry h
 obtain⟨a,b,ka,kb,r,rfl,rfl,ha,hb,hh,q⟩:=h
 cases rx;cases ry
 obtain⟨za,la,va,ra,da⟩:=J8 I.hok ha
 obtain⟨zb,lb,vb,rb,db⟩:=J8 I.hok hb
 refine PySem.W.keq_eq la lb da db hr.units0 (fun e=>zBq I (by show X.A.units+1+64 < _;have:=hr.un;omega) rb ra (hh (by rw[ra.length,rb.length];exact e))) ⟨.bl _,H,I,rfl,?_⟩
 rw[<- ra.length,<- rb.length]
 exact q
theorem zLF {X:Cx}{k:Nat} (hr:z4 k X.A):OpR X (compareOp .NotEq) (zHE true X.K):=by
 intro pins s σ H x y v u Q I rx ry h
 obtain⟨a,b,ka,kb,r,rfl,rfl,ha,hb,hh,q⟩:=h
 cases rx;cases ry
 obtain⟨za,la,va,ra,da⟩:=J8 I.hok ha
 obtain⟨zb,lb,vb,rb,db⟩:=J8 I.hok hb
 refine PySem.W.keq_ne la lb da db hr.units0 (fun e=>zBq I (by show X.A.units+1+64 < _;have:=hr.un;omega) rb ra (hh (by rw[ra.length,rb.length];exact e))) ⟨.bl _,H,I,rfl,?_⟩
 rw[<- ra.length,<- rb.length]
 exact q
theorem zDB {ρ:List Addr}{H:Hp}{S:M.S} (rp:zT K Θ ρ S H) {ws:List (M.D×M.D)}{kb:List (Key×V)} (rb:DR K ρ H ws kb):∀ {ks:List (M.D×M.D)}{ka:List (Key×V)}{b:Bool},DR K ρ H ks ka->M.dEq S ws ks=some b->Zf K H kb ka b
 | _,_,_,.nil,e=>by cases e;exact .nil
 | (k,v)::ks,(kk,vv)::ka,b,.cons h t,e=>by
  have hv:=DR.val rb h.1
  unfold M.dEq at e
  cases q:M.zy k ws with
  | none =>
   rw[q] at e hv
   cases e
   exact .miss hv
  | some w =>
   rw[q] at e hv
   obtain⟨y,hy,ry⟩:=hv
   dsimp only at e
   cases q1:M.toP 8 S v with
   | none=>rw[q1] at e;cases e
   | some p1 =>
    cases q2:M.toP 8 S w with
    | none=>rw[q1,q2] at e;cases e
    | some p2 =>
     cases q3:M.dEq S ws ks with
     | none=>rw[q1,q2,q3] at e;cases e
     | some b' =>
      rw[q1,q2,q3] at e
      dsimp only at e
      by_cases hc:M.P.dep p1 <= 64/\M.P.dep p2 <= 64
      ·rw[if_pos hc] at e
       cases e
       obtain⟨d1,c1⟩:=Jr rp _ q1 h.2
       obtain⟨d2,c2⟩:=Jr rp _ q2 ry
       rw[<- zBZ]
       refine .hit hy d1 d2 ?_ ?_ (zDB rp rb t q3)
       ·unfold SeqAt.shaped;rw[c1,Bool.true_and,Qp];exact decide_eq_true hc.1
       ·unfold SeqAt.shaped;rw[c2,Bool.true_and,Qp];exact decide_eq_true hc.2
      ·rw[if_neg hc] at e;cases e
theorem zDI {ρ:List Addr}{H:Hp}{S:M.S}{x y:M.D}{X1 Y:V}{Q':Bool->Hp->Prop} (rp:zT K Θ ρ S H) (rx:zG K ρ H x X1) (ry:zG K ρ H y Y) (h:zE K Θ rB ρ H (M.zCk x y S) Q') :
  ∃ a b ka kb r,X1=.ref a/\Y=.ref b/\H a=some (.dK ka)/\H b=some (.dK kb)/\(ka.length=kb.length->Zf K H kb ka r)/\Q' (ka.length == kb.length && r) H:=by
 unfold M.zCk at h
 split at h
 ·rename_i i j
  split at h
  ·rename_i ks ws e1 e2
   obtain⟨a,rfl,ha⟩:=rx
   obtain⟨b,rfl,hb⟩:=ry
   obtain⟨ka,h1,r1⟩:=Qn rp ha e1
   obtain⟨kb,h2,r2⟩:=Qn rp hb e2
   have l1:=Paired.length r1
   have l2:=Paired.length r2
   split at h
   ·rename_i hl
    split at h
    ·rename_i bb q
     refine⟨a,b,ka,kb,bb,rfl,rfl,h1,h2,fun _=>zDB rp r2 r1 q,?_⟩
     rw[show (ka.length == kb.length)=true by rw[beq_iff_eq];omega,Bool.true_and]
     exact zE.here (b:=bb) h rp rfl
    ·exact h.elim
   ·rename_i hl
    refine⟨a,b,ka,kb,false,rfl,rfl,h1,h2,fun e=>absurd (by omega) hl,?_⟩
    rw[Bool.and_false]
    exact zE.here (b:=false) h rp rfl
  ·exact h.elim
 ·exact h.elim
noncomputable def zE6 (K:PySem.W.Frag) (neg:Bool):R2:=fun x y H Q=>(zBp x y=true/\Q (.bl (if neg then !decide (x=y) else decide (x=y))) H)\/zHx K neg x y H Q\/zHE neg K x y H Q
theorem yD {X:Cx}{k:Nat} (hr:z4 k X.A):OpR X (compareOp .Eq) (zE6 X.K false):=by
 intro pins s σ H x y v u Q I rx ry h
 rcases h with h | h | h
 ·exact zMG pins s σ H x y v u Q I rx ry h
 ·exact zJ9 hr pins s σ H x y v u Q I rx ry h
 ·exact zJx hr pins s σ H x y v u Q I rx ry h
theorem zKh {X:Cx}{k:Nat} (hr:z4 k X.A):OpR X (compareOp .NotEq) (zE6 X.K true):=by
 intro pins s σ H x y v u Q I rx ry h
 rcases h with h | h | h
 ·exact zLz pins s σ H x y v u Q I rx ry h
 ·exact zKK hr pins s σ H x y v u Q I rx ry h
 ·exact zLF hr pins s σ H x y v u Q I rx ry h
theorem zET {ρ:List Addr}{H:Hp}{S:M.S}{x y:M.D}{X1 Y:V}{Q':Bool->Hp->Prop} (rp:zT K Θ ρ S H) (rx:zG K ρ H x X1) (ry:zG K ρ H y Y) (h:zE K Θ rB ρ H (M.eqD x y S) Q') :
  (zBp X1 Y=true/\Q' (decide (X1=Y)) H)\/(∃ d e,jt K H X1 d/\jt K H Y e/\SeqAt.shaped d=true/\SeqAt.shaped e=true/\Q' (PyData.eqv d e) H)\/∃ a b ka kb r,X1=.ref a/\Y=.ref b/\H a=some (.dK ka)/\H b=some (.dK kb)/\(ka.length=kb.length->Zf K H kb ka r)/\Q' (ka.length == kb.length && r) H:=by
 have gen:∀ {p q:M.P},M.toP M.JW S x=some p->M.toP M.JW S y=some q->M.P.dep p <= 64/\M.P.dep q <= 64->Q' (M.P.eqv p q) H->∃ d e,jt K H X1 d/\jt K H Y e/\SeqAt.shaped d=true/\SeqAt.shaped e=true/\Q' (PyData.eqv d e) H:=fun {p q} e1 e2 hd hq=>by
  obtain⟨d1,c1⟩:=Jr rp _ e1 rx
  obtain⟨d2,c2⟩:=Jr rp _ e2 ry
  refine⟨_,_,d1,d2,?_,?_,by rw[zBZ];exact hq⟩
  ·unfold SeqAt.shaped;rw[c1,Bool.true_and,Qp];exact decide_eq_true hd.1
  ·unfold SeqAt.shaped;rw[c2,Bool.true_and,Qp];exact decide_eq_true hd.2
 have j1:zE K Θ rB ρ H (match M.toP M.JW S x,M.toP M.JW S y with
   | some p,some q=>if M.P.dep p <= 64/\M.P.dep q <= 64 then M.R.ok (M.P.eqv p q) S else .no
   | _,_=>M.zCk x y S) Q'->(∃ d e,jt K H X1 d/\jt K H Y e/\SeqAt.shaped d=true/\SeqAt.shaped e=true/\Q' (PyData.eqv d e) H)\/∃ a b ka kb r,X1=.ref a/\Y=.ref b/\H a=some (.dK ka)/\H b=some (.dK kb)/\(ka.length=kb.length->Zf K H kb ka r)/\Q' (ka.length == kb.length && r) H:=fun h'=>by
  cases e1:M.toP M.JW S x with
  | none=>rw[e1] at h';exact .inr (zDI rp rx ry h')
  | some p =>
   cases e2:M.toP M.JW S y with
   | none=>rw[e1,e2] at h';exact .inr (zDI rp rx ry h')
   | some q =>
    rw[e1,e2] at h'
    dsimp only at h'
    by_cases hc:M.P.dep p <= 64/\M.P.dep q <= 64
    ·rw[if_pos hc] at h';exact .inl <| gen e1 e2 hc (zE.here (b:=M.P.eqv p q) h' rp rfl)
    ·rw[if_neg hc] at h';exact h'.elim
 have sc:∀ {b:Bool},zBp X1 Y=true->decide (X1=Y)=b->M.eqD x y S=.ok b S->(zBp X1 Y=true/\Q' (decide (X1=Y)) H):=fun {b} h1 h2 h3=>by
  rw[h3] at h
  rw[h2]
  exact⟨h1,zE.here (b:=b) h rp rfl⟩
 cases x with
 | str a =>
  cases y with
  | str b =>
   obtain⟨rfl,_⟩:=rx
   obtain⟨rfl,_⟩:=ry
   refine .inl (sc rfl ?_ rfl)
   by_cases hab:a=b
   ·subst hab;simp
   ·rw[decide_eq_false hab,decide_eq_false fun e=>hab (Qy (V.str.inj e))]
  | _=>exact .inr (j1 h)
 | int a =>
  cases y with
  | int b =>
   cases rx;cases ry
   refine .inl (sc rfl ?_ rfl)
   by_cases hab:a=b
   ·subst hab;simp
   ·rw[decide_eq_false hab,decide_eq_false fun e=>hab (V.int.inj e)]
  | _=>exact .inr (j1 h)
 | bl a =>
  cases y with
  | bl b =>
   cases rx;cases ry
   refine .inl (sc rfl ?_ rfl)
   by_cases hab:a=b
   ·subst hab;simp
   ·rw[decide_eq_false hab,decide_eq_false fun e=>hab (V.bl.inj e)]
  | _=>exact .inr (j1 h)
 | non =>
  cases y with
  | non=>cases rx;cases ry;exact .inl (sc rfl rfl rfl)
  | _=>exact .inr (j1 h)
 | _=>exact .inr (j1 h)
theorem yz:AdC K Θ M.cEq (zE6 K false):=by
 intro ρ H S x y X1 Y Q rp rx ry h
 rcases zET rp rx ry h with h | ⟨d,e,h1,h2,h3,h4,h5⟩ | ⟨a,b,ka,kb,r,h⟩
 ·exact .inl h
 ·exact .inr (.inl ⟨d,e,h1,h2,h3,h4,h5⟩)
 ·exact .inr (.inr ⟨a,b,ka,kb,r,h⟩)
theorem zLp:AdC K Θ M.cNe (zE6 K true):=by
 intro ρ H S x y X1 Y Q rp rx ry h
 have h':zE K Θ rB ρ H (M.eqD x y S) (fun b H'=>Q (.bl (!b)) H'):=zE.bind h fun ρ1 H1 b b' S1 p1 l1 rp1 e h1=>by cases e;exact zE.here (b:=!b) h1 rp1 rfl
 rcases zET rp rx ry h' with h | ⟨d,e,h1,h2,h3,h4,h5⟩ | ⟨a,b,ka,kb,r,h⟩
 ·exact .inl h
 ·exact .inr (.inl ⟨d,e,h1,h2,h3,h4,h5⟩)
 ·exact .inr (.inr ⟨a,b,ka,kb,r,h⟩)
end
end L2
namespace L2
open PySem PySem.Spec PyProof.Rows
section
variable {K:PySem.W.Frag}{Θ:Tab}
theorem Q0 (n d:Nat) (o:Option Int):M.sIx n d o=HT.sIx n d o:=by
 cases o with
 | none=>rfl
 | some v =>
  have:=HT.zBx v n d
  show (if v < 0 then max (v+(n:Int)) 0 else min v (n:Int)).toNat=_
  rw[this];simp
theorem zIp {x:M.T}{lo hi:Option Int}:∀ c∈M.cut x lo hi,c∈x:=fun c hc=>List.mem_of_mem_drop (List.mem_of_mem_take hc)
theorem zBf {ρ:List Addr}{H:Hp}{ds:List M.D}{xs:List V} (r:zH K ρ H ds xs) (lo hi:Option Int):zH K ρ H (M.cut ds lo hi) (Qe xs lo hi):=by
 unfold M.cut Qe
 rw[Q0,Q0,r.length]
 exact (r.drop _).take _
theorem zMQ:∀ ρ H S x X1 l u Q,zT K Θ ρ S H->zG K ρ H x X1->zE K Θ (zG K) ρ H (M.slD x l u S) Q->uSl K X1 l u H Q:=by
 intro ρ H S x X1 l u Q rp rx h
 cases x with
 | str z =>
  obtain⟨rfl,ok⟩:=rx
  by_cases hz:z.length <= M.SZ
  ·simp only[M.slD,if_pos hz] at h
   refine⟨by rw[jp,<- yf];exact hz,zE.here h rp ⟨?_,J7 ok zIp⟩⟩
   show V.str (zBW (ofT z) l u)=V.str (ofT (M.cut z l u))
   unfold zBW M.cut ofT
   have e:(⟨z.toArray⟩:Str).length=z.length:=by simp[Str.length]
   rw[e,Q0,Q0]
  ·simp only[M.slD,if_neg hz] at h;exact h.elim
 | tup ds =>
  obtain⟨a,xs,rfl,hq,r⟩:=rx
  by_cases hc:M.sIx ds.length 0 l=0/\M.sIx ds.length ds.length u=ds.length
  ·simp only[M.slD,if_pos hc] at h;exact h.elim
  ·simp only[M.slD,if_neg hc] at h
   refine .inr ⟨xs,hq,?_,fun p hp=>h ρ _ _ (List.prefix_refl _) (Le.new hp _) (rp.aside hp _) ⟨p,_,rfl,SqT.of jB,(zBf r l u).mono (List.prefix_refl _) (Le.new hp _)⟩⟩
   rw[Q0,Q0,r.length] at hc
   exact hc
 | ro ds =>
  obtain⟨a,xs,rfl,hq,r⟩:=rx
  exact .inl ⟨xs,hq.sq,fun p hp=>zE.alloc h rp (zBf r l u) hp⟩
 | ref p =>
  obtain⟨a,rfl,ea⟩:=rx
  cases q:S[p]? with
  | none=>simp[M.slD,M.jV,q] at h;exact h.elim
  | some o =>
   cases o with
   | lst xs =>
    simp only[M.slD,M.jV,q] at h
    obtain⟨zs,e1,r⟩:=yU rp ea q
    exact .inl ⟨zs,SqL.of e1,fun p hp=>zE.alloc h rp (zBf r l u) hp⟩
   | dct kvs=>simp[M.slD,M.jV,q] at h;exact h.elim
   | fdc _=>simp[M.slD,M.jV,q] at h;exact h.elim
   | dtt _=>simp[M.slD,M.jV,q] at h;exact h.elim
   | ftt _=>simp[M.slD,M.jV,q] at h;exact h.elim
   | ins c fs=>simp[M.slD,M.jV,q] at h;exact h.elim
 | _=>exact h.elim
theorem zCO {ρ:List Addr}{H:Hp}:∀ {ds:List M.D}{ys:List V}{ts:List M.T},M.QR ds=some ts->zH K ρ H ds ys->ys=(ts.map ofT).map V.str/\∀ t∈ts,okT t
 | [],_,_,e,r=>by cases e;cases r;exact⟨rfl,fun t h=>by cases h⟩
 | .str x::ds,_,_,e,r=>by
  obtain⟨y,ys,rfl,r1,r2⟩:=r
  obtain⟨rfl,ok⟩:=r1
  have e':(M.QR ds).map (x :: ·)=some _:=e
  cases q:M.QR ds with
  | none=>rw[q] at e';cases e'
  | some cs =>
   rw[q] at e'
   cases e'
   obtain⟨h1,h2⟩:=zCO q r2
   refine⟨by rw[h1];rfl,fun t ht=>?_⟩
   rcases List.mem_cons.mp ht with rfl | ht
   ·exact ok
   ·exact h2 t ht
 | .non::_,_,_,e,_=>by cases e
 | .int _::_,_,_,e,_=>by cases e
 | .bl _::_,_,_,e,_=>by cases e
 | .tup _::_,_,_,e,_=>by cases e
 | .ro _::_,_,_,e,_=>by cases e
 | .ref _::_,_,_,e,_=>by cases e
 | .ty _::_,_,_,e,_=>by cases e
theorem zCA (x:M.T):∀ (ys:List M.T) (acc:M.T),((ys.map ofT).foldl (fun acc p=>acc++(ofT x).cps++p.cps) acc.toArray)=(acc++(ys.map (x ++ ·)).flatten).toArray
 | [],acc=>by simp
 | y::ys,acc=>by
  rw[List.map_cons,List.foldl_cons]
  have e:acc.toArray++(ofT x).cps++(ofT y).cps=(acc++x++y).toArray:=by simp[ofT]
  rw[e,zCA x ys]
  simp
theorem zBM (x y:M.T):∀ ys:List M.T,M.Ze x (y::ys)=y++(ys.map (x ++ ·)).flatten
 | []=>by simp[M.Ze]
 | z::ys=>by
  show y++x++M.Ze x (z::ys)=_
  rw[zBM x z ys];simp
theorem zIi (x:M.T) (ys:List M.T):Txt.join (ofT x) (ys.map ofT)=ofT (M.Ze x ys):=by
 cases ys with
 | nil=>rfl
 | cons y ys =>
  show (⟨(((y::ys).map ofT).drop 1).foldl (fun acc p=>acc++(ofT x).cps++p.cps) (((y::ys).map ofT).headD Str.empty).cps⟩:Str)=_
  rw[zBM,List.map_cons,List.drop_one,List.tail_cons]
  have:=zCA x ys y
  show (⟨(ys.map ofT).foldl _ y.toArray⟩:Str)=_
  rw[this];rfl
theorem zDK {x:M.T} (hx:okT x):∀ {ys:List M.T},(∀ t∈ys,okT t)->okT (M.Ze x ys)
 | [],_=>rfl
 | [y],h=>h y (by simp)
 | y::z::ys,h=>zBV (zBV (h y (by simp)) hx) (zDK hx fun t ht=>h t (List.mem_cons_of_mem _ ht))
theorem zJV (ts:List M.T):((ts.map ofT).map (·.length)).sum=(ts.map List.length).sum:=by
 rw[List.map_map]
 exact congrArg List.sum (List.map_congr_left fun t _=>jp t)
theorem zHY {y:M.T} (hy:okT y):∀ ρ H S ds ys p Q,zT K Θ ρ S H->zH K ρ H ds ys->(SqL K H p ys\/SqT K H p ys)->zE K Θ (zG K) ρ H (M.yy y ds S) Q->zCm K (.str (ofT y)) [.ref p] H Q:=by
 intro ρ H S ds ys p Q rp r hq h
 cases e:M.QR ds with
 | none=>simp only[M.yy,e] at h;exact h.elim
 | some ts =>
  obtain⟨rfl,ok⟩:=zCO e r
  by_cases hz:(ts.map List.length).sum+ts.length * y.length <= M.SZ
  ·simp only[M.yy,e,if_pos hz] at h
   refine⟨ofT y,p,ts.map ofT,rfl,rfl,hq,?_,?_⟩
   ·rw[zJV,List.length_map,jp];exact hz
   ·rw[zIi];exact zE.here h rp ⟨rfl,zDK hy ok⟩
  ·simp only[M.yy,e,if_neg hz] at h;exact h.elim
end
end L2
namespace L2
open PySem PySem.Spec PyProof.Rows
section
variable {K:PySem.W.Frag}{Θ:Tab}
theorem Jd (a:M.T):∀ (n:Nat) (acc:Array Nat),(List.replicate n a.toArray).foldl (· ++ ·) acc=acc++((List.replicate n a).flatten).toArray
 | 0,acc=>by simp
 | n+1,acc=>by
  rw[List.replicate_succ,List.foldl_cons,Jd a n,List.replicate_succ,List.flatten_cons]
  simp
theorem zIz (a:M.T) (n:Int) (h0:0 <= n):Txt.mul (ofT a) n=ofT (List.replicate n.toNat a).flatten:=by
 unfold Txt.mul
 by_cases h1:n < 1
 ·have e:n.toNat=0:=by omega
  rw[if_pos h1,e];rfl
 ·rw[if_neg h1]
  by_cases h2:(n == 1 || (ofT a).length == 0)=true
  ·rw[if_pos h2]
   rw[Bool.or_eq_true] at h2
   rcases h2 with h2 | h2
   ·have e:n=1:=eq_of_beq h2
    subst e
    simp
   ·have e:a.length=0:=by rw[<- jp];exact eq_of_beq h2
    have e2:a=[]:=List.length_eq_zero_iff.mp e
    subst e2
    simp[ofT]
  ·rw[if_neg h2]
   have:=Jd a n.toNat #[]
   show (⟨(List.replicate n.toNat a.toArray).foldl (· ++ ·) #[]⟩:Str)=_
   rw[this];simp[ofT]
theorem zKb (a:M.T) (n:Int) (h0:0 <= n) (h1:n <= 1000000) (h2:a.length * n.toNat <= 1000000):MulOk (ofT a) n:=by
 refine⟨?_,fun h3 _=>?_,fun h3 _=>?_⟩
 ·rw[Bool.or_eq_false_iff]
  exact⟨decide_eq_false (by omega),decide_eq_false (by omega)⟩
 ·rw[jp]
  have hn:1 <= n.toNat:=by omega
  have ha:a.length <= 1000000:=Nat.le_trans (Nat.le_mul_of_pos_right _ (by omega)) h2
  have hd:(1000000:Int) <= (2 ^ 63 - 1) / n:=Int.le_ediv_of_mul_le (by omega) (by omega)
  omega
 ·rw[jp]
  unfold Builtin.Str.tooLong
  exact decide_eq_false (by rw[sizeLine_eq];omega)
noncomputable def zIQ:R2:=fun x y H Q=>zKD x y H Q\/zJv x y H Q
theorem zBQ {X:Cx}:OpR X (binaryOp .Mult) zIQ:=OpR.or zME zKJ
theorem zH.flat {ρ:List Addr}{H:Hp}{ds:List M.D}{xs:List V} (h:zH K ρ H ds xs):∀ n:Nat,zH K ρ H (List.replicate n ds).flatten (List.replicate n xs).flatten
 | 0=>rfl
 | n+1=>by
  rw[List.replicate_succ,List.replicate_succ,List.flatten_cons,List.flatten_cons]
  exact zH.app h (zH.flat h n)
theorem zBC:Ad2 K Θ M.zBR zIQ:=by
 intro ρ H S x y X Y Q rp rx ry h
 cases x with
 | int i =>
  cases y with
  | int j =>
   cases rx;cases ry
   have h':zE K Θ (zG K) ρ H (if (M.qe i || M.qe j)=true then M.R.ok (M.D.int (i * j)) S else .no) Q:=h
   by_cases hc:(M.qe i || M.qe j)=true
   ·rw[if_pos hc] at h'
    refine .inl ⟨?_,zE.here (b:=V.int (i * j)) h' rp rfl⟩
    rw[Bool.or_eq_true] at hc
    rcases hc with hc | hc
    ·exact .inl (zDg hc)
    ·exact .inr (zDg hc)
   ·rw[if_neg hc] at h';exact h'.elim
  | _=>exact h.elim
 | str a =>
  cases y with
  | int n =>
   obtain⟨rfl,oka⟩:=rx
   cases ry
   have h':zE K Θ (zG K) ρ H (if 0 <= n/\n.natAbs <= 1000000/\a.length * n.natAbs <= 1000000 then M.R.ok (M.D.str (List.replicate n.toNat a).flatten) S else .no) Q:=h
   by_cases hc:0 <= n/\n.natAbs <= 1000000/\a.length * n.natAbs <= 1000000
   ·rw[if_pos hc] at h'
    have hn:n.natAbs=n.toNat:=by omega
    refine .inl ⟨zKb a n hc.1 (by omega) (by rw[<- hn];exact hc.2.2),?_⟩
    show Q (.str (Txt.mul (ofT a) n)) H
    rw[zIz a n hc.1]
    refine zE.here h' rp ⟨rfl,J7 oka fun c hc=>?_⟩
    obtain⟨l,hl,hcl⟩:=List.mem_flatten.mp hc
    rw[(List.mem_replicate.mp hl).2] at hcl
    exact hcl
   ·rw[if_neg hc] at h';exact h'.elim
  | _=>exact h.elim
 | ref p =>
  cases y with
  | int n =>
   cases ry
   have h':zE K Θ (zG K) ρ H (match M.jV S p with | some xs=>if n.natAbs <= 1000/\xs.length * n.natAbs <= 1000000 then M.alloc (.lst (List.replicate n.toNat xs).flatten) S else .no | none=>.no) Q:=h
   cases q:S[p]? with
   | none=>simp only[M.jV,q] at h';exact h'.elim
   | some o =>
    cases o with
    | lst ds =>
     simp only[M.jV,q] at h'
     obtain⟨a,rfl,ea⟩:=rx
     obtain⟨zs,e1,r⟩:=yU rp ea q
     by_cases hc:n.natAbs <= 1000/\ds.length * n.natAbs <= 1000000
     ·rw[if_pos hc] at h'
      have hn:n.toNat <= n.natAbs:=by omega
      refine .inr ⟨a,n,zs,rfl,rfl,e1,by omega,by omega,?_,fun p hp=>zE.alloc h' rp (zH.flat r n.toNat) hp⟩
      have hm:=Nat.mul_le_mul_left ds.length hn
      rw[<- r.length,sizeLine_eq]
      omega
     ·rw[if_neg hc] at h';exact h'.elim
    | dct _=>simp only[M.jV,q] at h';exact h'.elim
    | fdc _=>simp only[M.jV,q] at h';exact h'.elim
    | dtt _=>simp only[M.jV,q] at h';exact h'.elim
    | ftt _=>simp only[M.jV,q] at h';exact h'.elim
    | ins _ _=>simp only[M.jV,q] at h';exact h'.elim
  | _=>exact h.elim
 | _=>exact h.elim
noncomputable def zIA (K:PySem.W.Frag):R2:=fun x y H Q=>uIx K x y H Q\/∃ a v,x=.ref a/\Qa H a y (some v)/\Q v H
theorem zM1 {X:Cx}{k:Nat} (hr:z4 k X.A):IxR X (zIA X.K):=by
 refine IxR.or zMv ?_
 intro value slice pins s σ H x y v u Q I rx ry h hs
 obtain⟨a,w',rfl,g,q⟩:=h
 cases rx
 exact tail_any (zED I g) PySem.F.slot_dict_getitem.lookup (zG3 (zE0 hr) I g ry fun w2 s3 I3 rw'=>⟨w',H,I3,rw',q⟩) hs
noncomputable def zEz (K:PySem.W.Frag):List V->Hp->VK->Prop:=fun xs H Q=>zLd K xs H Q\/∃ a kvs,xs=[V.ref a]/\H a=some (.dK kvs)/\Q (.int kvs.length) H
theorem zGe {X:Cx}:jh X (.builtin "len") (zEz X.K):=jh.or zMS zGw
theorem zMU:Ad2 K Θ M.ZD (zIA K):=by
 intro ρ H S x y X Y Q rp rx ry h
 cases x with
 | str a =>
  cases y with
  | int i =>
   obtain⟨rfl,oka⟩:=rx
   cases ry
   have h':zE K Θ (zG K) ρ H (if a.length <= M.SZ then (match M.atI a i with | some c=>M.R.ok (M.D.str [c]) S | none=>.no) else .no) Q:=h
   by_cases hc:a.length <= M.SZ
   ·rw[if_pos hc] at h'
    cases q:M.atI a i with
    | none=>rw[q] at h';exact h'.elim
    | some c =>
     rw[q] at h'
     refine .inl ⟨c,by rw[jp,<- yf];exact hc,?_,zE.here (b:=V.str (ofT [c])) h' rp ⟨rfl,J7 oka fun d hd=>by
      have e:d=c:=by simpa using hd
      rw[e]
      unfold M.atI at q
      cases qi:M.ixN a.length i with
      | none=>rw[qi] at q;cases q
      | some j=>rw[qi] at q;exact List.mem_of_getElem? q⟩⟩
     rw[ZF];exact q
   ·rw[if_neg hc] at h';exact h'.elim
  | _=>exact h.elim
 | tup ds =>
  cases y with
  | int i =>
   obtain⟨l,xs,rfl,hq,r⟩:=rx
   cases ry
   have h':zE K Θ (zG K) ρ H (match M.atI ds i with | some d=>M.R.ok d S | none=>.no) Q:=h
   cases q:M.atI ds i with
   | none=>rw[q] at h';exact h'.elim
   | some d =>
    rw[q] at h'
    obtain⟨v,e1,rv⟩:=zB3 r q
    exact .inl ⟨xs,v,.inr hq,e1,zE.here h' rp rv⟩
  | _=>exact h.elim
 | ro ds =>
  cases y with
  | int i =>
   obtain⟨l,xs,rfl,hq,r⟩:=rx
   cases ry
   have h':zE K Θ (zG K) ρ H (match M.atI ds i with | some d=>M.R.ok d S | none=>.no) Q:=h
   cases q:M.atI ds i with
   | none=>rw[q] at h';exact h'.elim
   | some d =>
    rw[q] at h'
    obtain⟨v,e1,rv⟩:=zB3 r q
    exact .inl ⟨xs,v,.inl hq.sq,e1,zE.here h' rp rv⟩
  | _=>exact h.elim
 | ref p =>
  obtain⟨a,rfl,ea⟩:=rx
  cases q:S[p]? with
  | none=>simp[M.ZD,q] at h;exact h.elim
  | some o =>
   cases o with
   | lst xs =>
    cases y with
    | int i =>
     cases ry
     obtain⟨zs,e1,r⟩:=yU rp ea q
     cases q2:M.atI xs i with
     | none=>simp[M.ZD,q,q2] at h;exact h.elim
     | some d =>
      simp[M.ZD,q,q2] at h
      obtain⟨v,e2,rv⟩:=zB3 r q2
      exact .inl ⟨zs,v,.inl (SqL.of e1),e2,zE.here h rp rv⟩
    | _=>simp[M.ZD,q] at h;exact h.elim
   | dct kvs =>
    by_cases hk:M.y7 y=true
    case neg=>simp[M.ZD,q,hk] at h;exact h.elim
    obtain⟨ks,e1,r⟩:=Qn rp ea q
    obtain⟨k,h1,rfl⟩:=JA hk ry
    have hv:=r.val h1
    cases q2:M.zy y kvs with
    | none=>simp[M.ZD,q,hk,q2] at h;exact h.elim
    | some d =>
     simp[M.ZD,q,hk,q2] at h
     rw[q2] at hv
     obtain⟨v,e2,rv⟩:=hv
     refine .inr ⟨a,v,rfl,?_,zE.here h rp rv⟩
     rw[<- e2]
     exact Qa.k e1
   | dtt _=>simp[M.ZD,q] at h;exact h.elim
   | ftt _=>simp[M.ZD,q] at h;exact h.elim
   | fdc kvs =>
    by_cases hk:M.y7 y=true
    case neg=>simp[M.ZD,q,hk] at h;exact h.elim
    obtain⟨fo,ks,e1,r⟩:=zFf rp ea q
    obtain⟨k,h1,rfl⟩:=JA hk ry
    have hv:=r.val h1
    cases q2:M.zy y kvs with
    | none=>simp[M.ZD,q,hk,q2] at h;exact h.elim
    | some d =>
     simp[M.ZD,q,hk,q2] at h
     rw[q2] at hv
     obtain⟨v,e2,rv⟩:=hv
     refine .inr ⟨a,v,rfl,?_,zE.here h rp rv⟩
     rw[<- e2]
     exact (.inl ⟨ks,k,.inr ⟨fo,e1⟩,rfl,rfl⟩)
   | ins c fs=>simp[M.ZD,q] at h;exact h.elim
 | _=>exact h.elim
theorem zFt:AdN K Θ M.Qb (zEz K):=by
 intro ρ H S xs Xs Q rp rx h
 match xs,rx,h with
 | [.str a],rx,h =>
  obtain⟨_,_,rfl,⟨rfl,_⟩,rfl⟩:=rx
  have h':zE K Θ (zG K) ρ H (if a.length <= M.SZ then M.R.ok (M.D.int a.length) S else .no) Q:=h
  by_cases hc:a.length <= M.SZ
  ·rw[if_pos hc] at h'
   refine .inl ⟨by rw[jp,<- yf];exact hc,?_⟩
   rw[jp]
   exact zE.here (b:=V.int a.length) h' rp rfl
  ·rw[if_neg hc] at h';exact h'.elim
 | [.tup ds],rx,h =>
  obtain⟨_,_,rfl,⟨l,ys,rfl,hq,r⟩,rfl⟩:=rx
  exact .inl ⟨ys,.inr hq,by rw[<- r.length];exact zE.here (b:=V.int ds.length) h rp rfl⟩
 | [.ro ds],rx,h =>
  obtain⟨_,_,rfl,⟨l,ys,rfl,hq,r⟩,rfl⟩:=rx
  exact .inl ⟨ys,.inl hq.sq,by rw[<- r.length];exact zE.here (b:=V.int ds.length) h rp rfl⟩
 | [.ref p],rx,h =>
  obtain⟨_,_,rfl,⟨a,rfl,ea⟩,rfl⟩:=rx
  cases q:S[p]? with
  | none=>simp[M.Qb,q] at h;exact h.elim
  | some o =>
   cases o with
   | lst xs =>
    simp[M.Qb,q] at h
    obtain⟨zs,e1,r⟩:=yU rp ea q
    exact .inl ⟨zs,.inl (SqL.of e1),by rw[<- r.length];exact zE.here (b:=V.int xs.length) h rp rfl⟩
   | dct kvs =>
    simp[M.Qb,q] at h
    obtain⟨ks,e1,r⟩:=Qn rp ea q
    exact .inr ⟨a,ks,rfl,e1,by rw[<- Paired.length r];exact zE.here (b:=V.int kvs.length) h rp rfl⟩
   | fdc _=>simp[M.Qb,q] at h;exact h.elim
   | dtt _=>simp[M.Qb,q] at h;exact h.elim
   | ftt _=>simp[M.Qb,q] at h;exact h.elim
   | ins c fs=>simp[M.Qb,q] at h;exact h.elim
 | [.non],_,h=>exact h.elim
 | [.bl _],_,h=>exact h.elim
 | [.int _],_,h=>exact h.elim
 | [.ty _],_,h=>exact h.elim
 | [],_,h=>exact h.elim
 | a::_::_,_,h=>cases a<;>exact h.elim
noncomputable def zEx (K:PySem.W.Frag) (neg:Bool):R2:=fun x y H Q=>uIn K neg x y H Q\/∃ a o,y=.ref a/\Qa H a x o/\Q (.bl (xor neg o.isSome)) H
theorem zKE {X:Cx}{k:Nat} (hr:z4 k X.A):OpR X (compareOp .In) (zEx X.K false):=by
 refine OpR.or zMz ?_
 intro pins s σ H x y v u Q I rx ry h
 obtain⟨a,o,rfl,g,q⟩:=h
 cases ry
 exact zMt (zE0 hr) I g rx fun s' I'=>⟨.bl o.isSome,H,I',rfl,by rw[Bool.false_xor] at q;exact q⟩
theorem zFl {X:Cx}{k:Nat} (hr:z4 k X.A):OpR X (compareOp .NotIn) (zEx X.K true):=by
 refine OpR.or zJZ ?_
 intro pins s σ H x y v u Q I rx ry h
 obtain⟨a,o,rfl,g,q⟩:=h
 cases ry
 exact zJK (zE0 hr) I g rx fun s' I'=>⟨.bl (!o.isSome),H,I',rfl,by rw[Bool.true_xor] at q;exact q⟩
theorem zDG {ρ:List Addr}{H:Hp}{d:M.D}{v:V} (r:zG K ρ H d v):qL v=M.flat d:=by
 cases d with
 | non=>cases r;rfl
 | bl _=>cases r;rfl
 | int _=>cases r;rfl
 | str _=>obtain⟨rfl,_⟩:=r;rfl
 | ty _=>cases r;rfl
 | ref _=>obtain⟨_,rfl,_⟩:=r;rfl
 | tup _=>obtain⟨_,_,rfl,_⟩:=r;rfl
 | ro _=>obtain⟨_,_,rfl,_⟩:=r;rfl
theorem zI0 {ρ:List Addr}{H:Hp}{d e:M.D}{v u:V} (r:zG K ρ H d v) (q:zG K ρ H e u):eqV v u=M.eqF d e:=by
 cases d with
 | non =>
  cases r
  cases e with
  | str _=>obtain⟨rfl,_⟩:=q;rfl
  | ref _=>obtain⟨_,rfl,_⟩:=q;rfl
  | tup _=>obtain⟨_,_,rfl,_⟩:=q;rfl
  | ro _=>obtain⟨_,_,rfl,_⟩:=q;rfl
  | _=>cases q;rfl
 | bl _ =>
  cases r
  cases e with
  | str _=>obtain⟨rfl,_⟩:=q;rfl
  | ref _=>obtain⟨_,rfl,_⟩:=q;rfl
  | tup _=>obtain⟨_,_,rfl,_⟩:=q;rfl
  | ro _=>obtain⟨_,_,rfl,_⟩:=q;rfl
  | _=>cases q;rfl
 | int _ =>
  cases r
  cases e with
  | str _=>obtain⟨rfl,_⟩:=q;rfl
  | ref _=>obtain⟨_,rfl,_⟩:=q;rfl
  | tup _=>obtain⟨_,_,rfl,_⟩:=q;rfl
  | ro _=>obtain⟨_,_,rfl,_⟩:=q;rfl
  | _=>cases q;rfl
 | str x =>
  obtain⟨rfl,_⟩:=r
  cases e with
  | str y=>obtain⟨rfl,_⟩:=q;exact zEX x y
  | ref _=>obtain⟨_,rfl,_⟩:=q;rfl
  | tup _=>obtain⟨_,_,rfl,_⟩:=q;rfl
  | ro _=>obtain⟨_,_,rfl,_⟩:=q;rfl
  | _=>cases q;rfl
 | ty _=>cases r;rfl
 | ref _=>obtain⟨_,rfl,_⟩:=r;rfl
 | tup _=>obtain⟨_,_,rfl,_⟩:=r;rfl
 | ro _=>obtain⟨_,_,rfl,_⟩:=r;rfl
theorem zCL {ρ:List Addr}{H:Hp}:∀ {ds:List M.D}{xs:List V},zH K ρ H ds xs->xs.all qL=ds.all M.flat
 | [],_,r=>by cases r;rfl
 | _::_,_,⟨y,ys,e,r1,r2⟩=>by subst e;rw[List.all_cons,List.all_cons,zDG r1,zCL r2]
theorem zDH {ρ:List Addr}{H:Hp}{x:M.D}{v:V} (rx:zG K ρ H x v):∀ {ds:List M.D}{xs:List V},zH K ρ H ds xs->inV v xs=M.Jh x ds
 | [],_,r=>by cases r;rfl
 | _::_,_,⟨y,ys,e,r1,r2⟩=>by
  subst e
  unfold inV M.Jh
  rw[List.any_cons,List.any_cons,zI0 r1 rx]
  have:=zDH rx r2
  unfold inV M.Jh at this
  rw[this]
theorem zAj (a:M.T):∀ b:M.T,M.Jf a b=true ↔ ∃ i,i+a.length <= b.length/\(b.drop i).take a.length=a
 | []=>by
  simp only[M.Jf,List.isEmpty_iff]
  constructor
  ·rintro rfl;exact⟨0,by simp,by simp⟩
  ·rintro ⟨i,h,e⟩
   simp at h
   exact h.2
 | c::r=>by
  simp only[M.Jf,Bool.or_eq_true,zAj a r]
  constructor
  ·rintro (h | ⟨i,h,e⟩)
   ·have:=List.isPrefixOf_iff_prefix.mp h
    exact⟨0,by simpa using this.length_le,by simpa using (List.prefix_iff_eq_take.mp this).symm⟩
   ·exact⟨i+1,by simp;omega,by simpa using e⟩
  ·rintro ⟨i,h,e⟩
   cases i with
   | zero=>left;exact List.isPrefixOf_iff_prefix.mpr (List.prefix_iff_eq_take.mpr (by simpa using e.symm))
   | succ i=>right;exact⟨i,by simp at h;omega,by simpa using e⟩
theorem zGy (a b:M.T) (i:Nat):StrLaws.At (ofT b) (ofT a) (ofT b).length i↔(i+a.length <= b.length/\(b.drop i).take a.length=a):=by
 unfold StrLaws.At Builtin.Str.subAt
 rw[jp,jp]
 refine and_congr_right fun _=>?_
 rw[beq_iff_eq]
 constructor
 ·intro h
  have:=congrArg Array.toList h
  simpa [ofT,List.extract_eq_take_drop] using this
 ·intro h
  apply Array.ext'
  simpa [ofT,List.extract_eq_take_drop] using h
theorem zIh (a b:M.T):(!(Builtin.Str.occurrences (ofT b) (ofT a) 0 (ofT b).length 1).isEmpty)=M.Jf a b:=by
 rcases StrLaws.occ_head (ofT b) (ofT a) 1 (by decide) with ⟨e,h⟩ | ⟨i,r,e,h,_⟩
 ·rw[e]
  have:¬ M.Jf a b=true:=fun q=>by
   obtain⟨i,q⟩:=(zAj a b).mp q
   exact h i ((zGy a b i).mpr q)
  simpa using this
 ·rw[e]
  have:=(zAj a b).mpr ⟨i,(zGy a b i).mp h⟩
  simp[this]
theorem zIj {neg:Bool}{ρ:List Addr}{H:Hp}{S:M.S}{x y:M.D}{X1 Y:V}{Q:VK} (rp:zT K Θ ρ S H) (rx:zG K ρ H x X1) (ry:zG K ρ H y Y) (h:zE K Θ rB ρ H (M.inD x y S) (fun b H'=>Q (.bl (xor neg b)) H')):zEx K neg X1 Y H Q:=by
 have seq:∀ {ds:List M.D}{xs:List V}{a:Addr},(SqL K H a xs\/SqT K H a xs)->zH K ρ H ds xs->zE K Θ rB ρ H (if (M.flat x && ds.all M.flat)=true then M.R.ok (M.Jh x ds) S else .no) (fun b H'=>Q (.bl (xor neg b)) H')->uIn K neg X1 (.ref a) H Q:=fun {ds xs a} hq r h'=>by
  by_cases hc:(M.flat x && ds.all M.flat)=true
  ·rw[if_pos hc] at h'
   rw[Bool.and_eq_true,<- zDG rx,<- zCL r] at hc
   have:=zE.here (b:=M.Jh x ds) h' rp rfl
   rw[<- zDH rx r] at this
   have g:∃ xs,(SqL K H a xs\/SqT K H a xs)/\qL X1=true/\xs.all qL=true/\Q (.bl (xor neg (inV X1 xs))) H:=⟨xs,hq,hc.1,hc.2,this⟩
   cases X1<;>exact g
  ·rw[if_neg hc] at h';exact h'.elim
 cases y with
 | str b =>
  cases x with
  | str a =>
   obtain⟨rfl,_⟩:=rx
   obtain⟨rfl,_⟩:=ry
   refine .inl ?_
   show Q (.bl (xor neg (!(Builtin.Str.occurrences (ofT b) (ofT a) 0 (ofT b).length 1).isEmpty))) H
   rw[zIh]
   exact zE.here (b:=M.Jf a b) h rp rfl
  | _=>exact h.elim
 | tup ds =>
  obtain⟨l,xs,rfl,hq,r⟩:=ry
  exact .inl (seq (.inr hq) r h)
 | ro ds =>
  obtain⟨l,xs,rfl,hq,r⟩:=ry
  exact .inl (seq (.inl hq.sq) r h)
 | ref p =>
  obtain⟨a,rfl,ea⟩:=ry
  cases q:S[p]? with
  | none=>simp[M.inD,q] at h;exact h.elim
  | some o =>
   cases o with
   | lst ds =>
    obtain⟨zs,e1,r⟩:=yU rp ea q
    refine .inl (seq (.inl (SqL.of e1)) r ?_)
    simp only[M.inD,q] at h
    exact h
   | dct kvs =>
    by_cases hk:M.y7 x=true
    case neg=>simp[M.inD,q,hk] at h;exact h.elim
    simp only[M.inD,q,if_pos hk] at h
    obtain⟨ks,e1,r⟩:=Qn rp ea q
    obtain⟨k,h1,rfl⟩:=JA hk rx
    have hv:=r.val h1
    refine .inr ⟨a,q9 ks k,rfl,Qa.k e1,?_⟩
    have e2:(q9 ks k).isSome=(M.zy x kvs).isSome:=by
     cases q2:M.zy x kvs with
     | none=>rw[q2] at hv;rw[hv];rfl
     | some d=>rw[q2] at hv;obtain⟨v,e2,_⟩:=hv;rw[e2];rfl
    rw[e2]
    exact zE.here (b:=(M.zy x kvs).isSome) h rp rfl
   | dtt _=>simp[M.inD,q] at h;exact h.elim
   | ftt _=>simp[M.inD,q] at h;exact h.elim
   | fdc kvs =>
    by_cases hk:M.y7 x=true
    case neg=>simp[M.inD,q,hk] at h;exact h.elim
    simp only[M.inD,q,if_pos hk] at h
    obtain⟨fo,ks,e1,r⟩:=zFf rp ea q
    obtain⟨k,h1,rfl⟩:=JA hk rx
    have hv:=r.val h1
    refine .inr ⟨a,q9 ks k,rfl,(.inl ⟨ks,k,.inr ⟨fo,e1⟩,rfl,rfl⟩),?_⟩
    have e2:(q9 ks k).isSome=(M.zy x kvs).isSome:=by
     cases q2:M.zy x kvs with
     | none=>rw[q2] at hv;rw[hv];rfl
     | some d=>rw[q2] at hv;obtain⟨v,e2,_⟩:=hv;rw[e2];rfl
    rw[e2]
    exact zE.here (b:=(M.zy x kvs).isSome) h rp rfl
   | ins c fs=>simp[M.inD,q] at h;exact h.elim
 | _=>exact h.elim
theorem zLb {X:Cx}{e:Expr}{m:M.TM} (h:MW X Θ e m):MT X Θ e m:=PW.pt h
theorem JC {X:Cx}{e:Expr}{m:M.TM} (h:WW X Θ e m):WT X Θ e m:=by with_unfolding_all exact zLb (X:=X) (e:=e) (m:=m) h
theorem JD {X:Cx}:Z8 X [] (RdT X.K Θ M.ZG):=fun pins s σ H Q I ⟨ρ,σ',S,st,rp,h⟩=>zHr pins s σ H Q I (zE.here (b:=true) h rp rfl)
theorem zLM {X:Cx}{c:Expr}{t:M.TM} (h:WT X Θ c t):Z8 X [c] (RdT X.K Θ t):=zIF (by with_unfolding_all exact h)
theorem zMN {g1 g2:M.GM}:∀ ds σ σ1,(M.qd g1 (M.qd g2 M.JQ)) ds σ=some σ1->ds.length=2:=fun ds σ σ1 e=>by
 match ds,e with
 | [],e=>cases e
 | [a],e =>
  simp[M.qd] at e
  split at e<;>cases e
 | [a,b],_=>rfl
 | a::b::c::r,e =>
  simp[M.qd,M.JQ] at e
  split at e
  ·split at e<;>cases e
  ·cases e
theorem zDf {ρ:List Addr}{H:Hp}:∀ ns:List Int,zH K ρ H (ns.map .int) (ns.map V.int)
 | []=>rfl
 | n::ns=>⟨_,_,rfl,rfl,zDf ns⟩
theorem zKF {f:M.F} (ht:∀ ns:List Int,ns.length <= 63->∃ s,f [.ro (ns.map .int)] []=.ok (.bl true) s) {H:Hp}{a:Addr}{ns:List Int}{E:XK} (hl:ns.length <= 63) (hO:zD8 H) (hS:SqL K H a (ns.map V.int)):SpM K Θ 1 f [.ref a] H (fun v _=>v=.bl true) E:=by
 obtain⟨s,e⟩:=ht ns hl
 refine⟨[],[.ro (ns.map .int)],[],rfl,⟨_,_,rfl,⟨a,ns.map V.int,rfl,?_,zDf ns⟩,rfl⟩,⟨rfl,List.nodup_nil,fun i o q=>by simp at q⟩,?_⟩
 ·rcases hS with (h | h) | h
  ·rcases hO a with z | ⟨o,xs,z⟩
   ·rw[h] at z;cases z
   ·rw[h] at z;cases z
  ·exact .inl h
  ·exact .inr h
 ·rw[e]
  exact fun ρ' H' b _ _ _ r=>r
end
section
variable {P:Program}{w:World}{K:PySem.W.Frag}{mg:Str->Option Value}{base:Heap}{Θ:Tab}
theorem zLW {x qual:Str}{st:Stmt}{f:Addr}{fd:FuncData}{N ps:List Str}{k:Nat}{b:M.SM} (F:Fun K x qual st f fd) (Sc:jS N ps (zN st))
  (hbody:∀ (cdv:Value) (A:Around) (outer:List Env) (s:Shared) (H:Hp) (E:XK),z4 k (A.deeper (envOfC qual (zN st) s.heap.objs.size f cdv)) ->
   MSs (QG CX0 P w K mg base N qual (zN st) f cdv A outer s H E).nox Θ (jF st) b):jZ P w K mg base CX0 (k+1) f fd ps (SpM K Θ ps.length (M.fn N.length b)):=by
 refine F.ok (k:=k) Sc (fun vs H Q E h=>?_) (fun cdv A outer s H vs Q E hr h=>?_)
 ·obtain⟨ρ,ds,S,hl,r,_⟩:=h
  rw[<- r.length,hl]
 ·obtain⟨ρ,ds,S,hl,r,rp,h⟩:=h
  refine⟨_,hbody cdv A outer s H E hr,ρ,_,S,zB5 r N,rp,?_⟩
  have h':zE K Θ (zG K) ρ H (b (ds.map some++List.replicate (N.length - ds.length) none) S).out Q:=h
  show zm K Θ ρ H (b (ds.map some++List.replicate (N.length - ds.length) none) S) _
  revert h'
  cases b (ds.map some++List.replicate (N.length - ds.length) none) S with
  | rt a s=>exact fun h'=>h'
  | nx a s=>exact fun h' ρ1 H1 σ1 p1 l1 rp1 _=>h' ρ1 H1 .non p1 l1 rp1 rfl
  | bk a s=>exact fun h'=>h'.elim
  | ct a s=>exact fun h'=>h'.elim
  | exc e a s=>exact fun h'=>h'
  | no=>exact fun h'=>h'
theorem zCu {x qual:Str}{st:Stmt}{f:Addr}{fd:FuncData}{N ps:List Str}{k:Nat}{b:M.SM} (F:Fun K x qual st f fd) (Sc:jS N ps (zN st))
  (hbody:∀ (cdv:Value) (A:Around) (outer:List Env) (s:Shared) (H:Hp) (E:XK),z4 k (A.deeper (envOfC qual (zN st) s.heap.objs.size f cdv)) ->
   WSs (QG CX0 P w K mg base N qual (zN st) f cdv A outer s H E).nox Θ (jF st) b):jZ P w K mg base CX0 (k+1) f fd ps (SpM K Θ ps.length (M.fn N.length b)):=by with_unfolding_all exact zLW (x:=x) (qual:=qual) (st:=st) (f:=f) (fd:=fd) (N:=N) (ps:=ps) (k:=k) (b:=b) F Sc hbody
end
end L2
namespace L2
open PySem PySem.Spec PyProof.Rows PySem.Builtin.Str
section
variable {K:PySem.W.Frag}{Θ:Tab}
theorem Jz {ρ:List Addr}{H:Hp}{S:M.S}{p:Nat}{X:V}{ds:List M.D} (rp:zT K Θ ρ S H) (rx:zG K ρ H (.ref p) X) (e:S[p]? = some (.lst ds)):∃ a xs,X=.ref a/\ρ[p]? = some a/\H a=some (.lst xs)/\zH K ρ H ds xs:=by
 obtain⟨a,rfl,ha⟩:=rx
 obtain⟨b,hb,xs,hx,r⟩:=rp.obj p _ e
 rw[ha] at hb;cases hb
 exact⟨a,xs,rfl,ha,hx,r⟩
theorem J0 {H:Hp}{a:Addr}{xs:List V} (h:H a=some (.lst xs)):Mut (H a):=by rw[h];trivial
theorem zFy:AdM K Θ M.Q9 zEm:=by
 intro ρ H S x xs X Xs Q rp rx rxs h
 unfold M.Q9 at h
 split at h
 ·rename_i p y
  obtain⟨Y,r,rfl,ry,rfl⟩:=rxs
  split at h
  ·rename_i ds e
   obtain⟨a,zs,rfl,ha,hx,rz⟩:=Jz rp rx e
   split at h
   ·rename_i hl
    have le:=Le.put (J0 hx) (.lst (zs++[Y]))
    refine⟨a,zs,Y,rfl,rfl,hx,by rw[<- yf,<- rz.length];exact hl,?_⟩
    exact h ρ _ _ (List.prefix_refl _) le (rp.put ha (J0 hx) ⟨_,jB,(rz.mono (List.prefix_refl _) le).app ⟨_,_,rfl,ry.mono (List.prefix_refl _) le,rfl⟩⟩) rfl
   ·exact h.elim
  ·exact h.elim
 ·exact h.elim
end
end L2
namespace L2
open PySem PySem.Spec PyProof.Rows PySem.Builtin.Str
section
variable {K:PySem.W.Frag}{Θ:Tab}
theorem zLS:AdN K Θ M.zDh (fun xs H Q=>(∃ i,xs=[.int i]/\Q (.int i) H)\/∃ k,xs=[.bl k]/\Q (.int (if k then 1 else 0)) H):=by
 intro ρ H S xs Xs Q rp rxs h
 unfold M.zDh at h
 split at h
 ·obtain⟨Y,r,rfl,ry,rfl⟩:=rxs
  cases ry
  exact .inl ⟨_,rfl,zE.here h rp rfl⟩
 ·obtain⟨Y,r,rfl,ry,rfl⟩:=rxs
  cases ry
  exact .inr ⟨_,rfl,zE.here h rp rfl⟩
 ·exact h.elim
end
end L2
namespace L2
open PySem PySem.Spec PyProof.Rows
noncomputable def Ite (K:PySem.W.Frag) (a:Addr):It :=
 ⟨fun i H=>∃ xs x,SqL K H a xs/\xs[i]? = some x,fun i H v H'=>∃ p x,H p=none/\v=.ref p/\H'=upd H p (.tup [.int (i:Int),x])/\∀ xs,SqL K H a xs->xs[i]? = some x,fun i H=>∃ xs,SqL K H a xs/\xs.length <= i⟩
theorem Inv.turned2 {X:Cx}{pins:List (Addr×Obj)}{σ:St}{H:Hp}{s:Shared}{h':Heap}{t':Nat}{e it T:Addr}{o:HO} (I:Inv X pins σ H s) (fe:QM X pins H e) (fi:QM X pins H it) (hT:s.heap.objs.size <= T)
  (k:∀ b q,b≠e->b≠it->s.heap.get? b=some q->h'.get? b=some q) (new:jK X.prog X.w (upd H T o) h' T o) (ht:0 < t'):Inv X pins σ (upd H T o) { s with heap:=h',toks:=t' }:=by
 have hn:H T=none:=I.hok.fresh hT
 have nT:∀ {b:Addr}{q:Obj},s.heap.get? b=some q->b≠T:=fun e=>Nat.ne_of_lt (Nat.lt_of_lt_of_le (Heap.lt_size e) hT)
 have nch:∀ {b:Addr}{u:HO},H b=some u->b≠e/\b≠it:=fun q=>⟨(fun z=>by rw[z,fe.1] at q;cases q),(fun z=>by rw[z,fi.1] at q;cases q)⟩
 refine I.step (g':=s.gens) (d':=s.drawn) (ch:=[e,it]) (fun b hb=>?_) (fun b q _ _ hc g _=>k b q (fun z=>hc (by simp[z])) (fun z=>hc (by simp[z])) g) (fun b q _ _ hc g _=>⟨q.slots,k b q (fun z=>hc (by simp[z])) (fun z=>hc (by simp[z])) g⟩)
  (fun b q _ g n=>by rw[zU (nT g)];exact n) (fun b q hc g=>⟨q,k b q (fun z=>hc (by simp[z])) (fun z=>hc (by simp[z])) g⟩)
  (fun b xs g=>by rw[zU (jm g hn)];exact g) (fun b q u g=>by rw[zU (jm g hn)];exact g) (fun b ps g=>⟨#[],by rw[zU (jm g hn),g];simp⟩) (fun m hm=>?_) (fun b u g=>?_) I.bare ht
 ·rcases List.mem_cons.mp hb with rfl | hb
  ·exact⟨fe.2.2.2.1,fe.2.1,fe.2.2.2.2.1,fe.2.2.2.2.2⟩
  ·have z:b=it:=by simpa using hb
   subst z
   exact⟨fi.2.2.2.1,fi.2.1,fi.2.2.2.2.1,fi.2.2.2.2.2⟩
 ·obtain⟨q,es,ep,ho,r⟩:=hm
  exact⟨q,es,ep,k _ q (Ne.symm fe.2.1) (Ne.symm fi.2.1) ho,r⟩
 ·by_cases hb:b=T
  ·subst hb;rw[jB] at g;cases g;exact new
  ·rw[zU hb] at g
   refine (I.hok b u g).stay (fun c v hc q=>?_) (fun c q=>by rw[zU (jm q hn)];exact q) fun c xs q=>by rw[zU (jm q hn)];exact q
   rcases hc with z | z
   ·rw[z] at q ⊢;exact k _ _ (nch g).1 (nch g).2 q
   ·exact k _ _ (nch z).1 (nch z).2 q
theorem zGh {P:Program}{w:World}{K:PySem.W.Frag}{elts:List Expr}{kt:_}{tp:Pos} (a e it:Addr) (hne:e≠it):JF P w K (.Tuple elts kt tp) (Ite K a) [e,it] e (fun i h=>(∃ old,IsEnum h e it (i:Int) old)/\h.IsListIter it a i) where
 mem:=by simp
 obj:=fun i h ⟨⟨old,he⟩,hi⟩ b hb=>by
  rcases List.mem_cons.mp hb with rfl | hb
  ·exact⟨_,he,fun v z=>by
    have z':Data.fields _=Data.cell v:=z
    cases z'⟩
  ·have z:b=it:=by simpa using hb
   subst z
   obtain⟨o,g,c,d⟩:=hi
   exact⟨o,g,fun v z=>by rw[d] at z;cases z⟩
 keep:=fun i h h' ⟨⟨old,he⟩,hi⟩ k=>⟨⟨old,k e (by simp) _ he⟩,hi.at fun o g=>k it (by simp) o g⟩
 item:=by
  intro X hP hw hK hc i pins s σ H E I hf ⟨⟨old,he⟩,hi⟩ hg
  subst hP hw hK
  obtain⟨xs,x,hq,hx⟩:=hg
  obtain⟨its,rv,p,hz⟩:=I.list hq
  obtain⟨u,hu,ru⟩:=rv.get hx
  have fe:=hf e (by simp)
  have fi:=hf it (by simp)
  refine wpAny_pyNext_enum_item he hi p.isList (x:=u) (by simpa using hu) hne fun h' ho hi' hT hsz hk=>?_
  refine⟨_,rfl,wpAny_letOwnedTupleGo_enum ho fun h'' he'' hs''=>?_⟩
  have eT:s.heap.objs.size≠e:=Nat.ne_of_gt (Heap.lt_size he)
  have iT:s.heap.objs.size≠it:=by obtain⟨o,g,_⟩:=hi;exact Nat.ne_of_gt (Heap.lt_size g)
  refine⟨.ref s.heap.objs.size,upd H s.heap.objs.size (.tup [.int (i:Int),x]),?_,rfl,⟨s.heap.objs.size,x,I.hok.fresh (Nat.le_refl _),rfl,rfl,fun ys hy=>by rw[I.list_inj hy hq];exact hx⟩,⟨⟨u,by simpa using he''⟩,hi'.at fun o g=>(hs''.2 it (Ne.symm hne)).trans g⟩,fun b hb=>?_⟩
  ·refine I.turned2 fe fi (Nat.le_refl _) (fun b q h1 h2 g=>(hs''.2 b h1).trans (hk b q h1 h2 g)) ?_ (Nat.succ_pos _)
   exact⟨by show 2 <= sizeLine;decide,[.int (i:Int) s.toks,u],.cons ⟨_,rfl⟩ (.cons ru .nil),_,(hs''.2 _ eT).trans hT,rfl,_,rfl⟩
  ·rw[zU]
   ·exact (hf b hb).1
   ·rcases List.mem_cons.mp hb with rfl | hb
    ·exact Ne.symm eT
    ·have z:b=it:=by simpa using hb
     subst z
     exact Ne.symm iT
 done:=by
  intro X hP hw hK hc i pins s σ H E I hf ⟨⟨old,he⟩,hi⟩ hg
  subst hP hw hK
  obtain⟨xs,hq,hx⟩:=hg
  obtain⟨its,rv,p,hz⟩:=I.list hq
  obtain⟨f0,f1,f2,f3,f4,f5⟩:=hf it (by simp)
  have hl:=rv.length
  exact wpAny_pyNext_enum_end (I.ok.hd hc) he hi p.isList (by simp;omega) fun h' eb=>⟨rfl,I.turned (t':=s.toks) (fun b o hb g=>eb b o hb g) f0 f1 f3 f4 f5⟩
 self:=fun _ _ _ _ _ ⟨⟨_,he⟩,_⟩ h=>wpAny_pyIter_enum he h
noncomputable def zMc (K:PySem.W.Frag) (ta:TA):TI:=fun σ H R=>ta σ H fun vs H1=>∃ a xs,vs=[.ref a]/\SqL K H1 a xs/\R (Ite K a) H1
theorem zJt {X:Cx}{a:Expr}{ta:TA}{p pos:Pos}{elts:List Expr}{kt:_}{tp:Pos} (hg:Gl X "enumerate") (hm:X.mg "enumerate" = none) (ha:PA X [a] ta) (hs:starEach [a] X.env=[(false,eval a X.env)]:=by rfl):PI X (.Tuple elts kt tp) (.Call (.Name "enumerate" p) [a] [] pos) (zMc X.K ta):=by
 intro pins s σ H R I h
 refine Call_ (Jm I hg hm (show bootBuiltins "enumerate" = some (.type "enumerate") by kernel_rfl) (PyProof.Rows.callWith_type1 (thn (ha pos pins s σ H _ I h) fun us s1 ⟨vs,H1,I1,r1,q1⟩=>?_) hs rfl))
 obtain⟨a',xs,e,hq,q⟩:=q1
 subst e
 obtain⟨u,rfl,ru⟩:=yd r1
 cases ru
 obtain⟨its,rv,pl,hz⟩:=I1.list hq
 refine call_enumerate_list pl.isList fun h' he hi hsz hk=>?_
 refine wpAny_pyIter_enum he ⟨s1.heap.objs.size+1,[s1.heap.objs.size+1,s1.heap.objs.size],_,_,H1,rfl,I1.kept (t':=s1.toks) hk,zGh a' _ _ (Nat.succ_ne_self _),⟨⟨_,he⟩,hi⟩,fun b hb=>?_,q⟩
 rcases List.mem_cons.mp hb with rfl | hb
 ·exact I1.fpOk (Nat.le_succ _) (I1.hok.fresh (Nat.le_succ _))
 ·have z:b=s1.heap.objs.size:=by simpa using hb
  subst z
  exact I1.fpOk (Nat.le_refl _) (I1.hok.fresh (Nat.le_refl _))
section
variable {Θ:Tab}
theorem QU:∀ (k:Int) (ds:List M.D),(M.qf k ds).length=ds.length
 | _,[]=>rfl
 | k,d::ds=>by rw[M.qf,List.length_cons,List.length_cons,QU]
theorem zDb:∀ (k:Int) (ds:List M.D) (i:Nat),(M.qf k ds)[i]? = ds[i]?.map fun d=>.tup [.int (k+i),d]
 | _,[],_=>rfl
 | k,d::ds,0=>by simp[M.qf]
 | k,d::ds,i+1=>by
  rw[M.qf,List.getElem?_cons_succ,zDb (k+1) ds i,List.getElem?_cons_succ]
  rw[show k+1+(i:Int)=k+((i+1:Nat):Int) by omega]
theorem zC7 {K:PySem.W.Frag}{ρ:List Addr}{H:Hp}{a:Addr}{ds:List M.D}{g:M.Gd} (key:∀ {ρ':List Addr}{S':M.S}{H':Hp},ρ <+: ρ'->Le H H'->zT K Θ ρ' S' H'->M.zc g S'=true->∃ zs,SqL K H' a zs/\zH K ρ' H' ds zs):ItR K Θ ρ H (Ite K a) (M.qf 0 ds) g:=by
 refine⟨fun j ρ' S' H' p l rp g hj=>?_,fun j ρ' S' H' v H2 p l rp g hj y=>?_,fun ρ' S' H' p l rp g=>?_⟩
 ·rw[QU] at hj
  obtain⟨zs,e,r⟩:=key p l rp g
  obtain⟨v,e1,_⟩:=r.get (i:=j) (d:=ds[j]) (by simp[hj])
  exact⟨zs,v,e,e1⟩
 ·rw[QU] at hj
  obtain⟨zs,e,r⟩:=key p l rp g
  obtain⟨v',e1,rv⟩:=r.get (i:=j) (d:=ds[j]) (by simp[hj])
  obtain⟨q,x,hn,rfl,rfl,y2⟩:=y
  have y3:=y2 zs e
  rw[e1] at y3;cases y3
  refine⟨.tup [.int (j:Int),ds[j]],by rw[zDb];simp[hj],?_,Le.new hn _,rp.aside hn _⟩
  exact⟨q,_,rfl,SqT.of jB,_,_,rfl,rfl,_,_,rfl,rv.mono (List.prefix_refl _) (Le.new hn _),rfl⟩
 ·obtain⟨zs,e,r⟩:=key p l rp g
  exact⟨zs,e,by rw[QU,r.length];exact Nat.le_refl _⟩
theorem zDY {X:Cx}{e:Expr}{m:M.EM}{p pos tp:Pos}{elts:List Expr}{kt:_} (hg:Gl X "enumerate") (hm:X.mg "enumerate" = none) (he:ME X Θ e m) (hs:zu e=true:=by rfl):MI X Θ (.Tuple elts kt tp) (.Call (.Name "enumerate" p) [e] [] pos) (M.zCj 0 m) :=
 (zJt hg hm (zBi he zDv hs) (jq hs)).imp fun σ H R ⟨ρ,σ',S,st,rp,h⟩=>⟨ρ,σ',S,st,rp,by
  have h':zE X.K Θ _ ρ H (((m σ' S).bind fun x s=>match x with
   | .ro ds=>M.R.ok (M.qf 0 ds,([]:M.Gd)) s
   | .ref i=>(match s[i]? with | some (.lst xs)=>.ok (M.qf 0 xs,[(i,.lst xs)]) s | _=>.no)
   | _=>.no).bind fun p s=>if M.zc p.2 s then .ok p s else .no) R:=h
  show zE X.K Θ _ ρ H ((m σ' S).bind fun x s=>(M.R.ok [] s).bind fun xs s=>.ok (x::xs) s) _
  cases hm:m σ' S with
  | no=>rw[hm] at h';exact h'.elim
  | exc a s=>rw[hm] at h';exact h'.elim
  | ok d S1 =>
   rw[hm] at h'
   intro ρ1 H1 vs p l rp1 rv
   obtain⟨v,ys,rfl,rv,hy⟩:=rv
   cases hy
   cases d with
   | ro ds =>
    obtain⟨a,xs,rfl,hq,r⟩:=rv
    exact⟨a,xs,rfl,hq.sq,h' ρ1 H1 _ p l rp1 (zC7 fun p' l' _ _=>⟨xs,(l'.rol hq).sq,r.mono p' l'⟩)⟩
   | ref i =>
    obtain⟨a,rfl,e1⟩:=rv
    have h2:zE X.K Θ _ ρ H ((match S1[i]? with
     | some (.lst xs)=>M.R.ok (M.qf 0 xs,[(i,M.O.lst xs)]) S1
     | _=>.no).bind fun p s=>if M.zc p.2 s then .ok p s else .no) R:=h'
    cases q:S1[i]? with
    | none=>rw[q] at h2;exact h2.elim
    | some o =>
     rw[q] at h2
     cases o with
     | lst xs =>
      obtain⟨b,e2,zs,e3,r⟩:=rp1.obj i _ q
      rw[e1] at e2;cases e2
      have hg:M.zc [(i,M.O.lst xs)] S1=true:=by simp[M.zc,q]
      have h3:zE X.K Θ _ ρ H (if M.zc [(i,M.O.lst xs)] S1 then M.R.ok (M.qf 0 xs,[(i,M.O.lst xs)]) S1 else .no) R:=h2
      rw[if_pos hg] at h3
      refine⟨a,zs,rfl,SqL.of e3,h3 ρ1 H1 _ p l rp1 (zC7 fun {ρ' S' H'} p' _ rp' g'=>?_)⟩
      have g2:S'[i]? = some (M.O.lst xs):=by simpa [M.zc] using g'
      obtain⟨b2,f1,ws,f2,r2⟩:=rp'.obj i _ g2
      rw[ZZ p' e1] at f1;cases f1
      exact⟨ws,SqL.of f2,r2⟩
     | dct kvs=>exact h2.elim
     | fdc _=>exact h2.elim
     | dtt _=>exact h2.elim
     | ftt _=>exact h2.elim
     | ins c fs=>exact h2.elim
   | _=>exact h'.elim⟩
theorem zBn {X:Cx}{e:Expr}{m:M.EM}{p pos tp:Pos}{elts:List Expr}{kt:_} (hg:Gl X "enumerate") (hm:X.mg "enumerate" = none) (he:WE X Θ e m) (hs:zu e=true:=by rfl):WI X Θ (.Tuple elts kt tp) (.Call (.Name "enumerate" p) [e] [] pos) (M.zCj 0 m):=by with_unfolding_all exact zDY (X:=X) (e:=e) (m:=m) (p:=p) (pos:=pos) (tp:=tp) (elts:=elts) (kt:=kt) hg hm he hs
end
end L2
namespace L2
open PySem PySem.Spec PyProof.Rows
section
variable {Θ:Tab}
theorem PS.or {X:Cx}{st:Stmt}{t t':TS} (h:PS X st t) (h':PS X st t'):PS X st (fun D σ H=>t D σ H\/t' D σ H):=fun pins s σ H D I q=>by
 rcases q with q | q
 ·exact h pins s σ H D I q
 ·exact h' pins s σ H D I q
theorem zIl {X:Cx}{es:List Expr}{g:M.GMs}{js:List Nat}{k:Nat}{pos:Pos}{n:Nat} (hc:X.calm=true) (h:MGs X Θ js es g) (hl:∀ ds σ σ1,g ds σ=some σ1->ds.length=n) (hn:(assignEach es X.env).length=n:=by rfl) (hst:(assignEach es X.env).findIdx? (·.1)=none:=by rfl):MG X Θ js (.Tuple es k pos) (M.JS g) :=
 zKu (es:=es) (zLf hc h hn hst) hl
theorem zGn {X:Cx}{es:List Expr}{g:M.GMs}{js:List Nat}{k:Nat}{pos:Pos}{n:Nat} (hc:X.calm=true) (h:WGs X Θ js es g) (hl:∀ ds σ σ1,g ds σ=some σ1->ds.length=n) (hn:(assignEach es X.env).length=n:=by rfl) (hst:(assignEach es X.env).findIdx? (·.1)=none:=by rfl):WG X Θ js (.Tuple es k pos) (M.JS g):=by with_unfolding_all exact zIl (X:=X) (es:=es) (g:=g) (js:=js) (k:=k) (pos:=pos) (n:=n) hc h hl hn hst
theorem zGb {H:Hp}{a:Addr}{ks:List (Key×V)} (h:H a=some (.dK ks)):Mut (H a):=by rw[h];trivial
theorem zKI {X:Cx}{o i e:Expr}{mo mi me:M.EM}{pos pos':Pos}{n:Nat} (hr:z4 n X.A) (ho:ME X Θ o mo) (hi:ME X Θ i mi) (he:ME X Θ e me)
  (ha:∀ v,assign (.Subscript o i pos') X.env v=(do
   let ov <- holding [v] (eval o X.env)
   let iv <- holding [v,ov] (eval i X.env)
   standAt pos'
   holding [v,ov,iv] (setItem ov iv v)
   release [v,ov,iv] []):=by intro _;rfl)
  (hs:swapsWithSole [.Subscript o i pos'] e pos.line X.env=pure false:=by rfl) (hw:swappedStores [.Subscript o i pos'] e X.env=pure none:=by rfl) (h1:(assignEach [.Subscript o i pos'] X.env).map (·.2)=[assign (.Subscript o i pos') X.env]:=by rfl)
  (hs2:swapsWith e (some (.Subscript o i pos')) pos.line X.env=pure false:=by rfl):MS X Θ (.Assign [.Subscript o i pos'] e pos) (M.zMu mo mi me) :=
 (PS.or (zJ7 he (zLX ho hi zHH ha) hs hw h1) (zJH (by have:=hr.units;omega) ho hi he hs2)).imp fun D σ H ⟨ρ,σ',S,st,rp,h⟩=>by
  have h0:zm X.K Θ ρ H ((me σ' S).stm σ' fun y s=>(mo σ' s).stm σ' fun x s=>(mi σ' s).stm σ' fun k s=>(M.yA x k y s).stm σ' fun _ s=>.nx σ' s) D:=h
  clear h
  cases hE:me σ' S with
  | no=>rw[hE] at h0;exact h0.elim
  | exc a s=>rw[hE] at h0;exact h0.elim
  | ok y S1 =>
   rw[hE,M.R.stm_ok] at h0
   cases hO:mo σ' S1 with
   | no=>rw[hO] at h0;exact h0.elim
   | exc a s=>rw[hO] at h0;exact h0.elim
   | ok x S2 =>
    rw[hO,M.R.stm_ok] at h0
    cases hI:mi σ' S2 with
    | no=>rw[hI] at h0;exact h0.elim
    | exc a s=>rw[hI] at h0;exact h0.elim
    | ok k S3 =>
     rw[hI,M.R.stm_ok] at h0
     cases x with
     | ref p =>
      cases q:S3[p]? with
      | none=>simp only[M.yA,q] at h0;exact h0.elim
      | some ob =>
       cases ob with
       | lst xs =>
        cases k with
        | int j =>
         cases hj:M.ixN xs.length j with
         | none=>simp only[M.yA,q,hj] at h0;exact h0.elim
         | some j' =>
          simp only[M.yA,q,hj,M.R.stm_ok] at h0
          refine .inl ⟨ρ,σ',S,st,rp,?_⟩
          rw[hE]
          intro ρ1 H1 Y p1 l1 rp1 ry
          refine⟨ρ1,σ',S1,st.mono p1 l1,rp1,?_⟩
          rw[hO]
          intro ρ2 H2 Xv p2 l2 rp2 rx
          refine⟨ρ2,σ',S2,st.mono (p1.trans p2) (l1.trans l2),rp2,?_⟩
          rw[hI]
          intro ρ3 H3 Kv p3 l3 rp3 rk
          obtain⟨a,zs,rfl,ha,hx,rz⟩:=Jz rp3 (rx.mono p3 l3) q
          cases rk
          have le:=Le.put (J0 hx) (.lst (zs.set j' Y))
          refine⟨a,zs,j,j',rfl,rfl,hx,by rw[<- rz.length];exact hj,?_⟩
          exact h0 ρ3 _ σ (p1.trans (p2.trans p3)) (l1.trans (l2.trans (l3.trans le))) (rp3.put ha (J0 hx) ⟨_,jB,zH.set (ry.mono (p2.trans p3) (l2.trans (l3.trans le))) j' (rz.mono (List.prefix_refl _) le)⟩) (st.mono (p1.trans (p2.trans p3)) (l1.trans (l2.trans (l3.trans le))))
        | _=>simp only[M.yA,q] at h0;exact h0.elim
       | dct kvs =>
        cases hk:(M.y7 k && decide (kvs.length < M.SZ)) with
        | false=>simp only[M.yA,q,hk] at h0;exact h0.elim
        | true =>
         have hk2:(if (M.y7 k && decide (kvs.length < M.SZ))=true then M.R.ok () (S3.set p (.dct (M.qa k y kvs))) else .no)=M.R.ok () (S3.set p (.dct (M.qa k y kvs))):=if_pos hk
         simp only[M.yA,q,hk2,M.R.stm_ok] at h0
         rw[Bool.and_eq_true] at hk
         refine .inr ⟨ρ,σ',S,st,rp,?_⟩
         rw[hE]
         intro ρ1 H1 Y p1 l1 rp1 ry
         refine⟨ρ1,σ',S1,st.mono p1 l1,rp1,?_⟩
         rw[hO]
         intro ρ2 H2 Xv p2 l2 rp2 rx
         refine⟨ρ2,σ',S2,st.mono (p1.trans p2) (l1.trans l2),rp2,?_⟩
         rw[hI]
         intro ρ3 H3 Kv p3 l3 rp3 rk
         obtain⟨a,rfl,ea⟩:=rx.mono p3 l3
         obtain⟨b,e1,ks,e2,r⟩:=rp3.obj _ _ q
         rw[ea] at e1;cases e1
         obtain⟨kk,hkk,rfl⟩:=JA hk.1 rk
         have le:=Le.put (zGb e2) (.dK (y8 ks kk Y))
         refine⟨a,_,rfl,zCw.k e2 (by rw[<- Paired.length r,<- yf];exact of_decide_eq_true hk.2),?_⟩
         have r':DR X.K ρ3 (upd H3 a (.dK (y8 ks kk Y))) kvs ks:=Paired.mapP r fun a b z=>⟨z.1,z.2.mono (List.prefix_refl _) le⟩
         exact h0 ρ3 _ σ (p1.trans (p2.trans p3)) (l1.trans (l2.trans (l3.trans le))) (rp3.put ea (zGb e2) ⟨_,jB,DR.put r' hkk (ry.mono (p2.trans p3) (l2.trans (l3.trans le)))⟩) (st.mono (p1.trans (p2.trans p3)) (l1.trans (l2.trans (l3.trans le))))
       | fdc _=>simp only[M.yA,q] at h0;exact h0.elim
       | dtt _=>simp only[M.yA,q] at h0;exact h0.elim
       | ftt _=>simp only[M.yA,q] at h0;exact h0.elim
       | ins c fs=>simp only[M.yA,q] at h0;exact h0.elim
     | _=>exact h0.elim
end
end L2
namespace L2
open PySem PySem.Spec PyProof.Rows
section
variable {K:PySem.W.Frag}{Θ:Tab}
theorem zAc:∀ {xs:List V}{us:List Value},xs.length=us.length->(∀ (j:Nat) u,us[j]? = some u->∃ x,xs[j]? = some x/\zZ x u)->zY xs us
 | [],[],_,_=>.nil
 | [],_::_,h,_=>by simp at h
 | _::_,[],h,_=>by simp at h
 | x::xs,u::us,h,k=>by
  obtain⟨y,e,r⟩:=k 0 u rfl
  cases e
  exact .cons r (zAc (by simpa using h) fun j u hu=>by
   obtain⟨y,e,r⟩:=k (j+1) u (by simpa using hu)
   exact⟨y,by simpa using e,r⟩)
theorem zLi {P:Program}{w:World}{k:Key}{v:Value} (h:(j2 P w).is k v=true):zZ (kV k) v:=by
 rcases jv (k:=k) (v:=v) h with ⟨i,t,rfl,rfl⟩ | ⟨x,t,rfl,rfl⟩
 ·exact⟨t,rfl⟩
 ·exact⟨t,rfl⟩
noncomputable def zD2 (K:PySem.W.Frag):List V->Hp->VK->Prop:=fun xs H Q=>(∃ p ys,xs=[.ref p]/\(SqL K H p ys\/SqT K H p ys)/\∀ l,H l=none->Q (.ref l) (upd H l (.lst ys))) \/
 ∃ p ks,xs=[.ref p]/\H p=some (.dK ks)/\∀ l,H l=none->Q (.ref l) (upd H l (.lst (ks.map fun kv=>kV kv.1)))
theorem zFN {X:Cx}{k:Nat} (hr:z4 k X.A):jh X (.type "list") (zD2 X.K):=by
 intro pins s σ H xs us Q I r h
 rcases h with h | ⟨p,ks,rfl,hp,q⟩
 ·exact zD3 pins s σ H xs us Q I r h
 ·obtain⟨u,rfl,ru⟩:=yd r
  cases ru
  obtain⟨z,lo,vs,rv,dd⟩:=J8 I.hok hp
  obtain⟨ep,da⟩:=dd.dictAt
  have hl:=rv.length
  refine wpAny_with_toks (n:=1) I.tk (PySem.W.kdl_call (PySem.W.kdl_dict lo) hr.hd da (by omega) fun h' tk acc c' keep hS it htk=>?_)
  obtain⟨hsz,hit⟩:=it
  refine⟨.ref s.heap.objs.size,_,I.laid (t':=tk) (o:=.lst (ks.map fun kv=>kV kv.1)) keep (Nat.le_refl _) ⟨by rw[List.length_map];exact z,acc.toList,c',zAc (by simp;omega) fun j u hu=>?_,by simpa using hS⟩ htk,rfl,q _ (I.hok.fresh (Nat.le_refl _))⟩
  obtain⟨k,x,e,hk⟩:=hit j u (by simpa using hu)
  have hj:j < ks.length:=by have:=(List.getElem?_eq_some_iff.mp e).1;omega
  have ek:(ks.map (·.1))[j]? = some k:=by rw[rv.keys,List.getElem?_map,e];rfl
  refine⟨kV k,?_,zLi hk⟩
  rw[List.getElem?_map] at ek ⊢
  cases q2:ks[j]? with
  | none=>rw[q2] at ek;cases ek
  | some kv=>rw[q2] at ek;cases ek;rfl
theorem zDq {ρ:List Addr}{H:Hp}:∀ {kvs:List (M.D×M.D)}{ks:List (Key×V)},DR K ρ H kvs ks->zH K ρ H (kvs.map (·.1)) (ks.map fun kv=>kV kv.1)
 | _,_,.nil=>rfl
 | (d,_)::_,(k,_)::_,.cons h t=>by
  refine⟨_,_,rfl,?_,zDq t⟩
  have h1:Zl d k:=h.1
  cases d with
  | int i=>cases h1;rfl
  | str x=>obtain⟨rfl,ok⟩:=h1;exact⟨rfl,ok⟩
  | _=>exact h1.elim
theorem zEa:AdN K Θ M.zCn (zD2 K):=by
 intro ρ H S xs Xs Q rp rxs h
 unfold M.zCn at h
 split at h
 ·obtain⟨Y,r,rfl,⟨a,zs,rfl,hq,rz⟩,rfl⟩:=rxs
  exact .inl ⟨a,zs,rfl,.inr hq,fun p hp=>zE.alloc h rp rz hp⟩
 ·obtain⟨Y,r,rfl,⟨a,zs,rfl,hq,rz⟩,rfl⟩:=rxs
  exact .inl ⟨a,zs,rfl,.inl hq.sq,fun p hp=>zE.alloc h rp rz hp⟩
 ·rename_i p
  obtain⟨Y,r,rfl,ry,rfl⟩:=rxs
  split at h
  ·rename_i ds e
   obtain⟨a,zs,rfl,ha,hx,rz⟩:=Jz rp ry e
   exact .inl ⟨a,zs,rfl,.inl (SqL.of hx),fun p hp=>zE.alloc h rp rz hp⟩
  ·rename_i kvs e
   obtain⟨a,rfl,ha⟩:=ry
   obtain⟨ks,e2,r⟩:=Qn rp ha e
   exact .inr ⟨a,ks,rfl,e2,fun p hp=>zE.alloc h rp (zDq r) hp⟩
  ·exact h.elim
 ·exact h.elim
end
end L2
namespace L2
open PySem PySem.Spec PyProof.Rows
section
variable {P:Program}{w:World}{A:Around}{E:Value->Shared->Prop}{s:Shared}
noncomputable def zM4 (h:Heap) (z TI TO:Addr) (f0:Value) (b:Bool):Prop:=h.get? z=some { cls:=.type "zip",dict:=none,data:=.fields #[f0,.bool b,.bool false,.ref TI,.ref TO],slots:=#[] }
structure ZSt (z TI TO i1 i2 l1 l2:Addr) (xs ys:Array Value) (i:Nat) (h:Heap):Prop where
 zp:∃ f0 b,zM4 h z TI TO f0 b/\((i=0/\f0=.none)\/∃ (T:Addr) (o:Obj),f0=rawInt T/\h.get? T=some o)
 ti:IsPair h TI (.ref i1) (.ref i2)
 to:∃ a b,IsPair h TO a b
 n1:h.IsTupleIter i1 l1 i
 n2:h.IsTupleIter i2 l2 i
 t1:h.IsTuple l1 xs
 t2:h.IsTuple l2 ys
structure ZLp (lo z TO i1 i2 S:Addr) (xs ys:List Value) (h0 h:Heap) (ps:List Addr):Prop where
 its:∀ (j:Nat) p,ps[j]? = some p->lo <= p/\∃ x y,xs[j]? = some x/\ys[j]? = some y/\IsPair h p x y
 keep:∀ b o,b≠S->b≠z->b≠TO->b≠i1->b≠i2->h0.get? b=some o->h.get? b=some o
 nd:ps.Nodup
end
end L2
namespace L2
open PySem PySem.Spec PyProof.Rows
inductive zH1:Hp->List (V×V)->List V->Hp->Prop
 | nil (H:Hp):zH1 H [] [] H
 | cons {H H':Hp}{a:Addr}{x y:V}{r:List (V×V)}{zs:List V} (h:H a=none) (t:zH1 (upd H a (.tup [x,y])) r zs H'):zH1 H ((x,y)::r) (.ref a::zs) H'
noncomputable def zIX:List V->Hp->VK->Prop:=fun xs H Q=>∃ i,xs=[.int i]/\i.natAbs.log2 < 1920/\Q (.str (toString i)) H
theorem zCH {X:Cx}:jh X (.type "str") zIX:=zDx
theorem zFC (i:Int):(Str.ofString (toString i))=ofT (M.Qz i):=by
 rw[Str.ofString_eq_toList];rfl
theorem zFL (i:Int):okT (M.Qz i):=List.all_eq_true.mpr fun c hc=>by
 obtain⟨d,_,rfl⟩:=List.mem_map.mp hc
 have:=d.valid
 rw[decide_eq_true_iff]
 rcases this with h | h
 ·exact Nat.lt_trans h (by decide)
 ·exact h.2
theorem zGg {K:PySem.W.Frag}{Θ:Tab}:AdN K Θ M.zE8 zIX:=by
 intro ρ H S xs Xs Q rp rxs h
 unfold M.zE8 at h
 split at h
 ·rename_i i
  obtain⟨Y,r,rfl,ry,rfl⟩:=rxs
  cases ry
  by_cases hc:M.qe i=true
  ·rw[if_pos hc] at h
   unfold M.qe at hc
   rw[decide_eq_true_iff] at hc
   refine⟨i,rfl,?_,?_⟩
   ·by_cases hz:i.natAbs=0
    ·rw[hz];decide
    ·exact Nat.lt_trans ((Nat.log2_lt hz).mpr (show i.natAbs < 2 ^ 64 from hc)) (by decide)
   ·show Q (.str (Str.ofString (toString i))) H
    rw[zFC]
    exact zE.here h rp ⟨rfl,zFL i⟩
  ·rw[if_neg hc] at h
   exact h.elim
 ·exact h.elim
end L2
namespace L2
open PySem PySem.Spec PyProof.Rows
section
variable {K:PySem.W.Frag}{Θ:Tab}
noncomputable def zIM (K:PySem.W.Frag):List V->Hp->VK->Prop:=fun xs H Q=>∃ p ys,xs=[.ref p]/\((SqL K H p ys/\∀ l,H l=none->Q (.ref l) (upd H l (.tup ys)))\/(SqT K H p ys/\Q (.ref p) H))
theorem zAO {X:Cx}:jh X (.type "tuple") (zIM X.K):=zCU
theorem zC8:AdN K Θ M.zAy (zIM K):=by
 intro ρ H S xs Xs Q rp rxs h
 unfold M.zAy at h
 split at h
 ·rename_i ds
  obtain⟨Y,r,rfl,ry,rfl⟩:=rxs
  obtain⟨a,zs,rfl,hq,rz⟩:=id ry
  exact⟨a,zs,rfl,.inr ⟨hq,zE.here h rp ry⟩⟩
 ·rename_i p
  obtain⟨Y,r,rfl,ry,rfl⟩:=rxs
  split at h
  ·rename_i ds e
   have e':S[p]? = some (.lst ds):=by
    unfold M.jV at e
    split at e
    ·rename_i ds' e1;cases e;exact e1
    ·cases e
   obtain⟨a,zs,rfl,ha,hx,rz⟩:=Jz rp ry e'
   exact⟨a,zs,rfl,.inl ⟨SqL.of hx,fun l hl=>h ρ _ _ (List.prefix_refl _) (Le.new hl _) (rp.aside hl _) ⟨l,zs,rfl,.inl (.inl jB),rz.mono (List.prefix_refl _) (Le.new hl _)⟩⟩⟩
  ·exact h.elim
 ·exact h.elim
end
end L2
namespace L2
open PySem PySem.Spec PyProof.Rows
structure Zp (K:PySem.W.Frag) (Θ:Tab) (c:Nat) (C:Addr) (N:List Str):Prop where
 tab:Θ c=some (C,N)
 cl:Cls K C
 no:∀ f∈N,Z5 K C f
 few:N.length < 999
 nd:N.Nodup
theorem zEj {α:Type}{Pr:α->Prop}{a:α}{l:List α} (h:Pr a) (k:∀ x∈l,Pr x):∀ x∈a::l,Pr x:=fun x hx=>(List.mem_cons.mp hx).elim (fun e=>by rw[e];exact h) (k x)
theorem zGF {X:Cx}{Θ:Tab}{st:Stmt}:MS X Θ st M.zDS:=zID
theorem zEI {X:Cx}{Θ:Tab}{st:Stmt}:WS X Θ st M.zDS:=by with_unfolding_all exact zGF (X:=X) (Θ:=Θ) (st:=st)
structure zFI (P:Program) (w:World) (K:PySem.W.Frag) (mg:Str->Option Value) (base:Heap) (C:Addr) (m:Str) (k:Nat) (ps:List Str) (sp:Sp):Prop where
 ex:∃ f fd,jZ P w K mg base CX0 k f fd ps sp/\y6 K fd ps []/\zHy K C m f
structure zH6 (P:Program) (w:World) (K:PySem.W.Frag) (mg:Str->Option Value) (base:Heap) (C:Addr) (x:Str) (k:Nat) (ps:List Str) (sp:Sp):Prop where
 ex:∃ f fd,jZ P w K mg base CX0 k f fd ps sp/\y6 K fd ps []/\Mk K C f/\mg x=some (.ref C)
theorem zCJ {α:Type} [DecidableEq α]:∀ {l N:List α},l.Nodup->(∀ x∈l,x∈N)->l.length <= N.length
 | [],_,_,_=>Nat.zero_le _
 | a::l,N,h,k=>by
  have ha:=k a List.mem_cons_self
  have hn:=List.nodup_cons.mp h
  have h1:l.length <= (N.erase a).length:=zCJ hn.2 fun x hx=>(List.mem_erase_of_ne (show x≠a from fun e=>hn.1 (by rw[<- e];exact hx))).mpr (k x (List.mem_cons_of_mem _ hx))
  rw[List.length_erase_of_mem ha] at h1
  have h2:=List.length_pos_of_mem ha
  rw[List.length_cons]
  omega
theorem zAf (f:Str) (v:V):∀ fs:List (Str×V),∀ g,g∈(qC f v fs).map (·.1)->g=f\/g∈fs.map (·.1)
 | [],g,h=>by
  have h':g∈[f]:=h
  exact .inl (by simpa using h')
 | (k,x)::r,g,h=>by
  rw[show qC f v ((k,x)::r)=(if k=f then (k,v)::r else (k,x)::qC f v r) from rfl] at h
  by_cases hk:k=f
  ·rw[if_pos hk] at h
   exact .inr h
  ·rw[if_neg hk,List.map_cons] at h
   rcases List.mem_cons.mp h with e | h
   ·exact .inr (by rw[e];simp)
   ·rcases zAf f v r g h with e | e
    ·exact .inl e
    ·exact .inr (List.mem_cons_of_mem _ e)
theorem zBA (f:Str) (v:V):∀ fs:List (Str×V),(fs.map (·.1)).Nodup->((qC f v fs).map (·.1)).Nodup
 | [],_=>by show [f].Nodup;simp
 | (k,x)::r,h=>by
  rw[List.map_cons,List.nodup_cons] at h
  rw[show qC f v ((k,x)::r)=(if k=f then (k,v)::r else (k,x)::qC f v r) from rfl]
  by_cases hk:k=f
  ·rw[if_pos hk,List.map_cons,List.nodup_cons];exact h
  ·rw[if_neg hk,List.map_cons,List.nodup_cons]
   refine⟨fun m=>?_,zBA f v r h.2⟩
   rcases zAf f v r k m with e | e
   ·exact hk e
   ·exact h.1 e
theorem zBK {f:Str}:∀ {gs:List (Str×V)},f∉gs.map (·.1)->gs.lookup f=none
 | [],_=>rfl
 | (g,x)::r,h=>by
  rw[List.map_cons,List.mem_cons,not_or] at h
  have hb:(f == g)=false:=beq_eq_false_iff_ne.mpr h.1
  rw[List.lookup_cons,hb]
  exact zBK h.2
theorem zL7 {P:Program}{w:World}{K:PySem.W.Frag}{mg:Str->Option Value}{base:Heap}{Θ:Tab}{k n:Nat}{f:Addr}{fd:FuncData}{ps:List Str}{q:M.F} (h:∀ ds s,q ds s=.no):jZ P w K mg base CX0 k f fd ps (SpM K Θ n q) :=
 ⟨fun vs H Q E ⟨ρ,ds,S,_,_,_,z⟩=>by rw[h] at z;exact z.elim,fun A outer s H args us vs Q E _ _ _ _ _ ⟨ρ,ds,S,_,_,_,z⟩=>by rw[h] at z;exact z.elim⟩
section
variable {K:PySem.W.Frag}{Θ:Tab}{ρ:List Addr}{H:Hp}
theorem Jq.few {N:List Str}{fs:List (Option M.D)}{gs:List (Str×V)} (r:Jq K ρ H N fs gs):gs.length <= N.length:=by
 have:=zCJ r.nd r.within
 rwa [List.length_map] at this
theorem Jq.put {H':Hp}{N:List Str}{fs:List (Option M.D)}{gs:List (Str×V)}{i:Nat}{f:Str}{d:M.D}{v:V} (r:Jq K ρ H N fs gs) (hN:N.Nodup) (hi:N[i]? = some f) (le:Le H H') (rv:zG K ρ H' d v):Jq K ρ H' N (fs.set i (some d)) (qC f v gs):=by
 refine⟨by rw[List.length_set];exact r.len,zBA f v gs r.nd,fun g hg=>?_,fun j g e hj he=>?_⟩
 ·rcases zAf f v gs g hg with z | z
  ·rw[z];exact List.mem_of_getElem? hi
  ·exact r.within g z
 ·rw[Ql]
  by_cases hij:i=j
  ·subst hij
   rw[hi] at hj;cases hj
   rw[if_pos rfl]
   have hl:i < fs.length:=by rw[r.len];exact (List.getElem?_eq_some_iff.mp hi).1
   rw[List.getElem?_set_self hl] at he
   cases he
   exact⟨v,rfl,rv⟩
  ·rw[List.getElem?_set_ne hij] at he
   have hne:¬ g=f:=fun z=>hij (QD hN (by rw[hi]) (by rw[hj,z]))
   rw[if_neg hne]
   obtain⟨u,e1,e2⟩:=r.get j g e hj he
   exact⟨u,e1,e2.mono (List.prefix_refl _) le⟩
theorem zDW {S:M.S}{p c:Nat}{a C:Addr}{N:List Str}{fs:List (Option M.D)} (cm:Zp K Θ c C N) (rp:zT K Θ ρ S H) (ha:ρ[p]? = some a) (e:S[p]? = some (.ins c fs)):∃ dx gs,H a=some (.ins C dx gs)/\Jq K ρ H N fs gs:=by
 obtain⟨b,hb,C',dx,gs,N',h1,h2,h3⟩:=rp.obj p _ e
 rw[ha] at hb;cases hb
 rw[cm.tab] at h2;cases h2
 exact⟨dx,gs,h1,h3⟩
theorem zEW {a C dx:Addr}{gs:List (Str×V)} (h:H a=some (.ins C dx gs)):Mut (H a):=by rw[h];trivial
theorem zHj {S:M.S}{c i:Nat}{C:Addr}{N:List Str}{f:Str}{x:M.D}{X1:V}{Q:VK} (cm:Zp K Θ c C N) (hi:N[i]? = some f) (rp:zT K Θ ρ S H) (rx:zG K ρ H x X1) (h:zE K Θ (zG K) ρ H (M.zFg c i x S) Q) :
  ∃ a dx fs v,X1=.ref a/\H a=some (.ins C dx fs)/\fs.lookup f=some v/\Q v H:=by
 unfold M.zFg at h
 split at h
 ·rename_i p
  split at h
  ·rename_i c' fs e
   split at h
   ·rename_i hc
    subst hc
    split at h
    ·rename_i d ed
     obtain⟨a,rfl,ha⟩:=rx
     obtain⟨dx,gs,h1,h3⟩:=zDW cm rp ha e
     obtain⟨v,e1,rv⟩:=h3.get i f d hi ed
     exact⟨a,dx,gs,v,rfl,h1,e1,zE.here h rp rv⟩
    ·exact h.elim
   ·exact h.elim
  ·exact h.elim
 ·exact h.elim
theorem zKg {X:Cx}{c i:Nat}{C:Addr}{N:List Str}{f:Str}{e:Expr}{m:M.EM}{pos:Pos} (cm:Zp X.K Θ c C N) (hi:N[i]? = some f) (he:ME X Θ e m) (hb:attributeBase e f X.env (eval e X.env)=eval e X.env:=by rfl):ME X Θ (.Attribute e f pos) (M.yL c i m) :=
 (zKe he hb).imp fun σ H Q ⟨ρ,σ',S,st,rp,h⟩=>⟨ρ,σ',S,st,rp,zE.bind h fun ρ1 H1 x X1 S1 p1 l1 rp1 rx h1=>by
  obtain⟨a,dx,fs,v,e1,e2,e3,q⟩:=zHj cm hi rp1 rx h1
  exact⟨a,C,dx,fs,v,e1,e2,cm.cl,cm.no f (List.mem_of_getElem? hi),e3,q⟩⟩
theorem qw {X:Cx}{c i:Nat}{C:Addr}{N:List Str}{f:Str}{e:Expr}{m:M.EM}{pos:Pos} (cm:Zp X.K Θ c C N) (hi:N[i]? = some f) (he:WE X Θ e m) (hb:attributeBase e f X.env (eval e X.env)=eval e X.env:=by rfl):WE X Θ (.Attribute e f pos) (M.yL c i m):=by with_unfolding_all exact zKg (X:=X) (c:=c) (i:=i) (C:=C) (N:=N) (f:=f) (e:=e) (m:=m) (pos:=pos) cm hi he hb
theorem zHc {S:M.S}{c i:Nat}{C:Addr}{N:List Str}{f:Str}{x y:M.D}{X1 Y:V}{σ1:M.St}{σ:St}{D:Zo} (cm:Zp K Θ c C N) (hi:N[i]? = some f) (rp:zT K Θ ρ S H) (st:jE K ρ H σ1 σ) (rx:zG K ρ H x X1) (ry:zG K ρ H y Y) (h:zm K Θ ρ H ((M.zDc c i x y S).stm σ1 fun _ s=>.nx σ1 s) D) :
  ∃ a dx fs,X1=.ref a/\H a=some (.ins C dx fs)/\fs.length < 1000/\D.nx σ (upd H a (.ins C dx (qC f Y fs))):=by
 unfold M.zDc at h
 split at h
 ·rename_i p
  split at h
  ·rename_i c' fs e
   split at h
   ·rename_i hc
    subst hc
    obtain⟨a,rfl,ha⟩:=rx
    obtain⟨dx,gs,h1,h3⟩:=zDW cm rp ha e
    have le:=Le.put (zEW h1) (.ins C dx (qC f Y gs))
    refine⟨a,dx,gs,rfl,h1,by have:=h3.few;have:=cm.few;omega,?_⟩
    exact h ρ _ σ (List.prefix_refl _) le (rp.put ha (zEW h1) ⟨C,dx,_,N,jB,cm.tab,h3.put cm.nd hi le (ry.mono (List.prefix_refl _) le)⟩) (st.mono (List.prefix_refl _) le)
   ·exact h.elim
  ·exact h.elim
 ·exact h.elim
theorem zK9 {X:Cx}{c i:Nat}{C:Addr}{N:List Str}{f:Str}{o e:Expr}{mo m:M.EM}{pos pos':Pos} (cm:Zp X.K Θ c C N) (hi:N[i]? = some f) (ho:ME X Θ o mo) (he:ME X Θ e m) (hs:swapsWith e (some (.Attribute o f pos')) pos.line X.env=pure false:=by kernel_rfl):MS X Θ (.Assign [.Attribute o f pos'] e pos) (M.zBc c i mo m) :=
 (zKz ho he hs).imp fun D σ H ⟨ρ,σ',S,st,rp,h⟩=>⟨ρ,σ',S,st,rp,zm.stm h fun ρ1 H1 y Y S1 p1 l1 rp1 ry h1=>⟨ρ1,σ',S1,st.mono p1 l1,rp1,zm.stm h1 fun ρ2 H2 x X1 S2 p2 l2 rp2 rx h2=>by
  obtain⟨a,dx,fs,e1,e2,e3,q⟩:=zHc cm hi rp2 (st.mono (p1.trans p2) (l1.trans l2)) rx (ry.mono p2 l2) h2
  exact⟨a,C,dx,fs,e1,e2,cm.cl,cm.no f (List.mem_of_getElem? hi),e3,q⟩⟩⟩
theorem zDO {X:Cx}{c i:Nat}{C:Addr}{N:List Str}{f:Str}{o e:Expr}{mo m:M.EM}{pos pos':Pos} (cm:Zp X.K Θ c C N) (hi:N[i]? = some f) (ho:WE X Θ o mo) (he:WE X Θ e m) (hs:swapsWith e (some (.Attribute o f pos')) pos.line X.env=pure false:=by kernel_rfl):WS X Θ (.Assign [.Attribute o f pos'] e pos) (M.zBc c i mo m):=by with_unfolding_all exact zK9 (X:=X) (c:=c) (i:=i) (C:=C) (N:=N) (f:=f) (o:=o) (e:=e) (mo:=mo) (m:=m) (pos:=pos) (pos':=pos') cm hi ho he hs
theorem zEH {N:List Str}{fs:List (Option M.D)}{gs:List (Str×V)}{m:Str} (r:Jq K ρ H N fs gs) (hm:m∉N):gs.lookup m=none:=zBK fun z=>hm (r.within m z)
theorem zJe {X:Cx}{c k kk n:Nat}{C:Addr}{N ps:List Str}{name:Str}{o e:Expr}{es:List Expr}{mo:M.EM}{m:M.AM}{f:M.F}{pos apos:Pos}{pl:Sem Bool} (cm:Zp X.K Θ c C N) (h:zFI X.prog X.w X.K X.mg X.base C name k ps (SpM X.K Θ (n+1) f)) (hr:z4 kk X.A) (hk:k <= kk) (hm:name∉N) (ho:ME X Θ o mo) (ha:MA X Θ (e::es) m) (ar:Zz m n) (hx:qj CX0 X E0:=by exact JH)
  (he:zu e=true:=by rfl) (hpl:es.all zu=true:=by rfl)
  (ht:eval (.Call (.Attribute o name apos) (e::es) [] pos) X.env=(do
   let ov <- eval o X.env
   standAt apos.atName
   let (f,first) <- holding [ov] (getMethod ov name pl)
   callWith pos f first (backTo pos (starEach (e::es) X.env)) (backToKw pos (keywordEach [] X.env))):=by rfl):ME X Θ (.Call (.Attribute o name apos) (e::es) [] pos) (M.zAF c f mo m):=by
 obtain⟨g,fd,F,b,mt⟩:=h.ex
 refine (zIv ho cm.cl mt F (hr.mono hk) b .nil hx ha (jq he) (ZB hpl) ht).imp fun σ H Q ⟨ρ,σ',S,st,rp,h⟩=>⟨ρ,σ',S,st,rp,zE.bind h fun ρ1 H1 x X1 S1 p1 l1 rp1 rx h1=>?_⟩
 cases x with
 | ref p =>
  have h1':zE X.K Θ (zG X.K) ρ1 H1 (match S1[p]? with | some (.ins c' _)=>if c'=c then (m σ' S1).bind fun xs s=>f (.ref p::xs) s else .no | _=>.no) Q:=h1
  cases q:S1[p]? with
  | none=>rw[q] at h1';exact h1'.elim
  | some ob =>
   rw[q] at h1'
   cases ob with
   | ins c' fs =>
    by_cases hc:c'=c
    ·subst hc
     have h2:zE X.K Θ (zG X.K) ρ1 H1 (if c'=c' then (m σ' S1).bind fun xs s=>f (.ref p::xs) s else .no) Q:=h1'
     rw[if_pos rfl] at h2
     obtain⟨a,rfl,ha'⟩:=id rx
     obtain⟨dx,gs,e1,e2⟩:=zDW cm rp1 ha' q
     refine⟨a,dx,gs,rfl,e1,zEH e2 hm,ρ1,σ',S1,st.mono p1 l1,rp1,?_⟩
     cases hM:m σ' S1 with
     | no=>rw[hM] at h2;exact h2.elim
     | exc a s=>rw[hM] at h2;exact h2.elim
     | ok ds S2 =>
      rw[hM] at h2
      intro ρ2 H2 vs p2 l2 rp2 r2
      rw[List.append_nil]
      exact⟨ρ2,.ref p::ds,S2,by rw[List.length_cons,ar _ _ _ _ hM],⟨_,_,rfl,rx.mono p2 l2,r2⟩,rp2,zE.weak h2 p2 l2⟩
    ·have h2:zE X.K Θ (zG X.K) ρ1 H1 (if c'=c then (m σ' S1).bind fun xs s=>f (.ref p::xs) s else .no) Q:=h1'
     rw[if_neg hc] at h2
     exact h2.elim
   | lst _=>exact h1'.elim
   | dct _=>exact h1'.elim
   | fdc _=>exact h1'.elim
   | dtt _=>exact h1'.elim
   | ftt _=>exact h1'.elim
 | _=>exact h1.elim
theorem zB8 {X:Cx}{c k kk n:Nat}{C:Addr}{N ps:List Str}{name:Str}{o e:Expr}{es:List Expr}{mo:M.EM}{m:M.AM}{f:M.F}{pos apos:Pos}{pl:Sem Bool} (cm:Zp X.K Θ c C N) (h:zFI X.prog X.w X.K X.mg X.base C name k ps (SpM X.K Θ (n+1) f)) (hr:z4 kk X.A) (hk:k <= kk) (hm:name∉N) (ho:WE X Θ o mo) (ha:WA X Θ (e::es) m) (ar:Zz m n) (hx:qj CX0 X E0:=by exact JH)
  (he:zu e=true:=by rfl) (hpl:es.all zu=true:=by rfl)
  (ht:eval (.Call (.Attribute o name apos) (e::es) [] pos) X.env=(do
   let ov <- eval o X.env
   standAt apos.atName
   let (f,first) <- holding [ov] (getMethod ov name pl)
   callWith pos f first (backTo pos (starEach (e::es) X.env)) (backToKw pos (keywordEach [] X.env))):=by rfl):WE X Θ (.Call (.Attribute o name apos) (e::es) [] pos) (M.zAF c f mo m):=by with_unfolding_all exact zJe (X:=X) (c:=c) (k:=k) (kk:=kk) (n:=n) (C:=C) (N:=N) (ps:=ps) (name:=name) (o:=o) (e:=e) (es:=es) (mo:=mo) (m:=m) (f:=f) (pos:=pos) (apos:=apos) (pl:=pl) cm h hr hk hm ho ha ar hx he hpl ht
theorem zI7 {X:Cx}{c k kk n nf:Nat}{C:Addr}{N ps:List Str}{x:Str}{e:Expr}{es:List Expr}{m:M.AM}{f:M.F}{pos p:Pos} (cm:Zp X.K Θ c C N) (h:zH6 X.prog X.w X.K X.mg X.base C x k ps (SpM X.K Θ (n+1) f)) (hr:z4 kk X.A) (hk:k+1 <= kk) (hn:N.length=nf) (hg:Gl X x) (ha:MA X Θ (e::es) m) (ar:Zz m n) (hx:qj CX0 X E0:=by exact JH) (hdb:(x == ("__debug__" : Str))=false:=by decide)
  (he:zu e=true:=by rfl) (hpl:es.all zu=true:=by rfl):ME X Θ (.Call (.Name x p) (e::es) [] pos) (M.zCp c nf f m):=by
 obtain⟨g,fd,F,b,mk,hmg⟩:=h.ex
 refine (zJm mk F (hr.mono hk) hg hmg b .nil hx ha hdb (jq he) (ZB hpl)).imp fun σ H Q ⟨ρ,σ',S,st,rp,h⟩=>⟨ρ,σ',S,st,rp,?_⟩
 have h':zE X.K Θ (zG X.K) ρ H ((m σ' S).bind fun xs s=>(f (.ref s.length::xs) (s++[.ins c (List.replicate nf none)])).bind fun d s'=>if d=.non then .ok (.ref s.length) s' else .no) Q:=h
 cases hM:m σ' S with
 | no=>rw[hM] at h';exact h'.elim
 | exc a s=>rw[hM] at h';exact h'.elim
 | ok ds S1 =>
  rw[hM,M.R.bind_ok] at h'
  intro ρ1 H1 vs p1 l1 rp1 r1 y dx hy hdx hne
  rw[List.append_nil]
  have l2:Le H1 (upd H1 dx (.own y)):=Le.new hdx _
  have rp2:=rp1.aside hdx (.own y)
  have hy2:upd H1 dx (.own y) y=none:=by rw[zU (Ne.symm hne)];exact hy
  have l3:Le (upd H1 dx (.own y)) (upd (upd H1 dx (.own y)) y (.ins C dx [])):=Le.new hy2 _
  have pre:ρ1 <+: ρ1++[y]:=List.prefix_append _ _
  have rp3:zT X.K Θ (ρ1++[y]) (S1++[.ins c (List.replicate nf none)]) (upd (upd H1 dx (.own y)) y (.ins C dx [])):=by
   refine rp2.alloc hy2 ⟨C,dx,[],N,jB,cm.tab,by rw[List.length_replicate];exact hn.symm,List.nodup_nil,(fun f hf=>nomatch hf),fun i f d _ q=>?_⟩
   rw[List.getElem?_replicate] at q
   split at q<;>cases q
  have hlast:(ρ1++[y])[S1.length]? = some y:=by rw[<- rp1.len];simp
  refine⟨ρ1++[y],.ref S1.length::ds,_,by rw[List.length_cons,ar _ _ _ _ hM],⟨_,_,rfl,⟨y,rfl,hlast⟩,r1.mono pre (l2.trans l3)⟩,rp3,?_⟩
  refine zE.bind (zE.weak h' (p1.trans pre) (l1.trans (l2.trans l3))) fun ρ4 H4 d v S4 p4 l4 rp4 rv h4=>?_
  by_cases hd:d=.non
  ·subst hd
   rw[if_pos rfl] at h4
   cases rv
   exact⟨rfl,zE.here h4 rp4 ⟨y,rfl,ZZ p4 hlast⟩⟩
  ·rw[if_neg hd] at h4
   exact h4.elim
theorem zCN {X:Cx}{c k kk n nf:Nat}{C:Addr}{N ps:List Str}{x:Str}{e:Expr}{es:List Expr}{m:M.AM}{f:M.F}{pos p:Pos} (cm:Zp X.K Θ c C N) (h:zH6 X.prog X.w X.K X.mg X.base C x k ps (SpM X.K Θ (n+1) f)) (hr:z4 kk X.A) (hk:k+1 <= kk) (hn:N.length=nf) (hg:Gl X x) (ha:WA X Θ (e::es) m) (ar:Zz m n) (hx:qj CX0 X E0:=by exact JH) (hdb:(x == ("__debug__" : Str))=false:=by decide)
  (he:zu e=true:=by rfl) (hpl:es.all zu=true:=by rfl):WE X Θ (.Call (.Name x p) (e::es) [] pos) (M.zCp c nf f m):=by with_unfolding_all exact zI7 (X:=X) (c:=c) (k:=k) (kk:=kk) (n:=n) (nf:=nf) (C:=C) (N:=N) (ps:=ps) (x:=x) (e:=e) (es:=es) (m:=m) (f:=f) (pos:=pos) (p:=p) cm h hr hk hn hg ha ar hx hdb he hpl
end
end L2
namespace L2
open PySem PySem.Spec PyProof.Rows
noncomputable def SIt (b:Bool) (h:Heap) (it a:Addr) (i:Nat):Prop:=match b with | true=>h.IsListIter it a i | false=>h.IsTupleIter it a i
section
variable {P:Program}{w:World}{A:Around}{E:Value->Shared->Prop}{s:Shared}
structure ZAt (b1 b2:Bool) (z TI TO i1 i2 l1 l2:Addr) (i:Nat) (h:Heap):Prop where
 zp:IsZip h z TI TO .none
 ti:IsPair h TI (.ref i1) (.ref i2)
 to:∃ a b,IsPair h TO a b
 n1:SIt b1 h i1 l1 i
 n2:SIt b2 h i2 l2 i
end
end L2
namespace L2
open PySem PySem.Spec PyProof.Rows
section
variable {P:Program}{w:World}{A:Around}{E:Value->Shared->Prop}{s:Shared}
set_option maxHeartbeats 4000000 in
end
end L2
namespace L2
open PySem PySem.Spec PyProof.Rows
theorem Inv.swapD {X:Cx}{pins:List (Addr×Obj)}{σ:St}{H:Hp}{s:Shared}{a:Addr}{u0 u1:HO} (I:Inv X pins σ H s) (e:H a=some u0) (n1:∀ xs,u0≠.tup xs) (n2:∀ o u,X.H₀ a≠some (.frz o u)) (n3:∀ ps,u0≠.tbl ps) (n4:∀ x,u0≠.own x)
  (new:jK X.prog X.w (upd H a u1) s.heap a u1):Inv X pins σ (upd H a u1) s:=by
 have nn:∀ {b},H b=none->b≠a:=fun z q=>by rw[q,e] at z;cases z
 refine⟨I.ok,I.os,I.bare,⟨I.base.keep,I.base.slot,fun b ob q n hx=>?_,I.base.there,fun b xs q=>?_,fun b ob u q=>?_,fun b ps q=>?_⟩,I.loc,I.cell,?_,fun x c q=>?_,fun p hp'=>?_,fun b u q=>?_,I.len,I.tk⟩
 ·have z:=I.base.free b ob q n hx
  rw[zU (nn z)];exact z
 ·have z:=I.base.tups b xs q
  rw[zU (fun w=>by rw[w,e] at z;cases z;exact n1 xs rfl)];exact z
 ·have z:=I.base.frzs b ob u q
  rw[zU (fun w=>by rw[w] at q;exact n2 _ _ q)];exact z
 ·obtain⟨mo,z⟩:=I.base.tbls b ps q
  exact⟨mo,by rw[zU (fun w=>by rw[w,e] at z;cases z;exact n3 _ rfl)];exact z⟩
 ·rw[zU (nn I.free)];exact I.free
 ·rw[zU (nn (I.freeC x c q))];exact I.freeC x c q
 ·obtain⟨e1,e2,e3,e4,e5⟩:=I.pin p hp'
  exact⟨e1,by rw[zU (nn e2)];exact e2,e3,e4,e5⟩
 ·by_cases hb:b=a
  ·subst hb;rw[jB] at q;cases q;exact new
  ·rw[zU hb] at q
   exact (I.hok b u q).stay (fun _ _ _ q=>q) (fun c z=>by rw[zU (fun w=>by rw[w,e] at z;cases z;exact n4 _ rfl)];exact z) fun c xs z=>by rw[zU (fun w=>by rw[w,e] at z;cases z;exact n1 _ rfl)];exact z
noncomputable def wk:HO->Bool
 | .dK _=>true
 | .ext _=>true
 | _=>false
theorem Inv.dict_base {X:Cx}{pins:List (Addr×Obj)}{σ:St}{H:Hp}{s:Shared}{a:Addr}{u:HO} (hu:wk u=true) (I:Inv X pins σ H s) (e:H a=some u):∀ o u,X.H₀ a≠some (.frz o u):=fun o u q=>by
 have z:=I.base.frzs a o u q
 rw[e] at z;cases z;cases hu
theorem Inv.thaw {X:Cx}{pins:List (Addr×Obj)}{σ:St}{H:Hp}{s:Shared}{a:Addr}{o:Obj}{u:HO} (hu:wk u=true) (I:Inv X pins σ H s) (e:H a=some (.frz o u)) (n2:∀ o u,X.H₀ a≠some (.frz o u)):Inv X pins σ (upd H a u) s:=by
 obtain⟨_,z⟩:=(show jK X.prog X.w H s.heap a (.frz o u) from I.hok a _ e)
 refine I.swapD e (fun _ q=>nomatch q) n2 (fun _ q=>nomatch q) (fun _ q=>nomatch q) ?_
 cases u with
 | dK _=>exact z
 | ext _=>exact z
 | _=>cases hu
section
variable {K:PySem.W.Frag}{Θ:Tab}{ρ:List Addr}{H H':Hp}
mutual
theorem zG.move (hT:∀ b xs,SqT K H b xs->SqT K H' b xs) (hR:∀ b xs,Zr K H b xs->Zr K H' b xs):∀ {d:M.D}{v:V},zG K ρ H d v->zG K ρ H' d v
 | .non,_,h=>h
 | .bl _,_,h=>h
 | .int _,_,h=>h
 | .str _,_,h=>h
 | .ty _,_,h=>h
 | .ref _,_,h=>h
 | .tup _,_,⟨a,xs,e,h,r⟩=>⟨a,xs,e,hT a xs h,zH.move hT hR r⟩
 | .ro _,_,⟨a,xs,e,h,r⟩=>⟨a,xs,e,hR a xs h,zH.move hT hR r⟩
theorem zH.move (hT:∀ b xs,SqT K H b xs->SqT K H' b xs) (hR:∀ b xs,Zr K H b xs->Zr K H' b xs):∀ {ds:List M.D}{xs:List V},zH K ρ H ds xs->zH K ρ H' ds xs
 | [],_,h=>h
 | _::_,_,⟨y,ys,e,h,r⟩=>⟨y,ys,e,zG.move hT hR h,zH.move hT hR r⟩
end
section
variable {a:Addr}{o:Obj}{u:HO} (hu:wk u=true) (ha:H a=some (.frz o u))
include hu ha
theorem zGD:∀ b xs,SqT K H b xs->SqT K (upd H a u) b xs:=fun b xs h=>by
 rcases h with (h | ⟨o',h⟩) | h
 ·exact .inl (.inl (by rw[zU (fun z=>by rw[z,ha] at h;cases h)];exact h))
 ·exact .inl (.inr ⟨o',by rw[zU (fun z=>by rw[z,ha] at h;cases h;cases hu)];exact h⟩)
 ·exact .inr h
theorem zF0:∀ b xs,Zr K H b xs->Zr K (upd H a u) b xs:=fun b xs h=>by
 rcases h with ⟨o',h⟩ | h
 ·exact .inl ⟨o',by rw[zU (fun z=>by rw[z,ha] at h;cases h;cases hu)];exact h⟩
 ·exact .inr h
theorem zG.thaw {d:M.D}{v:V} (r:zG K ρ H d v):zG K ρ (upd H a u) d v:=zG.move (zGD hu ha) (zF0 hu ha) r
theorem jE.thaw {σ':M.St}{σ:St} (h:jE K ρ H σ' σ):jE K ρ (upd H a u) σ' σ :=
 ⟨h.len,fun i d e=>let ⟨v,h1,h2⟩:=h.get i d e;⟨v,h1,zG.thaw hu ha h2⟩⟩
theorem TDr.thaw {p:M.D×M.D}{q:M.D×Addr×Value} (z:TDr K ρ H p q):TDr K ρ (upd H a u) p q:=⟨z.1,z.2.1,zG.thaw hu ha z.2.2.1,let ⟨v,a1,a2⟩:=z.2.2.2;⟨v,zG.thaw hu ha a1,a2⟩⟩
theorem ObR.thaw {b:Addr}{ob:M.O} (nb:b≠a) (h:ObR K Θ ρ H b ob):ObR K Θ ρ (upd H a u) b ob:=by
 have e:=zU (H:=H) (o:=u) nb
 cases ob with
 | lst ds=>obtain⟨xs,e1,r⟩:=h;exact⟨xs,e.trans e1,zH.move (zGD hu ha) (zF0 hu ha) r⟩
 | dct kvs=>obtain⟨ks,e1,r⟩:=h;exact⟨ks,e.trans e1,Paired.mapP r fun p q z=>⟨z.1,zG.thaw hu ha z.2⟩⟩
 | dtt kvs=>obtain⟨xs,e1,r⟩:=h;exact⟨xs,e.trans e1,Paired.mapP r fun p q z=>TDr.thaw hu ha z⟩
 | ftt kvs=>obtain⟨o',xs,e1,r⟩:=h;exact⟨o',xs,e.trans e1,Paired.mapP r fun p q z=>TDr.thaw hu ha z⟩
 | fdc kvs=>obtain⟨o',ks',e1,r⟩:=h;exact⟨o',ks',e.trans e1,Paired.mapP r fun p q z=>⟨z.1,zG.thaw hu ha z.2⟩⟩
 | ins c fs =>
  obtain⟨C,dx,gs,N,e1,e2,r⟩:=h
  exact⟨C,dx,gs,N,e.trans e1,e2,r.len,r.nd,r.within,fun i f d h1 h2=>let ⟨v,k1,k2⟩:=r.get i f d h1 h2;⟨v,k1,zG.thaw hu ha k2⟩⟩
theorem zT.thaw {S:M.S}{i:Nat}{t:M.O} (h:zT K Θ ρ S H) (hi:ρ[i]? = some a) (r:ObR K Θ ρ (upd H a u) a t):zT K Θ ρ (S.set i t) (upd H a u):=by
 refine⟨by simp[h.len],h.nd,fun j ob q=>?_⟩
 by_cases hj:i=j
 ·subst hj
  by_cases hl:i < S.length
  ·rw[List.getElem?_set_self hl] at q
   cases q
   exact⟨a,hi,r⟩
  ·rw[List.getElem?_eq_none (by rw[List.length_set];omega)] at q
   cases q
 ·rw[List.getElem?_set_ne hj] at q
  obtain⟨b,h1,h2⟩:=h.obj j ob q
  exact⟨b,h1,ObR.thaw hu ha (fun z=>hj (QD h.nd hi (z ▸ h1))) h2⟩
end
theorem zGp {α β:Type}{R:α->β->Prop}{xs:List α}{ys:List β}{i:Nat}{y:β} (h:Paired R xs ys) (e:ys[i]? = some y):∃ x,xs[i]? = some x/\R x y:=by
 induction h generalizing i with
 | nil=>simp at e
 | cons h t ih =>
  cases i with
  | zero=>cases e;exact⟨_,rfl,h⟩
  | succ n =>
   obtain⟨q,hq,r⟩:=ih (by simpa using e)
   exact⟨q,by simpa using hq,r⟩
end
noncomputable def zCr (H₀:Hp) (H:Hp) (Q:Hp->Prop):Prop:=∃ a o u,wk u=true/\H a=some (.frz o u)/\(∀ o u,H₀ a≠some (.frz o u))/\Q (upd H a u)
noncomputable def zIa (H₀:Hp) (D:Zo):Zo where
 nx:=fun σ H=>zCr H₀ H (D.nx σ)
 rt:=fun v H=>zCr H₀ H (D.rt v)
 bk:=fun σ H=>zCr H₀ H (D.bk σ)
 ct:=fun σ H=>zCr H₀ H (D.ct σ)
theorem zJj {X:Cx}{st:Stmt}{t:TS} (h:PS X st t):PS X st fun D σ H=>t (zIa X.H₀ D) σ H:=fun pins s σ H D I q=>thn (h pins s σ H _ I q) fun f s1 z=>by
 cases f with
 | next=>obtain⟨σ1,H1,I1,a,o,u,hu,e,n,d⟩:=z;exact⟨σ1,_,I1.thaw hu e n,d⟩
 | brk=>obtain⟨σ1,H1,I1,a,o,u,hu,e,n,d⟩:=z;exact⟨σ1,_,I1.thaw hu e n,d⟩
 | cont=>obtain⟨σ1,H1,I1,a,o,u,hu,e,n,d⟩:=z;exact⟨σ1,_,I1.thaw hu e n,d⟩
 | ret _=>obtain⟨v,σ1,H1,I1,r,a,o,u,hu,e,n,d⟩:=z;exact⟨v,σ1,_,I1.thaw hu e n,r,d⟩
section
variable {X:Cx}{Θ:Tab}
theorem zFO {K:PySem.W.Frag}{H₀:Hp}{ρ:List Addr}{H:Hp}{i:Nat}{a:Addr}{o:Obj}{u:HO}{f t:M.O}{r:M.RS}{D:Zo} (hu:wk u=true) (hi:ρ[i]? = some a) (ha:H a=some u) (n:∀ o u,H₀ a≠some (.frz o u)) (ob:∀ {ρ':List Addr}{H':Hp},ρ <+: ρ'->Le H H'->H' a=some u->ObR K Θ ρ' H' a t)
  (h:zm K Θ ρ H (M.zCl i f t r) D):zm K Θ ρ (upd H a (.frz o u)) r (zIa H₀ D):=by
 have key:∀ {ρ':List Addr}{H':Hp}{S:M.S},ρ <+: ρ'->Le (upd H a (.frz o u)) H'->zT K Θ ρ' S H'->H' a=some (.frz o u)/\Le H (upd H' a u)/\zT K Θ ρ' (S.set i t) (upd H' a u):=fun {ρ' H' S} p l rp=>by
  have e:=l.frzs a o u jB
  have le:Le H (upd H' a u):=by
   refine⟨fun b xs q=>?_,fun b ob u' q=>?_⟩
   ·have nb:b≠a:=fun z=>by rw[z,ha] at q;cases q;cases hu
    rw[zU nb]
    exact l.tups b xs (by rw[zU nb];exact q)
   ·have nb:b≠a:=fun z=>by rw[z,ha] at q;cases q;cases hu
    rw[zU nb]
    exact l.frzs b ob u' (by rw[zU nb];exact q)
  exact⟨e,le,rp.thaw hu e (ZZ p hi) (ob p le jB)⟩
 cases r with
 | nx σ1 S1 =>
  intro ρ' H' σ p l rp st
  obtain⟨e,le,rp'⟩:=key p l rp
  have h':zm K Θ ρ H (if S1[i]? = some f then .nx σ1 (S1.set i t) else .no) D:=h
  split at h'
  ·exact⟨a,o,u,hu,e,n,h' ρ' _ σ p le rp' (jE.thaw hu e st)⟩
  ·exact h'.elim
 | bk σ1 S1 =>
  intro ρ' H' σ p l rp st
  obtain⟨e,le,rp'⟩:=key p l rp
  have h':zm K Θ ρ H (if S1[i]? = some f then .bk σ1 (S1.set i t) else .no) D:=h
  split at h'
  ·exact⟨a,o,u,hu,e,n,h' ρ' _ σ p le rp' (jE.thaw hu e st)⟩
  ·exact h'.elim
 | ct σ1 S1 =>
  intro ρ' H' σ p l rp st
  obtain⟨e,le,rp'⟩:=key p l rp
  have h':zm K Θ ρ H (if S1[i]? = some f then .ct σ1 (S1.set i t) else .no) D:=h
  split at h'
  ·exact⟨a,o,u,hu,e,n,h' ρ' _ σ p le rp' (jE.thaw hu e st)⟩
  ·exact h'.elim
 | rt d S1 =>
  intro ρ' H' v p l rp rv
  obtain⟨e,le,rp'⟩:=key p l rp
  have h':zm K Θ ρ H (if S1[i]? = some f then .rt d (S1.set i t) else .no) D:=h
  split at h'
  ·exact⟨a,o,u,hu,e,n,h' ρ' _ v p le rp' (zG.thaw hu e rv)⟩
  ·exact h'.elim
 | exc e σ1 S1=>exact h
 | no=>exact h
end
end L2
namespace L2
open PySem PySem.Spec PyProof.Rows PySem.Builtin.Str
noncomputable def zIP (K:PySem.W.Frag):R2:=fun x y H Q=>∃ a b ys,x=.ref a/\y=.ref b/\SqT K H a []/\SqT K H b ys/\Q (.ref b) H
theorem zJS {X:Cx}:OpR X (binaryOp .Add) (zIP X.K):=by
 intro pins s σ H x y v u Q I rx ry h
 obtain⟨a,b,ys,rfl,rfl,ha,hb,q⟩:=h
 cases rx
 cases ry
 obtain⟨its,r1,p1,_⟩:=I.tuple ha
 obtain⟨its2,r2,p2,_⟩:=I.tuple hb
 cases r1
 obtain⟨⟨cls,dd,data,sl⟩,ho,hc,n,hd⟩:=id p1
 obtain⟨⟨cls2,dd2,data2,sl2⟩,ho2,hc2,n2,hd2⟩:=id p2
 simp only at hc hd hc2 hd2
 subst hc hd hc2 hd2
 exact concat_meets ⟨_,ho,rfl⟩ ⟨_,ho2,rfl⟩ noFill_tuple_add seq_tuple_add PySem.F.slot_tuple_add PySem.F.entry_tuple_add (PySem.F.args_tuple_add_2 _ _)
  (tuple_addW0 _ _ _ _ n n2 dd dd2 sl sl2 rfl) ⟨ho,ho2,⟨.ref b,H,I,rfl,q⟩⟩
theorem zJX {K:PySem.W.Frag}{Θ:Tab}:Ad2 K Θ M.Jo (fun x y H Q=>(zHp x y H Q\/zFD K x y H Q)\/zIP K x y H Q):=by
 intro ρ H S x y X Y Q rp rx ry h
 by_cases hc:∃ b,x=.tup []/\y=.tup b
 ·obtain⟨b,rfl,rfl⟩:=hc
  obtain⟨l,xs,rfl,hq,r⟩:=id rx
  obtain⟨l',ys,rfl,hq',r'⟩:=id ry
  have hx:xs=[]:=List.length_eq_zero_iff.mp r.length.symm
  subst hx
  exact .inr ⟨l,l',ys,rfl,rfl,hq,hq',zE.here h rp ⟨l',ys,rfl,hq',r'⟩⟩
 ·have e:M.Jo x y S=M.qM x y S:=by
   unfold M.Jo
   split
   ·exact absurd ⟨_,rfl,rfl⟩ hc
   ·rfl
  rw[e] at h
  exact .inl (qp ρ H S x y X Y Q rp rx ry h)
end L2
namespace L2
open PySem PySem.Spec PyProof.Rows PySem.SeqAt
section
variable (w:World)
noncomputable def haD:Nat->M.D->Int
 | _,.non=>reduceHash 0xFCA86420
 | _,.int i=>hashInt i
 | _,.str x=>hashStr w (ofT x)
 | n+1,.tup ds=>reduceHash (Builtin.Tuple.tupleHashOf (ds.map (haD n)))
 | _,_=>0
end
noncomputable def drD:Nat->M.D->Nat
 | n+1,.tup ds=>(ds.map (drD n)).sum+1
 | _,_=>1
mutual
inductive IsV (h:Heap):Nat->M.D->Value->Prop
 | non {n:Nat}:IsV h n .non .none
 | int {n:Nat}{i:Int}{t:Tok}:IsV h n (.int i) (.int i t)
 | str {n:Nat}{x:M.T}{t:Tok}:IsV h n (.str x) (.str (ofT x) t)
 | tup {n:Nat}{ds:List M.D}{a:Addr}{us:List Value}:h.IsTuple a us.toArray->j7 h n ds us->IsV h (n+1) (.tup ds) (.ref a)
inductive j7 (h:Heap):Nat->List M.D->List Value->Prop
 | nil {n:Nat}:j7 h n [] []
 | cons {n:Nat}{d:M.D}{ds:List M.D}{u:Value}{us:List Value}:IsV h n d u->j7 h n ds us->j7 h n (d::ds) (u::us)
end
theorem zEi {h:Heap}{a:Addr}{x y:List Value} (p:h.IsTuple a x.toArray) (q:h.IsTuple a y.toArray):x=y:=by
 obtain⟨o,e,_,n,d⟩:=p
 obtain⟨o',e',_,n',d'⟩:=q
 rw[e] at e'
 cases e'
 rw[d] at d'
 injection d' with z _
 simpa using z
section
variable {h h':Heap}
mutual
theorem IsV.inj:∀ {n:Nat}{x y:M.D}{v:Value},IsV h n x v->IsV h n y v->x=y
 | _,_,_,_,.non,b=>by cases b;rfl
 | _,_,_,_,.int,b=>by cases b;rfl
 | _,_,_,_,.str (x:=x),b=>by
  generalize hv:ofT x=z at b
  cases b
  rw[Qy hv]
 | _,_,_,_,.tup p r,b=>by
  cases b with
  | tup q t=>rw[zEi p q] at r;rw[j7.inj r t]
theorem j7.inj:∀ {n:Nat}{x y:List M.D}{v:List Value},j7 h n x v->j7 h n y v->x=y
 | _,_,_,_,.nil,b=>by cases b;rfl
 | _,_,_,_,.cons p r,b=>by
  cases b with
  | cons q t=>rw[IsV.inj p q,j7.inj r t]
end
mutual
theorem IsV.keep (k:∀ a us,h.IsTuple a us->h'.IsTuple a us):∀ {n:Nat}{x:M.D}{v:Value},IsV h n x v->IsV h' n x v
 | _,_,_,.non=>.non
 | _,_,_,.int=>.int
 | _,_,_,.str=>.str
 | _,_,_,.tup p r=>.tup (k _ _ p) (j7.keep k r)
theorem j7.keep (k:∀ a us,h.IsTuple a us->h'.IsTuple a us):∀ {n:Nat}{x:List M.D}{v:List Value},j7 h n x v->j7 h' n x v
 | _,_,_,.nil=>.nil
 | _,_,_,.cons p r=>.cons (IsV.keep k p) (j7.keep k r)
end
theorem j7.len:∀ {n:Nat}{x:List M.D}{v:List Value},j7 h n x v->x.length=v.length
 | _,_,_,.nil=>rfl
 | _,_,_,.cons _ r=>by rw[List.length_cons,List.length_cons,r.len]
theorem j7.at:∀ {n:Nat}{x:List M.D}{v:List Value},j7 h n x v->∀ (j:Nat) (h1:j < x.length) (h2:j < v.length),IsV h n x[j] v[j]
 | _,_,_,.cons p r,0,_,_=>p
 | _,_,_,.cons p r,j+1,h1,h2=>r.at j (by simpa using h1) (by simpa using h2)
end
section
variable {A:Around}{s:Shared}
theorem zJT (x y:M.T):(ofT x == ofT y)=decide (x=y):=by
 by_cases e:x=y
 ·subst e;simp
 ·rw[decide_eq_false e]
  exact beq_false_of_ne fun z=>e (Qy z)
theorem zKO {x y:List M.D}:((List.range (min x.length y.length)).all (fun j=>decide (x[j]? = y[j]?)) && x.length == y.length)=decide (x=y):=by
 by_cases e:x=y
 ·subst e;simp
 ·rw[decide_eq_false e,Bool.and_eq_false_iff]
  by_cases l:x.length=y.length
  ·refine .inl ?_
   rw[List.all_eq_false]
   apply Classical.byContradiction
   intro n
   refine e (List.ext_getElem l fun j h1 h2=>?_)
   have:=fun q=>n ⟨j,List.mem_range.mpr (by omega),q⟩
   simp[h1,h2] at this
   exact this
  ·exact .inr (by simpa using l)
theorem qU {α:Type} [DecidableEq α] {x y:α} (h:x≠y):decide (x=y)=false:=decide_eq_false h
theorem eqF {A:Around}{x y:M.D}{u v:Value} (h:¬ x=y) (k:EqAt A s u v false):EqAt A s u v (decide (x=y)):=by rw[qU h];exact k
theorem zEo (i j:Int):decide (M.D.int i=M.D.int j)=(i == j):=by
 by_cases e:i=j
 ·subst e;simp
 ·rw[qU fun z=>e (M.D.int.inj z),beq_false_of_ne e]
theorem zEp (x y:M.T):decide (M.D.str x=M.D.str y)=(ofT x == ofT y):=by
 rw[zJT]
 by_cases e:x=y
 ·subst e;simp
 ·rw[qU fun z=>e (M.D.str.inj z),qU e]
theorem zLg {n:Nat}{A:Around}{ds es:List M.D}{a b:Addr}{us ws:List Value} (hu:A.units+(n+1) < cLine)
  (ih:∀ {A:Around}{x y:M.D}{u v:Value},A.units+n < cLine->IsV s.heap n x u->IsV s.heap n y v->EqAt A s u v (decide (x=y)))
  (p1:s.heap.IsTuple a us.toArray) (r1:j7 s.heap n ds us) (p2:s.heap.IsTuple b ws.toArray) (r2:j7 s.heap n es ws):EqAt A s (.ref a) (.ref b) (decide (M.D.tup ds=M.D.tup es)):=by
 have td:decide (M.D.tup ds=M.D.tup es)=decide (ds=es):=by
  by_cases e:ds=es
  ·subst e;simp
  ·rw[qU fun z=>e (M.D.tup.inj z),qU e]
 rw[td]
 by_cases ab:a=b
 ·subst ab
  rw[zEi p1 p2] at r1
  rw[j7.inj r1 r2,decide_eq_true rfl]
  exact EqAt.same _
 ·have l1:=r1.len
  have l2:=r2.len
  have z:=RcAt.tuples (A:=A) (e:=fun j=>decide (ds[j]? = es[j]?)) p1 p2 (by omega) fun j h1 h2=>by
   have h1':j < us.length:=by simpa using h1
   have h2':j < ws.length:=by simpa using h2
   have:=ih (A:=A.in1) (by rw[Around.in1_units];omega) (r1.at j (by omega) h1') (r2.at j (by omega) h2')
   have e:decide (ds[j]? = es[j]?)=decide (ds[j]=es[j]):=by
    rw[List.getElem?_eq_getElem (by omega),List.getElem?_eq_getElem (by omega)]
    by_cases e:ds[j]=es[j]
    ·rw[e];simp
    ·rw[qU e,qU fun z=>e (Option.some.inj z)]
   rw[e]
   exact this
  have e1:us.toArray.size=ds.length:=by simp[l1]
  have e2:ws.toArray.size=es.length:=by simp[l2]
  rw[e1,e2,zKO] at z
  exact EqAt.of_refs ab z
theorem IsV.eq:∀ {n:Nat}{A:Around}{x y:M.D}{u v:Value},A.units+n < cLine->IsV s.heap n x u->IsV s.heap n y v->EqAt A s u v (decide (x=y)):=by
 intro n
 induction n with
 | zero =>
  intro A x y u v hu p q
  cases p with
  | non =>
   cases q with
   | non=>rw[decide_eq_true rfl];exact EqAt.same _
   | int=>refine eqF (fun z=>nomatch z) ?_;exact EqAt.none_int _ _
   | str=>refine eqF (fun z=>nomatch z) ?_;exact EqAt.none_str _ _
  | int =>
   cases q with
   | non=>refine eqF (fun z=>nomatch z) ?_;exact EqAt.int_none _ _
   | int=>rw[zEo];exact EqAt.int_int _ _ _ _
   | str=>refine eqF (fun z=>nomatch z) ?_;exact EqAt.int_str _ _ _ _
  | str =>
   cases q with
   | non=>refine eqF (fun z=>nomatch z) ?_;exact EqAt.str_none _ _
   | int=>refine eqF (fun z=>nomatch z) ?_;exact EqAt.str_int _ _ _ _
   | str=>rw[zEp];exact EqAt.str_str _ _ _ _
 | succ n ih =>
  intro A x y u v hu p q
  cases p with
  | non =>
   cases q with
   | non=>rw[decide_eq_true rfl];exact EqAt.same _
   | int=>refine eqF (fun z=>nomatch z) ?_;exact EqAt.none_int _ _
   | str=>refine eqF (fun z=>nomatch z) ?_;exact EqAt.none_str _ _
   | tup p2 r2=>refine eqF (fun z=>nomatch z) ?_;exact EqAt.none_tuple p2 (by omega)
  | int =>
   cases q with
   | non=>refine eqF (fun z=>nomatch z) ?_;exact EqAt.int_none _ _
   | int=>rw[zEo];exact EqAt.int_int _ _ _ _
   | str=>refine eqF (fun z=>nomatch z) ?_;exact EqAt.int_str _ _ _ _
   | tup p2 r2=>refine eqF (fun z=>nomatch z) ?_;exact EqAt.int_tuple _ _ p2 (by omega)
  | str =>
   cases q with
   | non=>refine eqF (fun z=>nomatch z) ?_;exact EqAt.str_none _ _
   | int=>refine eqF (fun z=>nomatch z) ?_;exact EqAt.str_int _ _ _ _
   | str=>rw[zEp];exact EqAt.str_str _ _ _ _
   | tup p2 r2=>refine eqF (fun z=>nomatch z) ?_;exact EqAt.str_tuple _ _ p2 (by omega)
  | tup p1 r1 =>
   cases q with
   | non=>refine eqF (fun z=>nomatch z) ?_;exact EqAt.tuple_none p1 (by omega)
   | int=>refine eqF (fun z=>nomatch z) ?_;exact EqAt.tuple_int _ _ p1 (by omega)
   | str=>refine eqF (fun z=>nomatch z) ?_;exact EqAt.tuple_str _ _ p1 (by omega)
   | tup p2 r2=>exact zLg hu (fun {A x y u v}=>ih (A:=A) (x:=x) (y:=y) (u:=u) (v:=v)) p1 r1 p2 r2
end
section
variable {pg:Program}{w:World}{Er:Value->Shared->Prop}
noncomputable def zEf (pg:Program) (w:World) (Er:Value->Shared->Prop) (n:Nat):Prop:=∀ {A:Around}{s:Shared}{d:M.D}{v:Value}{Q:Int->Shared->Prop},A.units+n < cLine->IsV s.heap n d v->Q (haD w n d) { s with toks:=s.toks+drD n d }->wpAny (model pg w) A (pyHash v) Q Er s
theorem zGV {n:Nat} (ih:zEf pg w Er n) {A:Around} (hu:A.units+n < cLine):∀ {vs:List Value}{ds:List M.D}{s:Shared}{b:Array Int}{Q:Array Int->Shared->Prop},j7 s.heap n ds vs ->
  (∀ b',b'.toList=b.toList++ds.map (haD w n)->Q b' { s with toks:=s.toks+(ds.map (drD n)).sum }) ->
  wpAny (model pg w) A (forIn vs b fun x r=>pyHash x >>= fun y=>(pure PUnit.unit:Sem PUnit) >>= fun _=>pure (ForInStep.yield (r.push y))) Q Er s:=by
 intro vs
 induction vs with
 | nil =>
  intro ds s b Q r h
  cases r
  rw[List.forIn_nil]
  exact wpAny_pure (h b (by simp))
 | cons v vs hv =>
  intro ds s b Q r h
  cases r with
  | @cons _ d ds' _ _ r1 r2 =>
   rw[List.forIn_cons]
   apply wpAny_bind
   apply wpAny_bind
   apply ih hu r1
   apply wpAny_bind
   apply wpAny_pure
   apply wpAny_pure
   refine hv (s:={ s with toks:=s.toks+drD n d }) r2 fun b' e=>?_
   have:=h b' (by rw[e];simp)
   simpa [Nat.add_assoc] using this
theorem IsV.hash:∀ n,zEf pg w Er n:=by
 have leaf:∀ {n:Nat}{A:Around}{s:Shared}{d:M.D}{v:Value}{Q:Int->Shared->Prop},(∀ ds,d≠.tup ds)->IsV s.heap n d v->Q (haD w n d) { s with toks:=s.toks+drD n d }->wpAny (model pg w) A (pyHash v) Q Er s:=by
  intro n A s d v Q nt p h
  cases p with
  | non =>
   refine PySem.W.pyHash_slot (T := "NoneType") rfl F.slot_NoneType_hash F.entry_NoneType_hash (F.args_NoneType_hash_1 _) (beq_builtin_none _) (.inl rfl) ?_
   apply wpAny_bind
   apply wpAny_pure
   apply wpAny_bind
   apply wpAny_mkInt
   apply wpAny_pure
   exact⟨_,_,rfl,by cases n<;>exact h⟩
  | int=>exact wpAny_pyHash_int (by cases n<;>exact h)
  | str=>exact wpAny_pyHash_str (by cases n<;>exact h)
  | tup _ _=>exact absurd rfl (nt _)
 intro n
 induction n with
 | zero=>intro A s d v Q hu p h;exact leaf (fun ds e=>by subst e;cases p) p h
 | succ n ih =>
  intro A s d v Q hu p h
  cases p with
  | non=>exact leaf (fun _ e=>by cases e) .non h
  | int=>exact leaf (fun _ e=>by cases e) .int h
  | str=>exact leaf (fun _ e=>by cases e) .str h
  | @tup _ ds a us q r =>
   obtain⟨o,o1,o2,nn,o3⟩:=q
   refine PySem.W.pyHash_slot (T := "tuple") ⟨o,o1,o2⟩ F.slot_tuple_hash F.entry_tuple_hash (F.args_tuple_hash_1 _) (beq_builtin_none _) (.inr (by omega)) ?_
   change wpAny _ _ (Builtin.Tuple.tupleItemsOf (.ref a) >>= _) _ _ s
   apply wpAny_bind
   apply wpAny_tupleItemsOf o1 o3
   apply wpAny_bind
   rw[<- Array.forIn_toList]
   refine zGV ih (A:=A.in1) (by rw[Around.in1_units];omega) r fun b' e=>?_
   change wpAny _ _ (retInt (Builtin.Tuple.tupleHashOf b'.toList)) _ _ _
   rw[e]
   apply wpAny_bind
   apply wpAny_mkInt
   apply wpAny_pure
   refine⟨_,_,rfl,?_⟩
   have h':=h
   simp only[haD,drD] at h'
   simpa [Nat.add_assoc] using h'
theorem IsV.quiet:∀ {n k:Nat}{A:Around}{s:Shared}{d:M.D}{v:Value}{Q:Bool->Shared->Prop},n <= k->IsV s.heap n d v->Q true s->wpAny (model pg w) A (eqIsQuiet k v) Q Er s:=by
 have leaf:∀ {n k:Nat}{A:Around}{s:Shared}{d:M.D}{v:Value}{Q:Bool->Shared->Prop},(∀ ds,d≠.tup ds)->IsV s.heap n d v->Q true s->wpAny (model pg w) A (eqIsQuiet k v) Q Er s:=by
  intro n k A s d v Q nt p q
  have:eqIsQuiet k v=pure true:=by
   cases p with
   | non=>exact eqIsQuiet_byValue k rfl
   | int=>exact eqIsQuiet_byValue k rfl
   | str=>exact eqIsQuiet_byValue k rfl
   | tup _ _=>exact absurd rfl (nt _)
  rw[this]
  exact wpAny_pure q
 intro n
 induction n with
 | zero=>intro k A s d v Q hk p q;exact leaf (fun ds e=>by subst e;cases p) p q
 | succ n ih =>
  intro k A s d v Q hk p q
  cases p with
  | non=>exact leaf (n:=n) (fun _ e=>by cases e) .non q
  | int=>exact leaf (n:=n) (fun _ e=>by cases e) .int q
  | str=>exact leaf (n:=n) (fun _ e=>by cases e) .str q
  | @tup _ ds a us t r =>
   obtain⟨k,rfl⟩:∃ j,k=j+1:=⟨k - 1,by omega⟩
   obtain⟨o,o1,o2,nn,o3⟩:=t
   have ty:s.TypeIs (.ref a) "tuple" := ⟨o,o1,o2⟩
   unfold eqIsQuiet
   apply wpAny_bind
   apply wpAny_specialOf ty F.slot_tuple_eq.lookup
   change wpAny _ _ (isInstance (.ref a) (.type "tuple") >>= _) _ _ s
   apply wpAny_bind
   apply wpAny_isInstance ty isSubtype_tuple_tuple
   simp only[Bool.not_true,Bool.false_eq_true,if_false]
   apply wpAny_bind
   apply wpAny_seqItems o1 o3
   apply wpAny_bind
   change wpAny _ _ (forIn us.toArray _ _) _ _ s
   rw[<- Array.forIn_toList]
   refine wpAny_forIn_list _ (fun l b s1=>b.1=none/\s1=s/\∃ es,j7 s.heap n es l) _ ?_ ?_ _ _ ⟨rfl,rfl,ds,r⟩
   ·intro y l b s1 ⟨e1,e2,es,r'⟩
    cases e2
    cases r' with
    | cons r1 r2 =>
     apply wpAny_bind
     apply ih (by omega) r1
     simp only[Bool.not_true,Bool.false_eq_true,if_false]
     apply wpAny_pure
     exact⟨rfl,rfl,_,r2⟩
   ·intro b s1 ⟨e1,e2,_⟩
    cases e2
    obtain⟨b1,b2⟩:=b
    cases (show b1=none from e1)
    exact wpAny_pure q
end
noncomputable def kyK (pg:Program) (w:World):HeapKind pg w M.D where
 is:=fun h d a=>(∃ ds,d=.tup ds)/\IsV h 7 d (.ref a)
 hash:=haD w 7
 draws:=drD 7
 room:=fun A=>A.units+7 < cLine
 inj:=fun p q=>IsV.inj p.2 q.2
 keeps:=fun {h h' k a d o es ep} p ho hd hs=>⟨p.1,p.2.keep fun b us ⟨ob,e,c,n,dd⟩=>⟨ob,(hs.2 b (fun z=>by subst z;rw[ho] at e;cases e;rw[hd] at dd;cases dd)).trans e,c,n,dd⟩⟩
 pyHash:=fun hu p q=>IsV.hash 7 hu p.2 q
 eqBool:=fun hu p q h=>IsV.eq hu p.2 q.2 _ _ _ _ h
 quiet:=fun p q=>IsV.quiet (by omega) p.2 q
section
variable {pg:Program}{w:World}{κ:Type} [DecidableEq κ] {kn:HeapKind pg w κ}{A:Around}{Er:Value->Shared->Prop}{s:Shared}{d a:Addr}{k:κ}{xs:List (κ×Addr×Value)}
theorem Jg:∀ {xs:List (κ×Addr×Value)}{j:Nat}{p:Addr×Value},(xs.map (·.1)).Nodup->xs[j]? = some (k,p)->xs.eraseIdx j=xs.filter fun x=>decide (x.1≠k)
 | [],_,_,_,h=>by simp at h
 | x::xs,0,p,nd,h=>by
  simp only[List.getElem?_cons_zero,Option.some.injEq] at h
  subst h
  rw[List.map_cons,List.nodup_cons] at nd
  rw[List.eraseIdx_cons_zero,List.filter_cons_of_neg (by simp)]
  refine (List.filter_eq_self.mpr fun y hy=>?_).symm
  refine decide_eq_true fun e=>nd.1 ?_
  exact List.mem_map.mpr ⟨y,hy,e⟩
 | x::xs,j+1,p,nd,h=>by
  rw[List.map_cons,List.nodup_cons] at nd
  have h':xs[j]? = some (k,p):=by simpa using h
  rw[List.eraseIdx_cons_succ,Jg nd.2 h',List.filter_cons_of_pos]
  refine decide_eq_true fun e=>nd.1 ?_
  rw[e]
  exact List.mem_map.mpr ⟨(k,p),List.mem_of_getElem? h',rfl⟩
theorem zCB {α β:Type} (f:α->β):∀ (xs:List α) (j:Nat),(xs.map f).eraseIdx j=(xs.eraseIdx j).map f
 | [],_=>rfl
 | _::_,0=>rfl
 | x::xs,j+1=>by rw[List.map_cons,List.eraseIdx_cons_succ,List.eraseIdx_cons_succ,List.map_cons,zCB f xs j]
theorem zDp {Q:Option DictEntry->Shared->Prop} (hu:kn.room A) (hk:kn.is s.heap k a) (hm:s.heap.DictOfH kn d xs) (hz:xs.length <= sizeLine)
  (h0:atKey xs k=none->Q none { s with toks:=s.toks+kn.draws k })
  (h1:∀ p e h',atKey xs k=some p->e.val=p.2->h'.DictOfH kn d (xs.filter fun x=>decide (x.1≠k))->Heap.SameBut d s.heap h'->Q (some e) { s with heap:=h',toks:=s.toks+kn.draws k }) :
  wpAny (model pg w) A (Builtin.Dict.takeOut d (.ref a)) Q Er s:=by
 obtain⟨o,es,ep,ho,hc,hd,he,hi,hn⟩:=hm
 unfold Builtin.Dict.takeOut
 apply wpAny_holding
 apply wpAny_bind
 apply kn.pyHash hu hk
 apply wpAny_bind
 refine wpAny_dictFind_heap (s:={ s with toks:=s.toks+kn.draws k }) hu hk ho hd he hi hn (fun no=>wpAny_pure (h0 (atKey_none_of_get no))) fun j p hj=>?_
 apply wpAny_bind
 refine wpAny_dictEntries (s:={ s with toks:=s.toks+kn.draws k }) ho hd ?_
 rw[entry_at he j,hj]
 apply wpAny_bind
 have ez:=size_of_entries he
 have hj':j < xs.length:=(List.getElem?_eq_some_iff.mp hj).1
 refine wpAny_updateDictKeys (hz:=by omega) (s:={ s with toks:=s.toks+kn.draws k }) ho hd (wpAny_pure (h1 p _ _ (atKey_of_get hn hj) rfl ?_ (Heap.SameBut.update ..)))
 ·refine⟨_,_,ep+1,Heap.get?_update_self _ ho (Obj.isFreed_of_dict (Obj.data_mapDictKeys hd _)),hc.mapDictKeys _,Obj.data_mapDictKeys hd _,?_,fun x hx=>?_,?_⟩
  ·rw[<- Jg hn hj]
   obtain⟨l⟩:=es
   have hl:l=xs.map (entryOfKey kn):=he
   subst hl
   show (Array.eraseIdxIfInBounds ⟨xs.map (entryOfKey kn)⟩ j).toList=_
   unfold Array.eraseIdxIfInBounds
   rw[dif_pos (by simpa using hj')]
   rw[<- zCB]
   simp
  ·exact kn.keeps (hi x ((List.mem_filter.mp hx).1)) ho hd (Heap.SameBut.update ..)
  ·exact hn.sublist (List.Sublist.map _ List.filter_sublist)
theorem zDa {es:Array DictEntry} (hp:atKey xs k≠none) (he:es.toList=xs.map (entryOfKey kn)):es.isEmpty=false:=by
 have:=size_of_entries he
 cases xs with
 | nil=>exact absurd rfl hp
 | cons _ _ =>
  obtain⟨l⟩:=es
  cases l with
  | nil=>simp at this
  | cons _ _=>rfl
theorem zFp {more:List Value} (hr:more=[]\/∃ x,more=[x]):MeetsIn pg w (Builtin.«dict.pop» ⟨.ref d::.ref a::more,[]⟩) (fun A R s=>kn.room A.in1/\∃ xs k p,kn.is s.heap k a/\s.heap.DictOfH kn d xs/\xs.length <= sizeLine/\atKey xs k=some p /\
  ∀ h',h'.DictOfH kn d (xs.filter fun x=>decide (x.1≠k))->Heap.SameBut d s.heap h'->R (.ok (.ret p.2)) { s with heap:=h',toks:=s.toks+kn.draws k }) :=
 .of_wp fun A R s ⟨hu,xs,k,p,hk,hm,hz,hp,q⟩=>by
  obtain⟨o,es,ep,ho,hc,hd,he,hi,hn⟩:=id hm
  have ne:=zDa (k:=k) (fun z=>by rw[z] at hp;cases hp) he
  unfold Builtin.«dict.pop»
  apply wpAny_bind
  unfold Builtin.Dict.keyAndDefault
  apply wpAny_bind
  apply wpAny_notOrdered_dict hm.typeIs
  have fin:∀ (df:Option Value) (e:DictEntry) (h':Heap),e.val=p.2->h'.DictOfH kn d (xs.filter fun x=>decide (x.1≠k))->Heap.SameBut d s.heap h' ->
    wpAny (model pg w) A.in1 (letGo [e.key] [e.val] >>= fun _=>ret e.val) (fun f s'=>∃ v,f=.done (.ret v)/\R (.ok (.ret v)) s') (fun e s'=>R (.error e) s') { s with heap:=h',toks:=s.toks+kn.draws k }:=by
   intro df e h' e2 e3 e4
   apply wpAny_bind
   apply wpAny_letGo
   apply wpAny_pure
   exact⟨_,rfl,by rw[e2];exact q h' e3 e4⟩
  have kp:¬ (keyPart (Value.ref a)).isSome=true:=by simp[keyPart]
  rcases hr with rfl | ⟨x,rfl⟩
  ·change wpAny _ _ (pure (d,Value.ref a,none)) _ _ s
   apply wpAny_pure
   dsimp only
   rw[if_neg kp]
   repeat first
    | (with_reducible refine wpAny_dictEntries ho hd ?_)
    | (with_reducible refine wpAny_pure ?_)
    | (with_reducible refine wpAny_bind ?_)
   rw[if_neg (by rw[ne];exact Bool.false_ne_true)]
   apply wpAny_bind
   refine zDp hu hk hm hz (fun z=>by rw[z] at hp;cases hp) fun p' e h' e1 e2 e3 e4=>?_
   cases hp.symm.trans e1
   exact fin none e h' e2 e3 e4
  ·change wpAny _ _ (pure (d,Value.ref a,some x)) _ _ s
   apply wpAny_pure
   dsimp only
   rw[if_neg kp]
   repeat first
    | (with_reducible refine wpAny_dictEntries ho hd ?_)
    | (with_reducible refine wpAny_pure ?_)
    | (with_reducible refine wpAny_bind ?_)
   rw[if_neg (by rw[ne];exact Bool.false_ne_true)]
   apply wpAny_bind
   refine zDp hu hk hm hz (fun z=>by rw[z] at hp;cases hp) fun p' e h' e1 e2 e3 e4=>?_
   cases hp.symm.trans e1
   exact fin none e h' e2 e3 e4
theorem zFJ {x:Value} (hs:(d == sysModules)=false):MeetsIn pg w (Builtin.«dict.pop» ⟨[.ref d,.ref a,x],[]⟩) (fun A R s=>kn.room A.in1/\∃ xs k,kn.is s.heap k a/\s.heap.DictOfH kn d xs/\xs.length <= sizeLine/\atKey xs k=none /\
  ∀ t,s.toks <= t->R (.ok (.ret x)) { s with toks:=t }) :=
 .of_wp fun A R s ⟨hu,xs,k,hk,hm,hz,hp,q⟩=>by
  obtain⟨o,es,ep,ho,hc,hd,he,hi,hn⟩:=id hm
  unfold Builtin.«dict.pop»
  apply wpAny_bind
  unfold Builtin.Dict.keyAndDefault
  apply wpAny_bind
  apply wpAny_notOrdered_dict hm.typeIs
  have kp:¬ (keyPart (Value.ref a)).isSome=true:=by simp[keyPart]
  change wpAny _ _ (pure (d,Value.ref a,some x)) _ _ s
  apply wpAny_pure
  dsimp only
  rw[if_neg kp]
  have fin:∀ t,s.toks <= t->wpAny (model pg w) A.in1 (Builtin.Dict.missedRemoval d (.ref a) >>= fun _=>rule "dict.pop.default" >>= fun _=>ret x) (fun f s'=>∃ v,f=.done (.ret v)/\R (.ok (.ret v)) s') (fun e s'=>R (.error e) s') { s with toks:=t }:=by
   intro t ht
   apply wpAny_bind
   apply wpAny_missedRemoval_other hs
   apply wpAny_bind
   apply wpAny_rule
   apply wpAny_pure
   exact⟨_,rfl,q t ht⟩
  cases hE:es.isEmpty with
  | true =>
   repeat first
    | (with_reducible refine wpAny_dictEntries ho hd ?_)
    | (with_reducible refine wpAny_pure ?_)
    | (with_reducible refine wpAny_bind ?_)
   rw[if_pos hE]
   apply wpAny_bind
   apply wpAny_rule
   apply wpAny_bind
   apply wpAny_pure
   exact fin s.toks (Nat.le_refl _)
  | false =>
   repeat first
    | (with_reducible refine wpAny_dictEntries ho hd ?_)
    | (with_reducible refine wpAny_pure ?_)
    | (with_reducible refine wpAny_bind ?_)
   rw[if_neg (by rw[hE];exact Bool.false_ne_true)]
   apply wpAny_bind
   refine zDp hu hk hm hz (fun _=>?_) fun p' e h' e1 e2 e3 e4=>?_
   ·exact fin _ (Nat.le_add_right _ _)
   ·cases hp.symm.trans e1
end
section
variable {X:Cx}{pins:List (Addr×Obj)}{σ:St}{H:Hp}{s:Shared}
theorem zBI (I:Inv X pins σ H s) {ρ:List Addr}:∀ {n:Nat}{d:M.D}{x:V}{u:Value},M.kyD n d=true->zG X.K ρ H d x->zZ x u->IsV s.heap n d u:=by
 intro n
 induction n with
 | zero =>
  intro d x u k r rv
  cases d with
  | non=>cases r;cases rv;exact .non
  | int i=>cases r;obtain⟨t,rfl⟩:=rv;exact .int
  | str z=>obtain⟨rfl,_⟩:=r;obtain⟨t,rfl⟩:=rv;exact .str
  | _=>cases k
 | succ n ih =>
  intro d x u k r rv
  cases d with
  | non=>cases r;cases rv;exact .non
  | int i=>cases r;obtain⟨t,rfl⟩:=rv;exact .int
  | str z=>obtain⟨rfl,_⟩:=r;obtain⟨t,rfl⟩:=rv;exact .str
  | tup ds =>
   obtain⟨a,xs,rfl,q,r⟩:=r
   cases rv
   obtain⟨its,vs,pl,_⟩:=I.tuple q
   have go:∀ (ds:List M.D) (xs:List V) (its:List Value),ds.all (M.kyD n)=true->zG.all X.K ρ H ds xs->zY xs its->j7 s.heap n ds its:=by
    intro ds
    induction ds with
    | nil=>intro xs its _ r vs;cases r;cases vs;exact .nil
    | cons d ds ih2 =>
     intro xs its k r vs
     obtain⟨y,ys,rfl,r1,r2⟩:=r
     rw[List.all_cons,Bool.and_eq_true] at k
     cases vs with
     | cons v1 v2=>exact .cons (ih k.1 r1 v1) (ih2 _ _ k.2 r2 v2)
   exact .tup (us:=its) pl (go ds xs its k r vs)
  | _=>cases k
noncomputable def QB (K:PySem.W.Frag) (H:Hp) (d:M.D) (x:V):Prop:=M.kyT d=true/\∃ ρ,zG K ρ H d x
theorem QB.is {d:M.D}{x:V}{u:Value} (k:QB X.K H d x) (I:Inv X pins σ H s) (r:zZ x u):∃ b,u=.ref b/\(kyK X.prog X.w).is s.heap d b:=by
 obtain⟨k,ρ,rd⟩:=k
 cases d with
 | tup ds =>
  have v:=zBI I (n:=7) k rd r
  obtain⟨a,xs,rfl,_⟩:=rd
  cases r
  exact⟨a,rfl,⟨ds,rfl⟩,v⟩
 | _=>cases k
end
section
variable {pg:Program}{w:World}{A:Around}{Er:Value->Shared->Prop}{s:Shared}{d it:Addr}{es:Array DictEntry}{i ep:Nat}
noncomputable def DAt (h:Heap) (d:Addr) (es:Array DictEntry) (ep:Nat):Prop:=∃ o,h.get? d=some o/\o.ExactDict/\o.data=.dict es ep
theorem DAt.ty (x:DAt s.heap d es ep):s.TypeIs (.ref d) "dict" := let ⟨o,e,c,_⟩:=x;⟨o,e,c.1⟩
theorem zEe {Q:Value->Shared->Prop} (ns:(d == sysModules)=false) (x:DAt s.heap d es ep)
  (q:Q (.ref s.heap.objs.size) { s with heap:=s.heap.push { cls:=.type "dict_keyiterator",data:=.fields #[.ref d,.int 0 0,.int es.size 0,.int ep 0] } }):wpAny (model pg w) A (pyIter (.ref d)) Q Er s:=by
 obtain⟨o,e1,e2,e3⟩:=id x
 refine wpAny_pyIter_slot x.ty F.slot_dict_iter (wpAny_call_entry F.slot_dict_iter x.ty F.entry_dict_iter ?_ (F.args_dict_iter_1 _))
 unfold Builtin.«dict.__iter__» Builtin.Dict.dictSlotNone
 apply wpAny_bind
 apply wpAny_bind
 apply wpAny_notOrdered_dict x.ty
 change wpAny _ _ (pure (Value.ref d)) _ _ s
 apply wpAny_pure
 change wpAny _ _ (Builtin.Dict.showsAll d >>= _) _ _ s
 unfold Builtin.Dict.showsAll
 rw[ns,if_neg Bool.false_ne_true]
 apply wpAny_bind
 apply wpAny_pure
 apply wpAny_bind
 apply wpAny_dictEntries e1 e3
 apply wpAny_bind
 apply wpAny_dictEpoch e1 e3
 apply wpAny_bind
 refine wpAny_newObj_type ?_ (by size_fits)
 apply wpAny_pure
 refine⟨_,rfl,"dict_keyiterator",_,⟨_,Heap.get?_push_size _ rfl,rfl⟩,F.slot_dict_keyiterator_next.lookup,?_⟩
 simpa [rawInt] using q
theorem zHK {Q:PySem.Fin->Shared->Prop} (hi:s.heap.IsKeyIter it d i es.size ep) (x:DAt s.heap d es ep) (hx:i < es.size)
  (q:∀ h',h'.IsKeyIter it d (i+1) es.size ep->Heap.SameBut it s.heap h'->Q (.done (.ret es[i].key)) { s with heap:=h' }) :
  wpAny (model pg w) A (Builtin.«dict_keyiterator.__next__» ⟨[.ref it],[]⟩) Q Er s:=by
 have ty:=hi.typeIs
 obtain⟨o,e1,e2,e3⟩:=id hi
 obtain⟨od,f1,f2,f3⟩:=id x
 apply wpAny_bind
 apply wpAny_pure
 apply wpAny_bind
 apply wpAny_bind
 first
  | refine wpAny_bind (wpAny_typeNameOfWhole_keyiter ty ?_)
  | refine wpAny_bind (wpAny_typeNameOf_keyiter ty ?_)
 apply wpAny_pure
 apply wpAny_bind
 apply wpAny_fieldsOf e1 e3
 have ow:Builtin.Dict_items.ownsTuple "dict_keyiterator" = false:=by decide
 simp only[ow,Bool.false_eq_true,if_false]
 change wpAny _ _ (if (Value.ref d == Value.none)=true then _ else _) _ _ s
 rw[if_neg (show ¬ (Value.ref d == Value.none)=true from Bool.false_ne_true)]
 apply wpAny_bind
 apply wpAny_pure
 apply wpAny_bind
 apply wpAny_dictEntries f1 f3
 rw[if_neg (by simp)]
 apply wpAny_bind
 apply wpAny_pure
 apply wpAny_bind
 apply wpAny_dictEpoch f1 f3
 rw[if_neg (by simp)]
 apply wpAny_pure
 have ni:¬ (i:Int) < 0:=by omega
 simp only[ni,if_false,Int.toNat_natCast,Array.getElem?_eq_getElem hx]
 apply wpAny_bind
 first
  | refine wpAny_bind (wpAny_typeNameOfWhole_keyiter ty ?_)
  | refine wpAny_bind (wpAny_typeNameOf_keyiter ty ?_)
 apply wpAny_pure
 apply wpAny_bind
 apply wpAny_isOneOf_keyiter ty
 change wpAny _ _ (setField (.ref it) 1 (rawInt ((i:Int)+1)) >>= _) _ _ s
 apply wpAny_bind
 refine wpAny_setField e1 e3 (by simp) ?_
 generalize hg:s.heap.update it (Obj.mapFields (·.setIfInBounds 1 (rawInt ((i:Int)+1))))=g
 have gi:g.IsKeyIter it d (i+1) es.size ep:=by
  rw[<- hg]
  refine⟨_,Heap.get?_update_self _ e1 (Obj.isFreed_of_fields (Obj.data_mapFields e3 _)),(Obj.cls_mapFields ..).trans e2,?_⟩
  rw[Obj.data_mapFields e3]
  simp[rawInt]
 have gs:Heap.SameBut it s.heap g:=by rw[<- hg];exact Heap.SameBut.update ..
 apply wpAny_bind
 apply wpAny_holding
 apply wpAny_bind
 apply wpAny_isOneOf_keyiter (s:={ s with heap:=g }) gi.typeIs
 change wpAny _ _ (pure es[i].key) _ _ _
 apply wpAny_pure
 apply wpAny_pure
 exact q g gi gs
theorem zI3 {Q:PySem.Fin->Shared->Prop} (hh:A.handled=none) (hi:s.heap.IsKeyIter it d i es.size ep) (x:DAt s.heap d es ep) (hx:es.size <= i)
  (q:∀ h' e,Heap.ExtBut it s.heap h'->Shared.TypeIs { s with heap:=h' } e "StopIteration" -> Er e { s with heap:=h' }) :
  wpAny (model pg w) A (Builtin.«dict_keyiterator.__next__» ⟨[.ref it],[]⟩) Q Er s:=by
 have ty:=hi.typeIs
 obtain⟨o,e1,e2,e3⟩:=id hi
 obtain⟨od,f1,f2,f3⟩:=id x
 apply wpAny_bind
 apply wpAny_pure
 apply wpAny_bind
 apply wpAny_bind
 first
  | refine wpAny_bind (wpAny_typeNameOfWhole_keyiter ty ?_)
  | refine wpAny_bind (wpAny_typeNameOf_keyiter ty ?_)
 apply wpAny_pure
 apply wpAny_bind
 apply wpAny_fieldsOf e1 e3
 have ow:Builtin.Dict_items.ownsTuple "dict_keyiterator" = false:=by decide
 simp only[ow,Bool.false_eq_true,if_false]
 change wpAny _ _ (if (Value.ref d == Value.none)=true then _ else _) _ _ s
 rw[if_neg (show ¬ (Value.ref d == Value.none)=true from Bool.false_ne_true)]
 apply wpAny_bind
 apply wpAny_pure
 apply wpAny_bind
 apply wpAny_dictEntries f1 f3
 rw[if_neg (by simp)]
 apply wpAny_bind
 apply wpAny_pure
 apply wpAny_bind
 apply wpAny_dictEpoch f1 f3
 rw[if_neg (by simp)]
 apply wpAny_pure
 have ni:¬ (i:Int) < 0:=by omega
 simp only[ni,if_false,Int.toNat_natCast,Array.getElem?_eq_none hx]
 apply wpAny_bind
 first
  | refine wpAny_bind (wpAny_typeNameOfWhole_keyiter ty ?_)
  | refine wpAny_bind (wpAny_typeNameOf_keyiter ty ?_)
 apply wpAny_pure
 change wpAny _ _ (setField (.ref it) 0 .none >>= _) _ _ s
 apply wpAny_bind
 refine wpAny_setField e1 e3 (by simp) ?_
 change wpAny _ _ (newExc (.type "StopIteration") [] >>= _) _ _ _
 apply wpAny_bind
 simp only[newExc,newTuple]
 apply wpAny_bind
 refine wpAny_newObj_type ?_ (by size_fits)
 refine wpAny_bind (m:=firstArgMember _ _) (wpAny_of_eq (a:=Value.none) ?_ ?_)
 ·first
   | rfl
   | (simp only[firstArgMember];rfl)
 refine wpAny_newObj_type ?_ (by size_fits)
 simp only[raiseNew]
 apply wpAny_bind
 apply wpAny_handled
 rw[hh]
 refine wpAny_throw ?_
 exact q _ _ (((Heap.SameBut.update ..).extBut.push _).push _) ⟨_,Heap.get?_push_size _ rfl,rfl⟩
theorem zIY {Q:Option Value->Shared->Prop} (st:s.heap.IsKeyIter it d i es.size ep) (x:DAt s.heap d es ep) (hx:i < es.size)
  (q:∀ h',h'.IsKeyIter it d (i+1) es.size ep->Heap.SameBut it s.heap h'->Q (some es[i].key) { s with heap:=h' }):wpAny (model pg w) A (pyNext (.ref it)) Q Er s:=by
 unfold pyNext
 apply wpAny_bind
 apply wpAny_attempt
 refine wpAny_callSpecial?_slot (name:=Str.ofString "__next__") st.typeIs F.slot_dict_keyiterator_next (wpAny_call_entry F.slot_dict_keyiterator_next st.typeIs F.entry_dict_keyiterator_next ?_ (F.args_dict_keyiterator_next_1 _))
 exact zHK st x hx fun h' k1 k2=>⟨_,rfl,wpAny_pure (q h' k1 k2)⟩
theorem zIT {Q:Option Value->Shared->Prop} (hh:A.handled=none) (st:s.heap.IsKeyIter it d i es.size ep) (x:DAt s.heap d es ep) (hx:es.size <= i)
  (q:∀ h',Heap.ExtBut it s.heap h'->Q none { s with heap:=h' }):wpAny (model pg w) A (pyNext (.ref it)) Q Er s:=by
 unfold pyNext
 apply wpAny_bind
 apply wpAny_attempt
 refine wpAny_callSpecial?_slot (name:=Str.ofString "__next__") st.typeIs F.slot_dict_keyiterator_next (wpAny_call_entry F.slot_dict_keyiterator_next st.typeIs F.entry_dict_keyiterator_next ?_ (F.args_dict_keyiterator_next_1 _))
 refine zI3 hh st x hx fun h' e k1 k2=>?_
 apply wpAny_bind
 apply wpAny_isInstance (T := "StopIteration") (b:=true) k2 isSubtype_stop
 apply wpAny_pure
 exact q h' k1
theorem zLy (hh:A.handled=none) (ne:d≠it):Walks pg w A it [it,d] [it] es.size (fun i v=>∃ e,es[i]? = some e/\v=e.key) (fun i h=>h.IsKeyIter it d i es.size ep/\DAt h d es ep) where
 sub:=fun b hb=>List.mem_cons.mpr (.inl (List.mem_singleton.mp hb))
 frame:=fun _ _ _ st hk=>⟨st.1.at fun o e=>hk it (List.mem_cons_self) o e,let ⟨o,e,r⟩:=st.2;⟨o,hk d (List.mem_cons_of_mem _ (List.mem_singleton.mpr rfl)) o e,r⟩⟩
 item:=fun i s Q E hi st hQ=>zIY st.1 st.2 hi fun h' k1 k2=>hQ _ h' s.toks ⟨es[i],by simp[hi],rfl⟩ ⟨k1,let ⟨o,e,r⟩:=st.2;⟨o,k2.extBut d o ne e,r⟩⟩ fun b o hb e=>k2.extBut b o (fun z=>hb (by rw[z];exact List.mem_singleton.mpr rfl)) e
 done:=fun s Q E st hQ=>zIT hh st.1 st.2 (Nat.le_refl _) fun h' k1=>hQ h' s.toks fun b o hb e=>k1 b o (fun z=>hb (by rw[z];exact List.mem_singleton.mpr rfl)) e
 self:=fun _ _ _ _ st hQ=>wpAny_pyIter_keyiter st.1 hQ
theorem zNC (ns:(d == sysModules)=false):PySem.W.KdlSrc pg w "dict" d d es.size (fun i v=>∃ e,es[i]? = some e/\v=e.key) (fun h=>DAt h d es ep) where
 type:=fun _ x=>x.ty
 there:=fun _ ⟨_,e,_⟩=>⟨Heap.lt_size e,Heap.lt_size e⟩
 keep:=fun _ _ ⟨o,e,r⟩ hk=>⟨o,hk d (.inl rfl) o e,r⟩
 notList:=by decide
 notTuple:=by decide
 hint:=fun _ _ _ _ x q=>PySem.W.kdl_hint_dict x.ty q
 iter:=fun _ _ hh x=>⟨_,_,fun _ _ q=>zEe ns x q,zLy hh (let ⟨_,e,_⟩:=x;Nat.ne_of_lt (Heap.lt_size e)),⟨_,Heap.get?_push_size _ rfl,rfl,rfl⟩,let ⟨o,e,r⟩:=x;⟨o,Heap.get?_push_of_some _ e,r⟩⟩
end
section
variable {pg:Program}{w:World}{A:Around}{Er:Value->Shared->Prop}{s:Shared}{d:Addr}{es:Array DictEntry}{ep:Nat}
theorem zGd (ns:(d == sysModules)=false):MeetsIn pg w (Builtin.«dict.__len__» ⟨[.ref d],[]⟩) (fun _ R s=>∃ es ep,DAt s.heap d es ep/\R (.ok (.ret (.int es.size s.toks))) { s with toks:=s.toks+1 }) :=
 .of_wp fun A R s ⟨es,ep,x,q⟩=>by
  obtain⟨o,e1,e2,e3⟩:=id x
  change wpAny _ _ (dictSize d >>= _) _ _ s
  unfold dictSize
  apply wpAny_bind
  apply wpAny_bind
  apply wpAny_dictEntries e1 e3
  apply wpAny_pure
  change wpAny _ _ (Builtin.Dict.pendingCount d >>= _) _ _ s
  apply wpAny_bind
  apply wpAny_pendingCount_other ns
  apply wpAny_ret_mkInt
  rw[Nat.add_zero]
  exact q
theorem zL1 {Q:Value->Shared->Prop} (ns:(d == sysModules)=false) (x:DAt s.heap d es ep) (z:es.size <= sizeLine) (h:∀ t k,0 < k->Q (.int es.size t) { s with toks:=k }):wpAny (model pg w) A (call (.builtin "len") [.ref d]) Q Er s:=by
 have z':(es.size:Int) < 2 ^ 63:=by rw[sizeLine_eq] at z;omega
 refine Calls.call_function_entry kind_len plain_len entry_len (args_len1 _) ?_
 unfold Builtin.«len»
 refine wpAny_bind (m:=oneArg "len" _) (wpAny_pure ?_)
 refine wpAny_bind (m:=callSpecial? (.ref d) (Str.ofString "__len__")) (wpAny_callSpecial?_slot (name:=Str.ofString "__len__") x.ty F.slot_dict_len ?_)
 refine call_meetsIn F.slot_dict_len x.ty F.entry_dict_len (F.args_dict_len_1 _) (zGd ns) ⟨es,ep,x,?_⟩
 change wpAny _ _ _ _ _ { s with toks:=s.toks+1 }
 apply wpAny_bind
 apply wpAny_holding
 apply wpAny_pure
 apply wpAny_bind
 apply wpAny_letGo
 change wpAny _ _ (if ((es.size:Nat):Int) < 0 then _ else _) _ _ _
 rw[if_neg (by omega)]
 change wpAny _ _ (if ((es.size:Nat):Int) ≥ 2 ^ 63 then _ else _) _ _ _
 rw[if_neg (by omega)]
 apply wpAny_bind
 apply wpAny_mkInt
 apply wpAny_pure
 exact⟨_,rfl,h _ _ (Nat.succ_pos _)⟩
end
section
variable {X:Cx}{pins:List (Addr×Obj)}{σ:St}{H:Hp}{s:Shared}{Θ:Tab}{K:PySem.W.Frag}{ρ:List Addr}{S:M.S}
structure TDt (K:PySem.W.Frag) (H:Hp) (ha:M.D->Int) (a:Addr) (xs:List (M.D×Addr×Value)):Prop where
 at':H a=some (.ext (TD ha a xs))
 ks:∀ q∈xs,QB K H q.1 (.ref q.2.1)
structure TDx (K:PySem.W.Frag) (H:Hp) (ha:M.D->Int) (a:Addr) (xs:List (M.D×Addr×Value)):Prop where
 at':H a=some (.ext (TD ha a xs))\/∃ o,H a=some (.frz o (.ext (TD ha a xs)))
 ks:∀ q∈xs,QB K H q.1 (.ref q.2.1)
theorem TDx.dict {ha:M.D->Int}{a:Addr}{xs:List (M.D×Addr×Value)} (t:TDx X.K H ha a xs) (hw:ha=haD X.w 7) (I:Inv X pins σ H s):xs.length <= sizeLine/\(a == sysModules)=false/\s.heap.DictOfH (kyK X.prog X.w) a xs:=by
 have td:TD ha a xs s.heap:=by
  rcases t.at' with e | ⟨o,e⟩
  ·exact (I.hok a _ e).1
  ·exact (show jK X.prog X.w H s.heap a (.frz o (.ext (TD ha a xs))) from I.hok a _ e).2.1
 obtain⟨z,y,nd,o,es,ep,h1,h2,h3,h4⟩:=td
 refine⟨z,y,o,es,ep,h1,h2,h3,by rw[h4,hw];rfl,fun q hq=>?_,nd⟩
 obtain⟨b,e,i⟩:=(t.ks q hq).is I rfl
 cases e
 exact i
theorem TDt.dict {ha:M.D->Int}{a:Addr}{xs:List (M.D×Addr×Value)} (t:TDt X.K H ha a xs) (hw:ha=haD X.w 7) (I:Inv X pins σ H s):xs.length <= sizeLine/\(a == sysModules)=false/\s.heap.DictOfH (kyK X.prog X.w) a xs:=TDx.dict ⟨.inl t.at',t.ks⟩ hw I
theorem TDt.obj {ha:M.D->Int}{a:Addr}{xs:List (M.D×Addr×Value)} (t:TDt X.K H ha a xs) (I:Inv X pins σ H s):(a == sysModules)=false/\xs.length <= sizeLine/\∃ es ep,DAt s.heap a es ep/\es.toList.map (·.key)=xs.map (fun x=>Value.ref x.2.1):=by
 obtain⟨z,y,nd,o,es,ep,h1,h2,h3,h4⟩:=(I.hok a _ t.at').1
 refine⟨y,z,es,ep,⟨o,h1,h2,h3⟩,?_⟩
 rw[h4,List.map_map]
 rfl
theorem zFU {P:Program}{w:World}{H':Hp}{h':Heap}{ha:M.D->Int}{a:Addr}{xs:List (M.D×Addr×Value)} (hw:ha=haD w 7) (z:xs.length <= sizeLine) (y:(a == sysModules)=false) (dd:h'.DictOfH (kyK P w) a xs):jK P w H' h' a (.ext (TD ha a xs)):=by
 obtain⟨o,es,ep,h1,h2,h3,h4,_,nd⟩:=dd
 refine⟨⟨z,y,nd,o,es,ep,h1,h2,h3,by rw[h4,hw];rfl⟩,⟨o,h1⟩,fun g1 g2 ⟨z,y,nd,o,es,ep,h1,h2⟩ k=>⟨z,y,nd,o,es,ep,k o h1,h2⟩⟩
theorem QT {k:Nat} (hr:z4 k X.A):(kyK X.prog X.w).room X.A.in1:=by
 have:=hr.units
 show X.A.in1.units+7 < cLine
 rw[Around.in1_units]
 omega
theorem TDr.ky {p:M.D×M.D}{q:M.D×Addr×Value} (h:TDr K ρ H p q):QB K H q.1 (.ref q.2.1):=by
 obtain⟨e,k,r,_⟩:=h
 rw[e]
 refine⟨?_,ρ,r⟩
 revert k r
 cases p.1 with
 | tup ds=>exact fun k _=>k
 | non=>intro _ r;cases r
 | int i=>intro _ r;cases r
 | str z=>intro _ r;cases r.1
 | _=>intro k;cases k
theorem zFM {kvs:List (M.D×M.D)}{xs:List (M.D×Addr×Value)} (r:Paired (TDr K ρ H) kvs xs):∀ q∈xs,QB K H q.1 (.ref q.2.1):=fun q hq=>by
 induction r with
 | nil=>cases hq
 | cons r1 r2 ih =>
  rcases List.mem_cons.mp hq with rfl | hq
  ·exact r1.ky
  ·exact ih hq
theorem TDt.of {a:Addr}{kvs:List (M.D×M.D)}{xs:List (M.D×Addr×Value)}{ha:M.D->Int} (e:H a=some (.ext (TD ha a xs))) (r:Paired (TDr K ρ H) kvs xs):TDt K H ha a xs:=⟨e,zFM r⟩
theorem zLw {x:M.D}{v:V}{kvs:List (M.D×M.D)} (rp:zT K Θ ρ S H) (rx:zG K ρ H x v) (hd:M.zKt x S=some kvs):∃ a xs,v=.ref a/\TDx K H Θ.ha a xs/\Paired (TDr K ρ H) kvs xs:=by
 cases x with
 | ref i =>
  obtain⟨a,rfl,ea⟩:=rx
  have hd':(match S[i]? with | some (.dtt kvs)=>some kvs | some (.ftt kvs)=>some kvs | _=>none)=some kvs:=hd
  split at hd'
  ·rename_i kvs' q
   cases hd'
   obtain⟨b,e1,xs,e2,r⟩:=rp.obj _ _ q
   rw[ea] at e1
   cases e1
   exact⟨a,xs,rfl,⟨.inl e2,zFM r⟩,r⟩
  ·rename_i kvs' q
   cases hd'
   obtain⟨b,e1,o,xs,e2,r⟩:=rp.obj _ _ q
   rw[ea] at e1
   cases e1
   exact⟨a,xs,rfl,⟨.inr ⟨o,e2⟩,zFM r⟩,r⟩
  ·cases hd'
 | _=>cases hd
theorem zAA {x:M.D}{v:V}{p:Nat}{kvs:List (M.D×M.D)} (rp:zT K Θ ρ S H) (rx:zG K ρ H x v) (hd:M.Jk x S=some (p,kvs)):∃ a xs,x=.ref p/\v=.ref a/\ρ[p]? = some a/\S[p]? = some (.dtt kvs)/\TDt K H Θ.ha a xs/\Paired (TDr K ρ H) kvs xs:=by
 cases x with
 | ref i =>
  obtain⟨a,rfl,ea⟩:=rx
  have hd':(match S[i]? with | some (.dtt kvs)=>some (i,kvs) | _=>none)=some (p,kvs):=hd
  split at hd'
  ·rename_i kvs' q
   cases hd'
   obtain⟨b,e1,xs,e2,r⟩:=rp.obj _ _ q
   rw[ea] at e1
   cases e1
   exact⟨a,xs,rfl,rfl,ea,q,TDt.of e2 r,r⟩
  ·cases hd'
 | _=>cases hd
theorem zA9 {kvs:List (M.D×M.D)}{xs:List (M.D×Addr×Value)} (r:Paired (TDr K ρ H) kvs xs) (y:M.D):match M.zy y kvs with
  | some d=>∃ p v,atKey xs y=some p/\zG K ρ H d v/\zZ v p.2
  | none=>atKey xs y=none:=by
 induction r with
 | nil=>rfl
 | @cons p q kvs xs r1 r2 ih =>
  obtain⟨e,k,_,v,r3,r4⟩:=r1
  unfold M.zy at ih ⊢
  obtain⟨p1,p2⟩:=p
  rw[List.lookup_cons]
  by_cases h:y=p1
  ·subst h
   rw[show (y == y)=true by simp]
   refine⟨q.2,v,?_,r3,r4⟩
   unfold atKey
   rw[List.find?_cons_of_pos (by simpa using e)]
   rfl
  ·rw[show (y == p1)=false by simpa using h]
   have:atKey (q::xs) y=atKey xs y:=by
    unfold atKey
    rw[List.find?_cons_of_neg (by
     have e':q.1=p1:=e
     rw[e']
     simpa using fun z=>h z.symm)]
   rw[this]
   exact ih
theorem J5 {d:M.D}{v:V} (k:M.kyT d=true) (r:zG K ρ H d v):QB K H d v:=⟨k,ρ,r⟩
noncomputable def zJ5 (K:PySem.W.Frag) (ha:M.D->Int):R2:=fun x y H Q=>(∃ a xs d p v,x=.ref a/\TDx K H ha a xs/\QB K H d y/\atKey xs d=some p/\zZ v p.2/\Q v H)\/zIA K x y H Q
theorem qB {k:Nat} (hw:Θ.ha=haD X.w 7) (hr:z4 k X.A):IxR X (zJ5 X.K Θ.ha):=by
 refine IxR.or ?_ (zM1 hr)
 intro value slice pins s σ H x y v u Q I rx ry h hs
 obtain⟨a,xs,d,p,w',rfl,t,kk,hp,rv,q⟩:=h
 cases rx
 obtain⟨z,ns,dd⟩:=t.dict hw I
 obtain⟨b,rfl,ki⟩:=kk.is I ry
 exact tail_any dd.typeIs PySem.F.slot_dict_getitem.lookup (wpAny_getItem_heap (QT hr) ki dd hp ⟨w',H,I.tok _ (Nat.lt_of_lt_of_le I.tk (Nat.le_add_right _ _)),rv,q⟩) hs
theorem ja:Ad2 K Θ M.zV (zJ5 K Θ.ha):=by
 intro ρ H S x y X Y Q rp rx ry h
 unfold M.zV at h
 split at h
 ·rename_i kvs hd
  obtain⟨a,xs,rfl,t,r⟩:=zLw rp rx hd
  split at h
  ·rename_i hk
   have g:=zA9 r y
   cases q2:M.zy y kvs with
   | none=>rw[q2] at h;exact h.elim
   | some d =>
    rw[q2] at h g
    obtain⟨p,v,e1,e2,e3⟩:=g
    exact .inl ⟨a,xs,y,p,v,rfl,t,J5 hk ry,e1,e3,zE.here h rp e2⟩
  ·exact h.elim
 ·exact .inr (zMU ρ H S x y X Y Q rp rx ry h)
noncomputable def zIV (K:PySem.W.Frag) (ha:M.D->Int):List V->Hp->VK->Prop:=fun vs H Q=>(∃ a xs,vs=[V.ref a]/\TDt K H ha a xs/\Q (.int xs.length) H)\/zEz K vs H Q
theorem Zi:jh X (.builtin "len") (zIV X.K Θ.ha):=by
 refine jh.or ?_ zGe
 intro pins s σ H xs us Q I r h
 obtain⟨a,xs,rfl,t,q⟩:=h
 obtain⟨u,rfl,ru⟩:=yd r
 cases ru
 obtain⟨ns,z,es,ep,x,e⟩:=t.obj I
 have e':es.size=xs.length:=by have:=congrArg List.length e;simpa using this
 refine zL1 ns x (by omega) fun t k hk=>⟨.int xs.length,H,I.tok _ hk,⟨t,by rw[e']⟩,q⟩
theorem zBL {kvs:List (M.D×M.D)}{xs:List (M.D×Addr×Value)} (r:Paired (TDr K ρ H) kvs xs):kvs.length=xs.length:=Paired.length r
theorem Qq:AdN K Θ M.ya (zIV K Θ.ha):=by
 intro ρ H S xs Xs Q rp rxs h
 unfold M.ya at h
 split at h
 ·rename_i x
  obtain⟨Y,r,rfl,ry,rfl⟩:=id rxs
  split at h
  ·rename_i p kvs hd
   obtain⟨a,xs,rfl,rfl,ea,q,t,r⟩:=zAA rp ry hd
   refine .inl ⟨a,xs,rfl,t,?_⟩
   rw[<- zBL r]
   exact zE.here h rp rfl
  ·exact .inr (zFt ρ H S _ _ Q rp rxs h)
 ·exact .inr (zFt ρ H S _ _ Q rp rxs h)
noncomputable def zBa (K:PySem.W.Frag) (ha:M.D->Int) (neg:Bool):R2:=fun x y H Q=>(∃ a xs d,y=.ref a/\TDt K H ha a xs/\QB K H d x/\Q (.bl (xor neg (atKey xs d).isSome)) H) \/
 (∃ a vs ds d ρ,y=.ref a/\SqL K H a vs/\zH K ρ H ds vs/\zG K ρ H d x/\M.kyD 7 d=true/\ds.all (M.kyD 7)=true/\Q (.bl (xor neg (ds.contains d))) H)\/zEx K neg x y H Q
theorem zGz {A:Around}{ds:List M.D}{us:List Value}{d:M.D}{u:Value} (hu:A.units+7 < cLine) (r:j7 s.heap 7 ds us) (p:IsV s.heap 7 d u):∃ e:Value->Bool,(∀ y∈us,EqAt A s y u (e y))/\us.any e=ds.contains d:=by
 classical
 refine⟨fun y=>decide (IsV s.heap 7 d y),fun y hy=>?_,?_⟩
 ·have:∃ c,IsV s.heap 7 c y:=by
   clear p
   induction us generalizing ds with
   | nil=>cases hy
   | cons v us ih =>
    cases r with
    | cons r1 r2 =>
     rcases List.mem_cons.mp hy with rfl | hy
     ·exact⟨_,r1⟩
     ·exact ih r2 hy
  obtain⟨c,hc⟩:=this
  have z:=IsV.eq hu hc p
  have:decide (c=d)=decide (IsV s.heap 7 d y):=by
   by_cases h:c=d
   ·subst h;simp[hc]
   ·rw[qU h,decide_eq_false fun k=>h (IsV.inj hc k)]
  show EqAt A s y u (decide (IsV s.heap 7 d y))
  rw[<- this]
  exact z
 ·induction us generalizing ds with
  | nil=>cases r;rfl
  | cons v us ih =>
   cases r with
   | @cons _ c ds' _ _ r1 r2 =>
    rw[List.any_cons,ih r2,List.contains_cons]
    congr 1
    by_cases h:d=c
    ·subst h;simp[r1]
    ·rw[decide_eq_false fun k=>h (IsV.inj k r1)]
     exact (beq_false_of_ne h).symm
theorem zGv (I:Inv X pins σ H s) {ρ:List Addr}:∀ {ds:List M.D}{xs:List V}{us:List Value},ds.all (M.kyD 7)=true->zH X.K ρ H ds xs->zY xs us->j7 s.heap 7 ds us:=by
 intro ds
 induction ds with
 | nil=>intro xs us _ r vs;cases r;cases vs;exact .nil
 | cons d ds ih =>
  intro xs us k r vs
  obtain⟨y,ys,rfl,r1,r2⟩:=r
  rw[List.all_cons,Bool.and_eq_true] at k
  cases vs with
  | cons v1 v2=>exact .cons (zBI I k.1 r1 v1) (ih k.2 r2 v2)
theorem zLA {k:Nat} (hw:Θ.ha=haD X.w 7) (hr:z4 k X.A):OpR X (compareOp .In) (zBa X.K Θ.ha false):=by
 intro pins s σ H x y v u Q I rx ry h
 rcases h with ⟨a,xs,d,rfl,t,kk,q⟩ | ⟨a,vs,ds,d,ρ,rfl,hq,rs,rd,k1,k2,q⟩ | h
 ·cases ry
  obtain⟨z,ns,dd⟩:=t.dict hw I
  obtain⟨b,rfl,ki⟩:=kk.is I rx
  refine wpAny_in_heap (QT hr) ki ns dd ⟨.bl (atKey xs d).isSome,H,I.tok _ (Nat.lt_of_lt_of_le I.tk (Nat.le_add_right _ _)),rfl,?_⟩
  rw[Bool.false_xor] at q
  exact q
 ·cases ry
  obtain⟨its,rv,pl,z⟩:=I.list hq
  obtain⟨e,h1,h2⟩:=zGz (A:=X.A.in1) (by have:=QT hr;exact this) (zGv I k2 rs rv) (zBI I k1 rd rx)
  refine in_listAt e pl.isList (fun y hy=>h1 y (by simpa using hy)) ?_
  refine⟨.bl (ds.contains d),H,I,?_,?_⟩
  ·show Value.bool _=_
   rw[<- h2]
   simp
  ·rw[Bool.false_xor] at q
   exact q
 ·exact zKE hr pins s σ H x y v u Q I rx ry h
theorem zCG {k:Nat} (hw:Θ.ha=haD X.w 7) (hr:z4 k X.A):OpR X (compareOp .NotIn) (zBa X.K Θ.ha true):=by
 intro pins s σ H x y v u Q I rx ry h
 rcases h with ⟨a,xs,d,rfl,t,kk,q⟩ | ⟨a,vs,ds,d,ρ,rfl,hq,rs,rd,k1,k2,q⟩ | h
 ·cases ry
  obtain⟨z,ns,dd⟩:=t.dict hw I
  obtain⟨b,rfl,ki⟩:=kk.is I rx
  refine wpAny_notIn_heap (QT hr) ki ns dd ⟨.bl (!(atKey xs d).isSome),H,I.tok _ (Nat.lt_of_lt_of_le I.tk (Nat.le_add_right _ _)),rfl,?_⟩
  rw[Bool.true_xor] at q
  exact q
 ·cases ry
  obtain⟨its,rv,pl,z⟩:=I.list hq
  obtain⟨e,h1,h2⟩:=zGz (A:=X.A.in1) (by have:=QT hr;exact this) (zGv I k2 rs rv) (zBI I k1 rd rx)
  refine notIn_listAt e pl.isList (fun y hy=>h1 y (by simpa using hy)) ?_
  refine⟨.bl (!ds.contains d),H,I,?_,?_⟩
  ·show Value.bool _=_
   rw[<- h2]
   simp
  ·rw[Bool.true_xor] at q
   exact q
 ·exact zFl hr pins s σ H x y v u Q I rx ry h
theorem zDd {neg:Bool}{x y:M.D}{X1 Y:V}{Q:VK} (rp:zT K Θ ρ S H) (rx:zG K ρ H x X1) (ry:zG K ρ H y Y) (h:zE K Θ rB ρ H (M.inT x y S) (fun b H'=>Q (.bl (xor neg b)) H')):zBa K Θ.ha neg X1 Y H Q:=by
 have old:zE K Θ rB ρ H (M.inD x y S) (fun b H'=>Q (.bl (xor neg b)) H')->zBa K Θ.ha neg X1 Y H Q:=fun h=>.inr (.inr (zIj rp rx ry h))
 unfold M.inT at h
 split at h
 ·rename_i p kvs hd
  obtain⟨a,xs,rfl,rfl,ea,q,t,r⟩:=zAA rp ry hd
  split at h
  ·rename_i hk
   refine .inl ⟨a,xs,x,rfl,t,J5 hk rx,?_⟩
   have g:=zA9 r x
   have:(atKey xs x).isSome=(M.zy x kvs).isSome:=by
    cases q2:M.zy x kvs with
    | none=>rw[q2] at g;rw[g];rfl
    | some d=>rw[q2] at g;obtain⟨_,_,g,_⟩:=g;rw[g];rfl
   rw[this]
   exact zE.here (b:=(M.zy x kvs).isSome) h rp rfl
  ·exact h.elim
 ·split at h
  ·rename_i i _
   split at h
   ·rename_i ys hy
    unfold M.inL at h
    split at h
    ·rename_i hk
     rw[Bool.and_eq_true] at hk
     obtain⟨a,rfl,ea⟩:=id ry
     have q:S[i]? = some (M.O.lst ys):=by
      unfold M.jV at hy
      split at hy
      ·rename_i z;cases hy;exact z
      ·cases hy
     obtain⟨zs,e1,r⟩:=yU rp ea q
     exact .inr (.inl ⟨a,zs,ys,x,ρ,rfl,SqL.of e1,r,rx,hk.1,hk.2,zE.here (b:=ys.contains x) h rp rfl⟩)
    ·exact old h
   ·exact old h
  ·exact old h
theorem zKT:AdC K Θ M.zHG (zBa K Θ.ha false):=by
 intro ρ H S x y X1 Y Q rp rx ry h
 refine zDd rp rx ry ?_
 have h':zE K Θ rB ρ H (M.inT x y S) (fun b H'=>Q (.bl b) H'):=h
 revert h'
 cases M.inT x y S with
 | ok b s=>exact fun h' ρ1 H1 b' p l rp1 e=>by cases e;rw[Bool.false_xor];exact h' ρ1 H1 b p l rp1 rfl
 | exc e s=>exact fun h'=>h'
 | no=>exact fun h'=>h'
theorem zCE:AdC K Θ M.Z0 (zBa K Θ.ha true):=by
 intro ρ H S x y X1 Y Q rp rx ry h
 exact zDd rp rx ry (zE.bind h fun ρ1 H1 b b' S1 p1 l1 rp1 e h1=>by cases e;rw[Bool.true_xor];exact zE.here (b:=!b) h1 rp1 rfl)
noncomputable def zGG (K:PySem.W.Frag) (ha:M.D->Int):List V->Hp->VK->Prop:=fun vs H Q=>(∃ a xs,vs=[V.ref a]/\TDt K H ha a xs/\∀ l,H l=none->Q (.ref l) (upd H l (.lst (xs.map fun x=>V.ref x.2.1))))\/zD2 K vs H Q
theorem zFS {k:Nat} (hr:z4 k X.A):jh X (.type "list") (zGG X.K Θ.ha):=by
 refine jh.or ?_ (zFN hr)
 intro pins s σ H vs us Q I r h
 obtain⟨a,xs,rfl,t,q⟩:=h
 obtain⟨u,rfl,ru⟩:=yd r
 cases ru
 obtain⟨ns,z,es,ep,x,e⟩:=t.obj I
 have e':es.size=xs.length:=by have:=congrArg List.length e;simpa using this
 refine wpAny_with_toks (n:=1) I.tk (PySem.W.kdl_call (zNC ns) hr.hd x (by omega) fun h' tk acc c' keep hS it htk=>?_)
 obtain⟨hsz,hit⟩:=it
 refine⟨.ref s.heap.objs.size,_,I.laid (t':=tk) (o:=.lst (xs.map fun x=>V.ref x.2.1)) keep (Nat.le_refl _) ⟨by rw[List.length_map];exact z,acc.toList,c',zAc (by simp;omega) fun j u hu=>?_,by simpa using hS⟩ htk,rfl,q _ (I.hok.fresh (Nat.le_refl _))⟩
 obtain⟨en,h1,rfl⟩:=hit j u (by simpa using hu)
 have h2:(es.toList.map (·.key))[j]? = some en.key:=by
  rw[List.getElem?_map,Array.getElem?_toList,h1];rfl
 rw[e,List.getElem?_map] at h2
 rw[List.getElem?_map]
 cases q2:xs[j]? with
 | none=>rw[q2] at h2;cases h2
 | some y=>rw[q2] at h2;exact⟨_,rfl,(Option.some.inj h2).symm⟩
theorem zGQ {kvs:List (M.D×M.D)}{xs:List (M.D×Addr×Value)} (r:Paired (TDr K ρ H) kvs xs):zH K ρ H (kvs.map (·.1)) (xs.map fun x=>V.ref x.2.1):=by
 induction r with
 | nil=>rfl
 | cons r1 r2 ih=>exact⟨_,_,rfl,r1.2.2.1,ih⟩
theorem zHu:AdN K Θ M.zAu (zGG K Θ.ha):=by
 intro ρ H S xs Xs Q rp rxs h
 unfold M.zAu at h
 split at h
 ·rename_i x
  obtain⟨Y,r,rfl,ry,rfl⟩:=id rxs
  split at h
  ·rename_i p kvs hd
   obtain⟨a,xs,rfl,rfl,ea,q,t,r⟩:=zAA rp ry hd
   exact .inl ⟨a,xs,rfl,t,fun l hl=>zE.alloc h rp (zGQ r) hl⟩
  ·exact .inr (zEa ρ H S _ _ Q rp rxs h)
 ·exact .inr (zEa ρ H S _ _ Q rp rxs h)
end
section
variable {X:Cx}{pins:List (Addr×Obj)}{σ:St}{H:Hp}{s:Shared}{Θ:Tab}{K:PySem.W.Frag}{ρ:List Addr}{S:M.S}
theorem yI {a:Addr}{φ:Heap->Prop} (h:H a=some (.ext φ)):Mut (H a):=by rw[h];trivial
theorem zEY {kvs:List (M.D×M.D)}{xs:List (M.D×Addr×Value)} (r:Paired (TDr K ρ H) kvs xs) (k:M.D):Paired (TDr K ρ H) (M.zx k kvs) (xs.filter fun x=>decide (x.1≠k)):=by
 unfold M.zx
 induction r with
 | nil=>exact .nil
 | @cons p q kvs xs r1 r2 ih =>
  have e:q.1=p.1:=r1.1
  by_cases h:p.1=k
  ·rw[List.filter_cons_of_neg (by simpa using h),List.filter_cons_of_neg (by rw[e];simpa using h)]
   exact ih
  ·rw[List.filter_cons_of_pos (by simpa using h),List.filter_cons_of_pos (by rw[e];simpa using h)]
   exact .cons r1 ih
theorem zKd {kvs:List (M.D×M.D)}{xs:List (M.D×Addr×Value)} (r:Paired (TDr K ρ H) kvs xs) (k:M.D):(kvs.any fun p=>decide (p.1=k))=(atKey xs k).isSome:=by
 induction r with
 | nil=>rfl
 | @cons p q kvs xs r1 r2 ih =>
  have e:q.1=p.1:=r1.1
  rw[List.any_cons,ih]
  unfold atKey
  by_cases h:p.1=k
  ·rw[List.find?_cons_of_pos (by rw[e];simpa using h)]
   simp[h]
  ·rw[List.find?_cons_of_neg (by rw[e];simpa using h)]
   simp[h]
theorem zKQ {kvs:List (M.D×M.D)}{xs:List (M.D×Addr×Value)} (r:Paired (TDr K ρ H) kvs xs) {k d:M.D}{b:Addr}{u:Value}{v:V} (hk:M.kyD 7 k=true) (rk:zG K ρ H k (.ref b)) (rd:zG K ρ H d v) (rv:zZ v u):Paired (TDr K ρ H) (M.qa k d kvs) (storedH xs k b u):=by
 unfold M.qa storedH
 rw[zKd r k]
 split
 ·induction r with
  | nil=>exact .nil
  | @cons p q kvs xs r1 r2 ih =>
   rw[List.map_cons,List.map_cons]
   refine .cons ?_ ?_
   ·obtain⟨e,a2,a3,w,a4,a5⟩:=r1
    unfold putAt
    by_cases h:p.1=k
    ·rw[if_pos h,if_pos (e.trans h)]
     exact⟨e,a2,a3,v,rd,rv⟩
    ·rw[if_neg h,if_neg (fun z=>h (e.symm.trans z))]
     exact⟨e,a2,a3,w,a4,a5⟩
   ·by_cases h:(atKey xs k).isSome=true
    ·exact ih h
    ·have nk:∀ q∈xs,q.1≠k:=fun q hq z=>h (by
      unfold atKey
      rw[Option.isSome_map,List.find?_isSome]
      exact⟨q,hq,by simpa using z⟩)
     have:∀ {kvs:List (M.D×M.D)}{xs:List (M.D×Addr×Value)},Paired (TDr K ρ H) kvs xs->(∀ q∈xs,q.1≠k)->Paired (TDr K ρ H) (kvs.map fun p=>if p.1=k then (p.1,d) else p) (xs.map (putAt k u)):=by
      intro kvs xs r
      induction r with
      | nil=>exact fun _=>.nil
      | @cons p q kvs xs r1 r2 ih =>
       intro nk
       have z:=nk q List.mem_cons_self
       have e:q.1=p.1:=r1.1
       rw[List.map_cons,List.map_cons]
       unfold putAt
       rw[if_neg (fun y=>z (e.trans y)),if_neg z]
       exact .cons r1 (ih fun q hq=>nk q (List.mem_cons_of_mem _ hq))
     exact this r2 nk
 ·have:∀ {kvs:List (M.D×M.D)}{xs:List (M.D×Addr×Value)},Paired (TDr K ρ H) kvs xs->Paired (TDr K ρ H) (kvs++[(k,d)]) (xs++[(k,b,u)]):=by
   intro kvs xs r
   induction r with
   | nil=>exact .cons ⟨rfl,hk,rk,v,rd,rv⟩ .nil
   | cons r1 r2 ih=>exact .cons r1 ih
  exact this r
theorem zFa {xs:List (M.D×Addr×Value)}{k:M.D}{b:Addr}{u:Value}:(storedH xs k b u).length <= xs.length+1:=by
 unfold storedH
 split<;>simp
noncomputable def zMC (K:PySem.W.Frag) (ha:M.D->Int) (td ty tv:TE):TS:=fun D σ H=>tv σ H fun v H1=>td σ H1 fun x H2=>ty σ H2 fun y H3=>∃ a xs d,x=.ref a/\TDt K H3 ha a xs/\QB K H3 d y/\xs.length < sizeLine /\
 ∀ b u,y=.ref b->zZ v u->D.nx σ (upd H3 a (.ext (TD ha a (storedH xs d b u))))
theorem zIs {k:Nat}{o i value:Expr}{pos pos':Pos}{td ty tv:TE} (hw:Θ.ha=haD X.w 7) (hr:z4 k X.A) (ho:PE X o td) (hi:PE X i ty) (hv:PE X value tv) (hs:swapsWith value (some (.Subscript o i pos')) pos.line X.env=pure false) :
  PS X (.Assign [.Subscript o i pos'] value pos) (zMC X.K Θ.ha td ty tv):=by
 intro pins s σ H D I h
 refine wpAny_Assign_Subscript (thn (hv pins s σ H _ I h) fun r s1 ⟨v,H1,I1,rv,q1⟩=>thn (ho pins s1 σ H1 _ I1 q1) fun u s2 ⟨x,H2,I2,rx,q2⟩=>thn (hi pins s2 σ H2 _ I2 q2) fun iv s3 ⟨y,H3,I3,ry,a,xs,d,ex,t,kk,z,q3⟩=>?_) hs
 subst ex
 obtain rfl:u=Value.ref a:=rx
 obtain⟨z1,ns,dd⟩:=t.dict hw I3
 obtain⟨b,rfl,ki⟩:=kk.is I3 ry
 refine wpAny_setItem_heap (hsz:=z1) (QT hr) ki dd fun h' dd' sb=>?_
 have yb:y=.ref b:=by
  obtain⟨k1,ρ,rd⟩:=kk
  cases d with
  | tup ds=>obtain⟨c,_,rfl,_⟩:=rd;cases ry;rfl
  | _=>cases k1
 have he:∃ q,h'.get? a=some q:=let ⟨q,_,_,hq,_⟩:=dd';⟨q,hq⟩
 exact⟨σ,_,J9 (t':=s3.toks+(kyK X.prog X.w).draws d) I3 (yI t.at') sb he (zFU hw (by have:=zFa (xs:=xs) (k:=d) (b:=b) (u:=r);omega) ns dd') (Nat.lt_of_lt_of_le I3.tk (Nat.le_add_right _ _)),q3 b r yb rv⟩
theorem zJF {o i e:Expr}{mo mi me:M.EM}{pos pos':Pos}{n:Nat} (hw:Θ.ha=haD X.w 7) (hr:z4 n X.A) (ho:ME X Θ o mo) (hi:ME X Θ i mi) (he:ME X Θ e me)
  (ha:∀ v,assign (.Subscript o i pos') X.env v=(do
   let ov <- holding [v] (eval o X.env)
   let iv <- holding [v,ov] (eval i X.env)
   standAt pos'
   holding [v,ov,iv] (setItem ov iv v)
   release [v,ov,iv] []):=by intro _;rfl)
  (hs:swapsWithSole [.Subscript o i pos'] e pos.line X.env=pure false:=by rfl) (hw':swappedStores [.Subscript o i pos'] e X.env=pure none:=by rfl) (h1:(assignEach [.Subscript o i pos'] X.env).map (·.2)=[assign (.Subscript o i pos') X.env]:=by rfl)
  (hs2:swapsWith e (some (.Subscript o i pos')) pos.line X.env=pure false:=by rfl):MS X Θ (.Assign [.Subscript o i pos'] e pos) (M.Zt mo mi me) :=
 (PS.or (zIs (Θ:=Θ) hw hr ho hi he hs2) (zKI hr ho hi he ha hs hw' h1 hs2)).imp fun D σ H ⟨ρ,σ',S,st,rp,h⟩=>by
  have h0:zm X.K Θ ρ H ((me σ' S).stm σ' fun y s=>(mo σ' s).stm σ' fun x s=>(mi σ' s).stm σ' fun k s=>(M.Qo x k y s).stm σ' fun _ s=>.nx σ' s) D:=h
  clear h
  cases hE:me σ' S with
  | no=>rw[hE] at h0;exact h0.elim
  | exc a s=>rw[hE] at h0;exact h0.elim
  | ok y S1 =>
   rw[hE,M.R.stm_ok] at h0
   cases hO:mo σ' S1 with
   | no=>rw[hO] at h0;exact h0.elim
   | exc a s=>rw[hO] at h0;exact h0.elim
   | ok x S2 =>
    rw[hO,M.R.stm_ok] at h0
    cases hI:mi σ' S2 with
    | no=>rw[hI] at h0;exact h0.elim
    | exc a s=>rw[hI] at h0;exact h0.elim
    | ok k S3 =>
     rw[hI,M.R.stm_ok] at h0
     cases hd:M.Jk x S3 with
     | none =>
      refine .inr ⟨ρ,σ',S,st,rp,?_⟩
      have e0:M.Qo x k y S3=M.yA x k y S3:=by unfold M.Qo;rw[hd]
      rw[e0] at h0
      show zm X.K Θ ρ H ((me σ' S).stm σ' fun y s=>(mo σ' s).stm σ' fun x s=>(mi σ' s).stm σ' fun k s=>(M.yA x k y s).stm σ' fun _ s=>.nx σ' s) D
      rw[hE,M.R.stm_ok,hO,M.R.stm_ok,hI,M.R.stm_ok]
      exact h0
     | some pk =>
      obtain⟨p,kvs⟩:=pk
      have e0:M.Qo x k y S3=(if (M.kyT k && decide (kvs.length < M.SZ))=true then M.R.ok () (S3.set p (.dtt (M.qa k y kvs))) else .no):=by unfold M.Qo;rw[hd]
      rw[e0] at h0
      cases hk:(M.kyT k && decide (kvs.length < M.SZ)) with
      | false=>rw[hk] at h0;exact h0.elim
      | true =>
       rw[hk,if_pos rfl,M.R.stm_ok] at h0
       rw[Bool.and_eq_true] at hk
       refine .inl ⟨ρ,σ',S,st,rp,?_⟩
       rw[hE]
       intro ρ1 H1 Y p1 l1 rp1 ry
       refine⟨ρ1,σ',S1,st.mono p1 l1,rp1,?_⟩
       rw[hO]
       intro ρ2 H2 Xv p2 l2 rp2 rx
       refine⟨ρ2,σ',S2,st.mono (p1.trans p2) (l1.trans l2),rp2,?_⟩
       rw[hI]
       intro ρ3 H3 Kv p3 l3 rp3 rk
       obtain⟨a,xs,rfl,rfl,ea,q,t,r⟩:=zAA rp3 (rx.mono p3 l3) hd
       have kk:=J5 hk.1 rk
       refine⟨a,xs,k,rfl,t,kk,by rw[<- zBL r,<- yf];exact of_decide_eq_true hk.2,fun b u yb rv=>?_⟩
       subst yb
       have le:=Le.put (yI t.at') (.ext (TD Θ.ha a (storedH xs k b u)))
       have hk7:M.kyD 7 k=true:=by
        have:=hk.1
        revert this
        cases k<;>first | exact fun z=>z | (intro z;cases z)
       have r':=Paired.mapP r fun p q z=>TDr.mono (List.prefix_refl _) le z
       exact h0 ρ3 _ σ (p1.trans (p2.trans p3)) (l1.trans (l2.trans (l3.trans le))) (rp3.put ea (yI t.at') ⟨_,jB,zKQ r' hk7 (rk.mono (List.prefix_refl _) le) (ry.mono (p2.trans p3) (l2.trans (l3.trans le))) rv⟩) (st.mono (p1.trans (p2.trans p3)) (l1.trans (l2.trans (l3.trans le))))
theorem QX {o i e:Expr}{mo mi me:M.EM}{pos pos':Pos}{n:Nat} (hw:Θ.ha=haD X.w 7) (hr:z4 n X.A) (ho:WE X Θ o mo) (hi:WE X Θ i mi) (he:WE X Θ e me)
  (ha:∀ v,assign (.Subscript o i pos') X.env v=(do
   let ov <- holding [v] (eval o X.env)
   let iv <- holding [v,ov] (eval i X.env)
   standAt pos'
   holding [v,ov,iv] (setItem ov iv v)
   release [v,ov,iv] []):=by intro _;rfl)
  (hs:swapsWithSole [.Subscript o i pos'] e pos.line X.env=pure false:=by rfl) (hw':swappedStores [.Subscript o i pos'] e X.env=pure none:=by rfl) (h1:(assignEach [.Subscript o i pos'] X.env).map (·.2)=[assign (.Subscript o i pos') X.env]:=by rfl)
  (hs2:swapsWith e (some (.Subscript o i pos')) pos.line X.env=pure false:=by rfl):WS X Θ (.Assign [.Subscript o i pos'] e pos) (M.Zt mo mi me):=by with_unfolding_all exact zJF (o:=o) (i:=i) (e:=e) (mo:=mo) (mi:=mi) (me:=me) (pos:=pos) (pos':=pos') (n:=n) hw hr ho hi he ha hs hw' h1 hs2
noncomputable def zIU (K:PySem.W.Frag) (ha:M.D->Int):V->List V->Hp->VK->Prop:=fun x vs H Q=>∃ a xs d y more,x=.ref a/\vs=y::more/\TDt K H ha a xs/\QB K H d y /\
 (((more=[]\/∃ m,more=[m])/\∃ p v,atKey xs d=some p/\zZ v p.2/\Q v (upd H a (.ext (TD ha a (xs.filter fun x=>decide (x.1≠d))))))\/∃ m,more=[m]/\atKey xs d=none/\Q m H)
theorem zBj {k:Nat} (hw:Θ.ha=haD X.w 7) (hr:z4 k X.A):MtM X "dict.pop" (zIU X.K Θ.ha):=by
 intro pins s σ H x vs v us Q I rx rv h
 obtain⟨a,xs,d,y,more,rfl,rfl,t,kk,h⟩:=h
 cases rx
 cases rv with
 | @cons _ u _ us' r1 r2 =>
  obtain⟨z,ns,dd⟩:=t.dict hw I
  obtain⟨b,rfl,ki⟩:=kk.is I r1
  rcases h with ⟨hm,p,w',hp,rv,q⟩ | ⟨m,rfl,hp,q⟩
  ·have hm':us'=[]\/∃ x,us'=[x]:=by
    rcases hm with rfl | ⟨m,rfl⟩
    ·cases r2;exact .inl rfl
    ·cases r2 with | cons _ r3=>cases r3;exact .inr ⟨_,rfl⟩
   have ar:argsOk "dict.pop" ⟨.ref a::.ref b::us',[]⟩:=by
    rcases hm' with rfl | ⟨x,rfl⟩
    ·exact PySem.F.args_dict_pop_2 _ _
    ·exact PySem.F.args_dict_pop_3 _ _ _
   refine call_meetsIn PySem.F.slot_dict_pop dd.typeIs PySem.F.entry_dict_pop ar (zFp (kn:=kyK X.prog X.w) hm') ⟨QT hr,xs,d,p,ki,dd,z,hp,fun h' dd' sb=>?_⟩
   have he:∃ q,h'.get? a=some q:=let ⟨q,_,_,hq,_⟩:=dd';⟨q,hq⟩
   exact⟨w',_,J9 (t':=s.toks+(kyK X.prog X.w).draws d) I (yI t.at') sb he (zFU hw (Nat.le_trans (List.length_filter_le _ _) z) ns dd') (Nat.lt_of_lt_of_le I.tk (Nat.le_add_right _ _)),rv,q⟩
  ·cases r2 with
   | cons rm r3 =>
    cases r3
    refine call_meetsIn PySem.F.slot_dict_pop dd.typeIs PySem.F.entry_dict_pop (PySem.F.args_dict_pop_3 _ _ _) (zFJ (kn:=kyK X.prog X.w) ns) ⟨QT hr,xs,d,ki,dd,z,hp,fun tk hk=>?_⟩
    exact⟨m,H,I.tok _ (Nat.lt_of_lt_of_le I.tk hk),rm,q⟩
theorem zBr:AdM K Θ M.QS (zIU K Θ.ha):=by
 intro ρ H S x xs X Xs Q rp rx rxs h
 unfold M.QS at h
 split at h
 ·rename_i y
  obtain⟨Y,r,rfl,ry,rfl⟩:=rxs
  split at h
  ·rename_i p kvs hd
   obtain⟨a,zs,rfl,rfl,ea,q,t,r⟩:=zAA rp rx hd
   split at h
   ·rename_i hk
    have g:=zA9 r y
    cases q2:M.zy y kvs with
    | none=>rw[q2] at h;exact h.elim
    | some d =>
     rw[q2] at h g
     obtain⟨pp,v,e1,e2,e3⟩:=g
     have le:=Le.put (yI t.at') (.ext (TD Θ.ha a (zs.filter fun x=>decide (x.1≠y))))
     refine⟨a,zs,y,Y,[],rfl,rfl,t,J5 hk ry,.inl ⟨.inl rfl,pp,v,e1,e3,?_⟩⟩
     exact h ρ _ v (List.prefix_refl _) le (rp.put ea (yI t.at') ⟨_,jB,Paired.mapP (zEY r y) fun p q z=>TDr.mono (List.prefix_refl _) le z⟩) (e2.mono (List.prefix_refl _) le)
   ·exact h.elim
  ·exact h.elim
 ·rename_i y m
  obtain⟨Y,r,rfl,ry,Z,r',rfl,rz,rfl⟩:=rxs
  split at h
  ·rename_i p kvs hd
   obtain⟨a,zs,rfl,rfl,ea,q,t,r⟩:=zAA rp rx hd
   split at h
   ·rename_i hk
    have g:=zA9 r y
    cases q2:M.zy y kvs with
    | none =>
     rw[q2] at h g
     exact⟨a,zs,y,Y,[Z],rfl,rfl,t,J5 hk ry,.inr ⟨Z,rfl,g,zE.here h rp rz⟩⟩
    | some d =>
     rw[q2] at h g
     obtain⟨pp,v,e1,e2,e3⟩:=g
     have le:=Le.put (yI t.at') (.ext (TD Θ.ha a (zs.filter fun x=>decide (x.1≠y))))
     refine⟨a,zs,y,Y,[Z],rfl,rfl,t,J5 hk ry,.inl ⟨.inr ⟨Z,rfl⟩,pp,v,e1,e3,?_⟩⟩
     exact h ρ _ v (List.prefix_refl _) le (rp.put ea (yI t.at') ⟨_,jB,Paired.mapP (zEY r y) fun p q z=>TDr.mono (List.prefix_refl _) le z⟩) (e2.mono (List.prefix_refl _) le)
   ·exact h.elim
  ·exact h.elim
 ·exact h.elim
theorem zHS {pos:Pos} (hw:Θ.ha=haD X.w 7):PE X (.Dict [] [] pos) (fun _ H Q=>∀ p,H p=none->Q (.ref p) (upd H p (.ext (TD Θ.ha p [])))):=fun pins s σ H Q I h =>
 wpAny_Dict_empty ⟨.ref s.heap.objs.size,_,I.laid (a:=s.heap.objs.size) (o:=.ext (TD Θ.ha s.heap.objs.size [])) (t':=s.toks) (fun _ _ q=>Heap.get?_push_of_some _ q) (Nat.le_refl _) (zFU hw (Nat.zero_le _) (beq_eq_false_iff_ne.mpr (Ne.symm (Nat.ne_of_lt I.big))) (Heap.DictOfH.new s.heap)),rfl,h _ (I.hok.fresh (Nat.le_refl _))⟩
theorem zHh {pos:Pos} (hw:Θ.ha=haD X.w 7):ME X Θ (.Dict [] [] pos) M.Qr:=(zHS hw).imp fun σ H Q ⟨ρ,σ',S,st,rp,h⟩=>fun p hp=>by
 have h':zE X.K Θ (zG X.K) ρ H (M.alloc (.dtt []) S) Q:=h
 exact h' (ρ++[p]) _ _ (List.prefix_append _ _) (Le.new hp _) (rp.alloc hp ⟨[],jB,.nil⟩) ⟨p,rfl,by rw[<- rp.len];simp⟩
theorem JR {pos:Pos} (hw:Θ.ha=haD X.w 7):WE X Θ (.Dict [] [] pos) M.Qr:=by with_unfolding_all exact zHh (pos:=pos) hw
end
theorem zGC {K:PySem.W.Frag}{Θ:Tab}:Ad2 K Θ M.zCs (rI zJ0 fun i j=>.int (i ^ j.toNat)):=by
 intro ρ H S x y X Y Q rp rx ry h
 unfold M.zCs at h
 split at h
 ·rename_i i j
  cases rx
  cases ry
  split at h
  ·rename_i c
   exact⟨i,j,rfl,rfl,⟨c.1,by omega,c.2.2⟩,zE.here (b:=V.int (i ^ j.toNat)) h rp rfl⟩
  ·exact h.elim
 ·exact h.elim
end L2
namespace L2
open PySem PySem.Spec PyProof.Rows
theorem Inv.freezeX {X:Cx}{pins:List (Addr×Obj)}{σ:St}{H:Hp}{s:Shared}{a:Addr}{φ:Heap->Prop} (I:Inv X pins σ H s) (e:H a=some (.ext φ)):∃ o,Inv X pins σ (upd H a (.frz o (.ext φ))) s:=by
 obtain⟨p,⟨o,go⟩,k⟩:=(show jK X.prog X.w H s.heap a (.ext φ) from I.hok a _ e)
 exact⟨o,I.swapD e (fun _ q=>nomatch q) (I.dict_base rfl e) (fun _ q=>nomatch q) (fun _ q=>nomatch q) ⟨go,p,⟨o,go⟩,k⟩⟩
section
variable {ha:M.D->Int}{a:Addr}{o:Obj}{xs:List (M.D×Addr×Value)}
noncomputable def FzT (ha:M.D->Int) (a:Addr) (o:Obj) (xs:List (M.D×Addr×Value)) (es:Array DictEntry) (ep:Nat):Prop:=es.toList=xs.map (fun x=>⟨ha x.1,.ref x.2.1,x.2.2⟩)/\∀ h:Heap,h.get? a=some o->DAt h a es ep
theorem FzT.size {es:Array DictEntry}{ep:Nat} (h:FzT ha a o xs es ep):es.size=xs.length:=by
 have:=congrArg List.length h.1
 simpa using this
theorem FzT.at {es:Array DictEntry}{ep:Nat} (h:FzT ha a o xs es ep) {i:Nat}{p:M.D×Addr×Value} (e:xs[i]? = some p) (hi:i < es.size):es[i]=⟨ha p.1,.ref p.2.1,p.2.2⟩:=by
 have h1:es.toList[i]? = some ⟨ha p.1,.ref p.2.1,p.2.2⟩:=by rw[h.1,List.getElem?_map,e];rfl
 rw[Array.getElem?_toList,Array.getElem?_eq_getElem hi] at h1
 exact Option.some.inj h1
theorem zMA {X:Cx}{pins:List (Addr×Obj)}{σ:St}{H:Hp}{s:Shared} (I:Inv X pins σ H s) (e:H a=some (.frz o (.ext (TD ha a xs)))):(a == sysModules)=false/\s.heap.get? a=some o/\∃ es ep,FzT ha a o xs es ep:=by
 obtain⟨go,⟨_,ns,_,o',es,ep,h1,h2,h3,h4⟩,_⟩:=(show jK X.prog X.w H s.heap a (.frz o (.ext (TD ha a xs))) from I.hok a _ e)
 rw[go] at h1
 cases h1
 exact⟨ns,go,es,ep,h4,fun h q=>⟨o,q,h2,h3⟩⟩
noncomputable def ItT (ha:M.D->Int) (a:Addr) (o:Obj) (xs:List (M.D×Addr×Value)):It :=
 ⟨fun i H=>H a=some (.frz o (.ext (TD ha a xs)))/\∃ p,xs[i]? = some p,fun i H v H'=>H'=H/\∃ p,xs[i]? = some p/\v=.ref p.2.1,fun i H=>H a=some (.frz o (.ext (TD ha a xs)))/\xs.length <= i⟩
theorem zK6 {P:Program}{w:World}{K:PySem.W.Frag}{tg:Expr}{it:Addr}{es:Array DictEntry}{ep:Nat} (fz:FzT ha a o xs es ep):JF P w K tg (ItT ha a o xs) [it] it (fun i h=>h.IsKeyIter it a i es.size ep) where
 mem:=by simp
 obj:=fun i h st b hb=>by
  have z:b=it:=by simpa using hb
  subst z
  obtain⟨o,e,c,d⟩:=st
  exact⟨o,e,fun v z=>by rw[d] at z;cases z⟩
 keep:=fun i h h' st k=>st.at fun o e=>k it (by simp) o e
 item:=by
  intro X hP hw hK hc i pins s σ H E I hf st hg
  subst hP hw hK
  obtain⟨hq,p,hp⟩:=hg
  obtain⟨go,_⟩:=(show jK X.prog X.w H s.heap a (.frz o (.ext (TD ha a xs))) from I.hok a _ hq)
  have hi:i < es.size:=by rw[fz.size];exact (List.getElem?_eq_some_iff.mp hp).1
  obtain⟨f0,f1,f2,f3,f4,f5⟩:=hf it (by simp)
  refine zIY st (fz.2 _ go) hi fun h' st' sb=>?_
  have I1:Inv X pins σ H { s with heap:=h' }:=I.turned (t':=s.toks) (fun b o hb e=>sb.extBut b o hb e) f0 f1 f3 f4 f5
  obtain⟨o',e,c,d⟩:=id st'
  exact⟨_,rfl,zAE (s:={ s with heap:=h' }) e c d (by decide) ⟨.ref p.2.1,H,I1,by rw[fz.at hp hi];rfl,⟨rfl,p,hp,rfl⟩,st',fun b hb=>(hf b hb).1⟩⟩
 done:=by
  intro X hP hw hK hc i pins s σ H E I hf st hg
  subst hP hw hK
  obtain⟨hq,hl⟩:=hg
  obtain⟨go,_⟩:=(show jK X.prog X.w H s.heap a (.frz o (.ext (TD ha a xs))) from I.hok a _ hq)
  obtain⟨f0,f1,f2,f3,f4,f5⟩:=hf it (by simp)
  exact zIT (I.ok.hd hc) st (fz.2 _ go) (by rw[fz.size];exact hl) fun h' eb=>⟨rfl,I.turned (t':=s.toks) (fun b o hb e=>eb b o hb e) f0 f1 f3 f4 f5⟩
 self:=fun _ _ _ _ _ st h=>wpAny_pyIter_keyiter st h
noncomputable def zMr (ha:M.D->Int) (te:TE):TI:=fun σ H R=>te σ H fun v H1=>∃ a o xs,v=.ref a/\H1 a=some (.frz o (.ext (TD ha a xs)))/\R (ItT ha a o xs) H1
theorem zMk {X:Cx}{tg e:Expr}{te:TE} (he:PE X e te):PI X tg e (zMr ha te):=by
 intro pins s σ H R I h
 refine thn (he pins s σ H _ I h) fun v s1 ⟨x,H1,I1,r1,q1⟩=>?_
 obtain⟨a,o,xs,rfl,e1,q⟩:=q1
 obtain rfl:v=Value.ref a:=r1
 obtain⟨ns,go,es,ep,fz⟩:=zMA I1 e1
 refine zEe ns (fz.2 _ go) ⟨s1.heap.objs.size,[s1.heap.objs.size],_,_,H1,rfl,I1.kept (t':=s1.toks) (fun b ob e=>Heap.get?_push_of_some _ e),zK6 fz,⟨_,Heap.get?_push_size _ rfl,rfl,rfl⟩,fun b hb=>?_,q⟩
 have zb:b=s1.heap.objs.size:=by simpa using hb
 subst zb
 exact I1.fpOk (Nat.le_refl _) (I1.hok.fresh (Nat.le_refl _))
theorem zL2 {K:PySem.W.Frag}{Θ:Tab}{ρ:List Addr}{H:Hp}{kvs:List (M.D×M.D)} (hq:H a=some (.frz o (.ext (TD ha a xs)))) (r:Paired (TDr K ρ H) kvs xs):ItR K Θ ρ H (ItT ha a o xs) (kvs.map fun p=>p.1) []:=by
 have el:kvs.length=xs.length:=Paired.length r
 refine⟨fun j ρ' S' H' p l rp g hj=>?_,fun j ρ' S' H' v H2 p l rp g hj y=>?_,fun ρ' S' H' p l rp g=>?_⟩
 ·rw[List.length_map,el] at hj
  exact⟨l.frzs _ _ _ hq,xs[j],by simp[hj]⟩
 ·obtain⟨rfl,q,hk,rfl⟩:=y
  obtain⟨x,hx,_,_,r3,_⟩:=zGp r hk
  exact⟨x.1,by rw[List.getElem?_map,hx];rfl,r3.mono p l,Le.refl _,rp⟩
 ·exact⟨l.frzs _ _ _ hq,by rw[List.length_map,el];exact Nat.le_refl _⟩
end
section
variable {X:Cx}{Θ:Tab}
theorem zHg {tg e:Expr}{m:M.EM} (he:ME X Θ e m):MI X Θ tg e (M.ZM m):=(zMk (ha:=Θ.ha) he).imp fun σ H R ⟨ρ,σ',S,st,rp,h⟩=>⟨ρ,σ',S,st,rp,by
 have h':zE X.K Θ _ ρ H (((m σ' S).bind fun x s=>match x with
  | .ref i=>(match s[i]? with | some (.ftt kvs)=>M.R.ok (kvs.map fun p:M.D×M.D=>p.1,([]:M.Gd)) s | _=>.no)
  | _=>.no).bind fun p s=>if M.zc p.2 s then .ok p s else .no) R:=h
 clear h
 cases hm:m σ' S with
 | no=>rw[hm] at h';exact h'.elim
 | exc a s=>rw[hm] at h';exact h'.elim
 | ok d S1 =>
  rw[hm] at h'
  intro ρ1 H1 v p l rp1 rv
  cases d with
  | ref i =>
   obtain⟨a,rfl,hi⟩:=rv
   have h2:zE X.K Θ _ ρ H ((match S1[i]? with | some (.ftt kvs)=>M.R.ok (kvs.map fun p:M.D×M.D=>p.1,([]:M.Gd)) S1 | _=>.no).bind fun p s=>if M.zc p.2 s then .ok p s else .no) R:=h'
   cases q:S1[i]? with
   | none=>rw[q] at h2;exact h2.elim
   | some ob =>
    rw[q] at h2
    cases ob with
    | ftt kvs =>
     obtain⟨b,hb',o,xs,e,pr⟩:=rp1.obj i _ q
     rw[hi] at hb';cases hb'
     exact⟨a,o,xs,rfl,e,h2 ρ1 H1 _ p l rp1 (zL2 e pr)⟩
    | _=>exact h2.elim
  | _=>exact h'.elim⟩
theorem zFR {tg e:Expr}{m:M.EM} (he:WE X Θ e m):WI X Θ tg e (M.ZM m):=by with_unfolding_all exact zHg (tg:=tg) (e:=e) (m:=m) he
theorem zJg {i:Nat}{stm:Stmt}{mb:M.SM} (hb:MS X Θ stm mb):MS X Θ stm (M.zAx i mb):=by
 intro pins s σ H D I ⟨ρ,σ',S,st,rp,h⟩
 have h':zm X.K Θ ρ H (match σ'[i]? with
  | some (some (.ref p))=>(match S[p]? with
   | some (.dtt kvs)=>M.zCl p (.ftt kvs) (.dtt kvs) (mb σ' (S.set p (.ftt kvs)))
   | _=>.no)
  | _=>.no) D:=h
 clear h
 split at h'
 ·rename_i p e
  split at h'
  ·rename_i kvs q
   obtain⟨v,e1,a,rfl,hi⟩:=st.get i _ e
   obtain⟨b,hb',xs,e2,pr⟩:=rp.obj p _ q
   rw[hi] at hb';cases hb'
   obtain⟨o,I2⟩:=I.freezeX e2
   have le:Le H (upd H a (.frz o (.ext (TD Θ.ha a xs)))):=Le.put (yI e2) _
   exact zJj hb pins s σ _ D I2 ⟨ρ,σ',S.set p (.ftt kvs),st.mono (List.prefix_refl _) le,rp.put (o:=.ftt kvs) hi (yI e2) ⟨o,xs,jB,Paired.mapP pr fun x y z=>z.mono (List.prefix_refl _) le⟩,
    zFO (f:=.ftt kvs) (t:=.dtt kvs) rfl hi e2 (I.dict_base rfl e2) (fun p le e=>⟨xs,e,Paired.mapP pr fun x y z=>z.mono p le⟩) h'⟩
  ·exact h'.elim
 ·exact h'.elim
theorem zGU {i:Nat}{stm:Stmt}{mb:M.SM} (hb:WS X Θ stm mb):WS X Θ stm (M.zAx i mb):=by with_unfolding_all exact zJg (i:=i) (stm:=stm) (mb:=mb) hb
end
end L2
set_option maxHeartbeats 4000000
namespace M
noncomputable section
noncomputable def ZJ:SM :=
  (jX (eOp z9 (eOp zBR (eOp qM (zA 0) (eOp zBR (eC (.int 7919)) (zA 1))) (eC (.int 48271))) (eC (.int 2147483647))))
noncomputable def QF:F:=fn 2 ZJ
noncomputable def Z9 (c k:Int):Int:=(c+7919 * k) * 48271 % 2147483647
noncomputable def jU:F:=chS QF
theorem zCb:jJ 2 QF jU:=Zh _
theorem sm1:qe 48271=true:=by decide
theorem sm2:qe 7919=true:=by decide
theorem JN (c k:Int) (s:M.S):jU [.int c,.int k] s=.ok (.int (Z9 c k)) s:=ZH (g:=[]) (by simp[QF,ZJ,Z9,sm1,sm2]) rfl
noncomputable def zj (r__law_part:F):SM :=
  (jj 2 (eOp z9 (zA 0) (eC (.int 8))))
noncomputable def zf (r__law_part:F):SM :=
  (jj 3 (eOp zE7 (eOp z9 (eOp jO (zA 0) (eC (.int 8))) (eC (.int 2001))) (eC (.int 1000))))
noncomputable def zi (r__law_part:F):SM :=
  (sIf (je cEq (zA 2) (eC (.int 0)))
  (jX (zA 3))
  jo)
noncomputable def zg (r__law_part:F):SM :=
  (sIf (je cEq (zA 2) (eC (.int 1)))
  (jX (zX zE8 (zD (zA 3) zO)))
  jo)
noncomputable def zq (r__law_part:F):SM :=
  (sIf (je cEq (zA 2) (eC (.int 2)))
  (jX (eOp zV (ym (zD (eC .non) (zD (eC (.str [78,111,110,101])) (zD (eC (.str [])) (zD (ZY zO) zO))))) (eOp z9 (eOp jO (zA 0) (eC (.int 8))) (eC (.int 4)))))
  jo)
noncomputable def jC (r__law_part:F):SM :=
  (sIf (zBd (je cEq (zA 2) (eC (.int 3))) (je cLt (zA 1) (eC (.int 3))))
  (jX (ZY (zD (zX r__law_part (zD (eOp jO (zA 0) (eC (.int 8))) (zD (eOp qM (zA 1) (eC (.int 1))) zO))) zO)))
  jo)
noncomputable def jH (r__law_part:F):SM :=
  (sIf (zBd (je cEq (zA 2) (eC (.int 4))) (je cLt (zA 1) (eC (.int 3))))
  (jX (zX zAy (zD (Zb 1 (jf (eOp z9 (eOp jO (zA 0) (eC (.int 8))) (eC (.int 7)))) (zt 6) ZG (zX r__law_part (zD (zX jU (zD (zA 0) (zD (zA 6) zO))) (zD (eOp qM (zA 1) (eC (.int 1))) zO)))) zO)))
  jo)
noncomputable def jL (r__law_part:F):SM :=
  (sIf (je cEq (zA 2) (eC (.int 5)))
  (jX (eOp zV (ym (zD (eC (.int 0)) (zD (eC (.int 1)) (zD (eC (.int 2)) (zD (eOp zCs (eC (.int 10)) (eC (.int 20))) (zD (eOp qM (eOp zCs (eC (.int 10)) (eC (.int 20))) (eC (.int 1))) zO)))))) (eOp z9 (eOp jO (zA 0) (eC (.int 8))) (eC (.int 5)))))
  jo)
noncomputable def jy (r__law_part:F):SM :=
  (sIf (je cEq (zA 2) (eC (.int 6)))
  (zk (jj 4 (eOp z9 (eOp jO (zA 0) (eC (.int 8))) (eC (.int 90))))
  (zk (sIf (je cEq (eOp z9 (eOp jO (zA 0) (eC (.int 720))) (eC (.int 8))) (eC (.int 1)))
  (jj 4 (eOp z9 (eOp jO (zA 0) (eC (.int 5760))) (eC (.int 900))))
  jo)
  (zk (jj 5 (eOp z9 (eOp jO (zA 0) (eC (.int 7))) (eOp qM (zA 4) (eC (.int 1)))))
  (jX (eOp qM (eOp qM (eOp zBR (eC (.str [97])) (zA 5)) (eC (.str [98]))) (eOp zBR (eC (.str [97])) (eOp zE7 (zA 4) (zA 5))))))))
  jo)
noncomputable def yi (r__law_part:F):SM :=
  (jX (zCt (yy []) 1 (jf (eOp z9 (eOp jO (zA 0) (eC (.int 512))) (eC (.int 4)))) (zt 6) ZG (eOp zV (eC (.str [97,98,49,32])) (eOp z9 (eOp jO (zA 0) (eOp zV (ym (zD (eC (.int 8)) (zD (eC (.int 32)) (zD (eC (.int 128)) zO)))) (zA 6))) (eC (.int 4))))))
noncomputable def zw (r__law_part:F):SM:=(zk (zj r__law_part) (zk (zf r__law_part) (zk (zi r__law_part) (zk (zg r__law_part) (zk (zq r__law_part) (zk (jC r__law_part) (zk (jH r__law_part) (zk (jL r__law_part) (zk (jy r__law_part) (yi r__law_part))))))))))
noncomputable def zv (r__law_part:F):F:=fn 6 (zw r__law_part)
noncomputable def zM:Nat->F
 | 0=>fun _ _=>.no
 | n+1=>chS (zv (zM n))
theorem zCY (ds:List D) (s:M.S):zM 0 ds s=.no:=rfl
noncomputable abbrev Zc:F:=zM 3
theorem zD0 (n:Nat):jJ 2 (zv (zM n)) (zM (n+1)):=Zh _
theorem JO {α:Type} (xs:List α) (i:Nat) (d:α) (h:xs[i]? = some d):atI xs (i:Int)=some d:=by
 have:=(List.getElem?_eq_some_iff.mp h).1
 unfold atI ixN
 rw[if_pos (by omega),if_pos (by omega)]
 simpa using h
theorem at0 {α:Type} (a:α) (l:List α):atI (a::l) 0=some a:=JO _ 0 _ rfl
theorem at1 {α:Type} (a b:α) (l:List α):atI (a::b::l) 1=some b:=JO _ 1 _ rfl
theorem at2 {α:Type} (a b c:α) (l:List α):atI (a::b::c::l) 2=some c:=JO _ 2 _ rfl
theorem at3 {α:Type} (a b c d:α) (l:List α):atI (a::b::c::d::l) 3=some d:=JO _ 3 _ rfl
theorem at4 {α:Type} (a b c d e:α) (l:List α):atI (a::b::c::d::e::l) 4=some e:=JO _ 4 _ rfl
theorem sz5:∀ n:Nat,n <= 2000->n <= SZ:=fun n h=>Nat.le_trans h (by decide)
noncomputable def sgn (c j:Int):Nat:=([97,98,49,32]:List Nat).getD (c / (if j=0 then 8 else if j=1 then 32 else 128) % 4).toNat 0
theorem zIE (c j:Int) (hj:j=0\/j=1\/j=2) (a b d:Option D) (s:M.S):∃ o,qK 1 (zt 6) ZG (eOp zV (eC (.str [97,98,49,32])) (eOp z9 (eOp jO (zA 0) (eOp zV (ym (zD (eC (.int 8)) (zD (eC (.int 32)) (zD (eC (.int 128)) zO)))) (zA 6))) (eC (.int 4)))) [some (.int c),d,a,b,none,none] (.int j) s=.ok (some (.str [sgn c j])) (s++[o]):=by
 rcases hj with rfl | rfl | rfl
 ·have v:c / 8 % 4=0\/c / 8 % 4=1\/c / 8 % 4=2\/c / 8 % 4=3:=by omega
  rcases v with v | v | v | v<;>exact⟨.lst [.int 8,.int 32,.int 128],by simp[v,sgn,at0,at1,at2,at3,sz5]⟩
 ·have v:c / 32 % 4=0\/c / 32 % 4=1\/c / 32 % 4=2\/c / 32 % 4=3:=by omega
  rcases v with v | v | v | v<;>exact⟨.lst [.int 8,.int 32,.int 128],by simp[v,sgn,at0,at1,at2,at3,sz5]⟩
 ·have v:c / 128 % 4=0\/c / 128 % 4=1\/c / 128 % 4=2\/c / 128 % 4=3:=by omega
  rcases v with v | v | v | v<;>exact⟨.lst [.int 8,.int 32,.int 128],by simp[v,sgn,at0,at1,at2,at3,sz5]⟩
theorem Ju (r:F) (c deep:Int) (a b:Option D):∃ x,∀ s:M.S,∃ g,yi r [some (.int c),some (.int deep),a,b,none,none] s=.rt (.str x) (s++g):=by
 have hm:0 <= c / 512 % 4/\c / 512 % 4 < 4:=by omega
 refine⟨(List.range (c / 512 % 4 - 0).toNat).map fun k:Nat=>sgn c (0+(k:Int)),fun s=>?_⟩
 obtain⟨g,e⟩:=zFq (n:=1) (it:=jf (eOp z9 (eOp jO (zA 0) (eC (.int 512))) (eC (.int 4)))) (tg:=zt 6)
  (e:=eOp zV (eC (.str [97,98,49,32])) (eOp z9 (eOp jO (zA 0) (eOp zV (ym (zD (eC (.int 8)) (zD (eC (.int 32)) (zD (eC (.int 128)) zO)))) (zA 6))) (eC (.int 4))))
  (σ:=[some (.int c),some (.int deep),a,b,none,none]) (s:=s) (xs:=jw 0 (c / 512 % 4)) (g:=[]) (fun x=>match x with | .int j=>.str [sgn c j] | d=>d)
  (by simp;omega) (by simp[jw,SZ];omega) rfl fun x hx t=>by
   obtain⟨k,hk,rfl⟩:=List.mem_map.mp hx
   have hk':=List.mem_range.mp hk
   obtain⟨o,e⟩:=zIE c (0+(k:Int)) (by omega) a b (some (.int deep)) (s++t)
   exact⟨t++[o],by rw[e,List.append_assoc]⟩
 refine⟨g,?_⟩
 have jn:=zFe (fun k:Nat=>sgn c (0+(k:Int))) (List.range (c / 512 % 4 - 0).toNat) (s++g) (by simp[SZ];omega)
 have mp:(jw 0 (c / 512 % 4)).map (fun x=>match x with | .int j=>D.str [sgn c j] | d=>d)=(List.range (c / 512 % 4 - 0).toNat).map fun k:Nat=>D.str [sgn c (0+(k:Int))]:=by
  unfold jw
  rw[List.map_map]
  rfl
 rw[mp] at e
 show ((yl _ _ _ _ _ _ _).bind (yy [])).stm _ _=_
 rw[e,R.bind_ok,jn]
 rfl
theorem sz0:¬ SZ=0:=by decide
theorem zKv (n:Nat) (deep:Int) (h1:1 <= deep) (h2:deep <= 3) (ih:deep < 3->∀ c,∃ d,(∀ s:M.S,zM n [.int c,.int (deep+1)] s=.ok d s)/\kyD (3 - deep).toNat d=true) (c:Int) :
  ∃ d,(∀ s:M.S,∃ g,zv (zM n) [.int c,.int deep] s=.ok d (s++g))/\kyD (4 - deep).toNat d=true:=by
 obtain⟨k,hk⟩:∃ k,(4 - deep).toNat=k+1:=⟨(4 - deep).toNat - 1,by omega⟩
 have hk':(3 - deep).toNat=k:=by omega
 rw[hk]
 rw[hk'] at ih
 have w:c % 8=0\/c % 8=1\/c % 8=2\/c % 8=3\/c % 8=4\/c % 8=5\/c % 8=6\/c % 8=7:=by omega
 have sn:qe (c / 8 % 2001 - 1000)=true:=by unfold qe;simp;omega
 rcases w with w | w | w | w | w | w | w | w
 ·exact⟨.int (c / 8 % 2001 - 1000),fun s=>⟨[],by simp[zv,zw,zj,zf,zi,zg,w]⟩,rfl⟩
 ·exact⟨.str (Qz (c / 8 % 2001 - 1000)),fun s=>⟨[],by simp[zv,zw,zj,zf,zi,zg,w,sn]⟩,rfl⟩
 ·have v:c / 8 % 4=0\/c / 8 % 4=1\/c / 8 % 4=2\/c / 8 % 4=3:=by omega
  rcases v with v | v | v | v
  ·exact⟨.non,fun s=>⟨[_],by simp[zv,zw,zj,zf,zi,zg,zq,w,v];rfl⟩,rfl⟩
  ·exact⟨.str [78,111,110,101],fun s=>⟨[_],by simp[zv,zw,zj,zf,zi,zg,zq,w,v];rfl⟩,rfl⟩
  ·exact⟨.str [],fun s=>⟨[_],by simp[zv,zw,zj,zf,zi,zg,zq,w,v];rfl⟩,rfl⟩
  ·exact⟨.tup [],fun s=>⟨[_],by simp[zv,zw,zj,zf,zi,zg,zq,w,v];rfl⟩,rfl⟩
 ·by_cases hd:deep < 3
  ·obtain⟨d,e1,e2⟩:=ih hd (c / 8)
   refine⟨.tup [d],fun s=>⟨[],by simp[zv,zw,zj,zf,zi,zg,zq,jC,w,hd,e1,sz0]⟩,?_⟩
   show [d].all (kyD k)=true
   simp[e2]
  ·obtain⟨x,e⟩:=Ju (zM n) c deep (some (.int (c % 8))) (some (.int (c / 8 % 2001 - 1000)))
   rw[w] at e
   exact⟨.str x,fun s=>let ⟨g,e⟩:=e s;⟨g,by simp[zv,zw,zj,zf,zi,zg,zq,jC,jH,jL,jy,w,hd,e]⟩,rfl⟩
 ·by_cases hd:deep < 3
  ·have hm:0 <= c / 8 % 7/\c / 8 % 7 < 7:=by omega
   have f:=fun j:Nat=>ih hd (Z9 c (j:Int))
   let h:Nat->D:=fun j=>(f j).choose
   have h1':∀ (j:Nat) (s:M.S),zM n [.int (Z9 c (j:Int)),.int (deep+1)] s=.ok (h j) s:=fun j s=>(f j).choose_spec.1 s
   have h2':∀ j,kyD k (h j)=true:=fun j=>(f j).choose_spec.2
   refine⟨.tup ((List.range (c / 8 % 7 - 0).toNat).map h),fun s=>⟨[.lst ((List.range (c / 8 % 7 - 0).toNat).map h)],?_⟩,?_⟩
   ·have e:=JV (n:=1) (it:=jf (eOp z9 (eOp jO (zA 0) (eC (.int 8))) (eC (.int 7)))) (tg:=zt 6) (e:=zX (zM n) (zD (zX jU (zD (zA 0) (zD (zA 6) zO))) (zD (eOp qM (zA 1) (eC (.int 1))) zO)))
     (σ:=[some (.int c),some (.int deep),some (.int 4),some (.int (c / 8 % 2001 - 1000)),none,none]) (s:=s) (lo:=0) (hi:=c / 8 % 7) h (by simp;omega) (sz5 _ (by omega)) fun j hj=>by simp[JN,h1']
    simp[zv,zw,zj,zf,zi,zg,zq,jC,jH,w,hd,e]
   ·show ((List.range (c / 8 % 7 - 0).toNat).map h).all (kyD k)=true
    rw[List.all_map]
    exact List.all_eq_true.mpr fun j _=>h2' j
  ·obtain⟨x,e⟩:=Ju (zM n) c deep (some (.int (c % 8))) (some (.int (c / 8 % 2001 - 1000)))
   rw[w] at e
   exact⟨.str x,fun s=>let ⟨g,e⟩:=e s;⟨g,by simp[zv,zw,zj,zf,zi,zg,zq,jC,jH,jL,jy,w,hd,e]⟩,rfl⟩
 ·have v:c / 8 % 5=0\/c / 8 % 5=1\/c / 8 % 5=2\/c / 8 % 5=3\/c / 8 % 5=4:=by omega
  rcases v with v | v | v | v | v
  ·exact⟨.int 0,fun s=>⟨[_],by simp[zv,zw,zj,zf,zi,zg,zq,jC,jH,jL,w,v,at0];rfl⟩,rfl⟩
  ·exact⟨.int 1,fun s=>⟨[_],by simp[zv,zw,zj,zf,zi,zg,zq,jC,jH,jL,w,v,at1];rfl⟩,rfl⟩
  ·exact⟨.int 2,fun s=>⟨[_],by simp[zv,zw,zj,zf,zi,zg,zq,jC,jH,jL,w,v,at2];rfl⟩,rfl⟩
  ·exact⟨.int 100000000000000000000,fun s=>⟨[_],by simp[zv,zw,zj,zf,zi,zg,zq,jC,jH,jL,w,v,at3];rfl⟩,rfl⟩
  ·exact⟨.int 100000000000000000001,fun s=>⟨[_],by simp[zv,zw,zj,zf,zi,zg,zq,jC,jH,jL,w,v,at4];rfl⟩,rfl⟩
 ·by_cases hz:c / 720 % 8=1
  ·have zb:0 <= c / 5760 % 900/\c / 5760 % 900 < 900:=by omega
   generalize hzz:c / 5760 % 900=z at *
   have m0:0 <= c / 7 % (z+1):=Int.emod_nonneg _ (by omega)
   have m1:c / 7 % (z+1) < z+1:=Int.emod_lt_of_pos _ (by omega)
   have zp:0 < z+1:=by omega
   refine⟨.str (List.replicate (c / 7 % (z+1)).toNat 97++98::List.replicate (z - c / 7 % (z+1)).toNat 97),fun s=>⟨[],?_⟩,rfl⟩
   generalize hy:c / 7 % (z+1)=y at *
   simp[zv,zw,zj,zf,zi,zg,zq,jC,jH,jL,jy,w,hz,hzz,zp,hy]
   rw[if_pos (by omega),if_pos (sz5 _ (by omega)),if_pos (by omega),if_pos (sz5 _ (by omega))]
  ·have zb:0 <= c / 8 % 90/\c / 8 % 90 < 90:=by omega
   generalize hzz:c / 8 % 90=z at *
   have m0:0 <= c / 7 % (z+1):=Int.emod_nonneg _ (by omega)
   have m1:c / 7 % (z+1) < z+1:=Int.emod_lt_of_pos _ (by omega)
   have zp:0 < z+1:=by omega
   refine⟨.str (List.replicate (c / 7 % (z+1)).toNat 97++98::List.replicate (z - c / 7 % (z+1)).toNat 97),fun s=>⟨[],?_⟩,rfl⟩
   generalize hy:c / 7 % (z+1)=y at *
   simp[zv,zw,zj,zf,zi,zg,zq,jC,jH,jL,jy,w,hz,hzz,zp,hy]
   rw[if_pos (by omega),if_pos (sz5 _ (by omega)),if_pos (by omega),if_pos (sz5 _ (by omega))]
 ·obtain⟨x,e⟩:=Ju (zM n) c deep (some (.int (c % 8))) (some (.int (c / 8 % 2001 - 1000)))
  rw[w] at e
  exact⟨.str x,fun s=>let ⟨g,e⟩:=e s;⟨g,by simp[zv,zw,zj,zf,zi,zg,zq,jC,jH,jL,jy,w,e]⟩,rfl⟩
theorem zJB:∀ (n:Nat) (deep:Int),1 <= deep->deep <= 3->3 - deep < n->∀ c,∃ d,(∀ s:M.S,zM n [.int c,.int deep] s=.ok d s)/\kyD (4 - deep).toNat d=true:=by
 intro n
 induction n with
 | zero=>intro deep h1 h2 h3;omega
 | succ n ih =>
  intro deep h1 h2 h3 c
  obtain⟨d,e,k⟩:=zKv n deep h1 h2 (fun hd c=>by
   have:=ih (deep+1) (by omega) (by omega) (by omega) c
   rwa [show (4 - (deep+1))=3 - deep by omega] at this) c
  exact⟨d,fun s=>let ⟨g,e⟩:=e s;ZH e (QQ _ k),k⟩
noncomputable def Zy:SM :=
  (jX (zX zAy (zD (Zb 1 (jf (eOp z9 (zA 0) (eC (.int 4)))) (zt 1) ZG (zX Zc (zD (zX jU (zD (zA 0) (zD (zA 1) zO))) (zD (eC (.int 1)) zO)))) zO)))
noncomputable def JK:F:=fn 1 Zy
noncomputable def qy:F:=chS JK
theorem zEO:jJ 1 JK qy:=Zh _
theorem zLY (c:Int):∃ ds:List D,(∀ s:M.S,qy [.int c] s=.ok (.tup ds) s)/\kyD 4 (.tup ds)=true/\ds.length <= 3:=by
 have hm:0 <= c % 4/\c % 4 < 4:=by omega
 have f:=fun j:Nat=>zJB 3 1 (by omega) (by omega) (by omega) (Z9 c (j:Int))
 let h:Nat->D:=fun j=>(f j).choose
 have h1':∀ (j:Nat) (s:M.S),Zc [.int (Z9 c (j:Int)),.int 1] s=.ok (h j) s:=fun j s=>(f j).choose_spec.1 s
 have h2':∀ j,kyD 3 (h j)=true:=fun j=>(f j).choose_spec.2
 have ky:kyD 4 (.tup ((List.range (c % 4 - 0).toNat).map h))=true:=by
  show ((List.range (c % 4 - 0).toNat).map h).all (kyD 3)=true
  rw[List.all_map]
  exact List.all_eq_true.mpr fun j _=>h2' j
 refine⟨(List.range (c % 4 - 0).toNat).map h,fun s=>ZH (g:=[.lst ((List.range (c % 4 - 0).toNat).map h)]) ?_ (QQ _ ky),ky,by simp;omega⟩
 have e:=JV (n:=1) (it:=jf (eOp z9 (zA 0) (eC (.int 4)))) (tg:=zt 1) (e:=zX Zc (zD (zX jU (zD (zA 0) (zD (zA 1) zO))) (zD (eC (.int 1)) zO)))
  (σ:=[some (.int c)]) (s:=s) (lo:=0) (hi:=c % 4) h (by simp;omega) (sz5 _ (by omega)) fun j hj=>by simp[JN,h1']
 simp[JK,Zy,e]
noncomputable def Qh:SM :=
  (zk (jj 2 (ym zO))
  (zk (q0 (jf (zA 1)) (zt 3)
  (zk (jj 4 (zX qy (zD (zX jU (zD (zA 0) (zD (zA 3) zO))) zO)))
  (zk (Qw (je zHG (zA 4) (zA 2))
  (jj 4 (eOp Jo (zA 4) (ZY (zD (zA 3) zO)))))
  (yg (eM .list Q9 (zA 2) (zD (zA 4) zO))))))
  (jX (zA 2))))
noncomputable def Qj:F:=fn 5 Qh
noncomputable def yt:F:=chN Qj
theorem zC6:jJ 2 Qj yt:=zF4 _
noncomputable def qG (d:D):Prop:=∃ ks,d=.tup ks/\kyD 4 d=true/\ks.length <= 200
theorem qG.t {d:D} (h:qG d):kyT d=true:=by
 obtain⟨ks,rfl,h,_⟩:=h
 exact J6 (k:=7) (by omega) h
noncomputable def Zn:D->Nat
 | .tup ks=>ks.length
 | _=>0
theorem zDy (a b:Nat) (h:a <= b):∀ l:List D,(l.filter fun d=>decide (b <= Zn d)).length <= (l.filter fun d=>decide (a <= Zn d)).length:=by
 intro l
 induction l with
 | nil=>exact Nat.le_refl _
 | cons x l ih =>
  by_cases h1:b <= Zn x
  ·rw[List.filter_cons_of_pos (by simpa using h1),List.filter_cons_of_pos (by simp;omega),List.length_cons,List.length_cons]
   omega
  ·rw[List.filter_cons_of_neg (by simpa using h1)]
   by_cases h2:a <= Zn x
   ·rw[List.filter_cons_of_pos (by simpa using h2),List.length_cons];omega
   ·rw[List.filter_cons_of_neg (by simpa using h2)];exact ih
theorem zGO {ds:List D}{x:D} (hx:x∈ds) {a b:Nat} (h2:b=a+1) (h1:a=Zn x):(ds.filter fun d=>decide (b <= Zn d)).length < (ds.filter fun d=>decide (a <= Zn d)).length:=by
 obtain⟨l1,l2,rfl⟩:=List.append_of_mem hx
 have s1:=zDy a b (by omega) l1
 have s2:=zDy a b (by omega) l2
 rw[List.filter_append,List.filter_append,List.length_append,List.length_append,List.filter_cons_of_neg (by simp;omega),List.filter_cons_of_pos (by simp;omega),List.length_cons]
 omega
noncomputable abbrev kcT:TM:=je zHG (zA 4) (zA 2)
noncomputable abbrev kbS:SM:=jj 4 (eOp Jo (zA 4) (ZY (zD (zA 3) zO)))
theorem zGM {S:M.S}{ds:List D} (hds:∀ d∈ds,qG d) (c m:D) (k:Int):∀ (n:Nat) (ks:List D),(ds.filter fun d=>decide (ks.length <= Zn d)).length < n->kyD 4 (.tup ks)=true->ks.length+(ds.filter fun d=>decide (ks.length <= Zn d)).length <= 190 ->
  ∃ ks',ZS n kcT kbS [some c,some m,some (.ref S.length),some (.int k),some (.tup ks)] (S++[.lst ds])=.nx [some c,some m,some (.ref S.length),some (.int k),some (.tup ks')] (S++[.lst ds])/\D.tup ks'∉ds/\kyD 4 (.tup ks')=true/\ks'.length <= 190:=by
 intro n
 induction n with
 | zero=>intro ks h;omega
 | succ n ih =>
  intro ks h hk hl
  have k7:kyD 7 (.tup ks)=true:=J6 (by omega) hk
  have a7:ds.all (kyD 7)=true:=List.all_eq_true.mpr fun d hd=>by
   obtain⟨_,_,h,_⟩:=hds d hd
   exact J6 (by omega) h
  have tc:kcT [some c,some m,some (.ref S.length),some (.int k),some (.tup ks)] (S++[.lst ds])=.ok (ds.contains (.tup ks)) (S++[.lst ds]):=by
   have a7':∀ x∈ds,kyD 7 x=true:=List.all_eq_true.mp a7
   simp[k7]
   intro x hx hf
   rw[a7' x hx] at hf
   cases hf
  unfold ZS
  rw[tc]
  by_cases hc:D.tup ks∈ds
  ·have ct:ds.contains (D.tup ks)=true:=by simpa using hc
   have kb:kbS [some c,some m,some (.ref S.length),some (.int k),some (.tup ks)] (S++[.lst ds])=.nx [some c,some m,some (.ref S.length),some (.int k),some (.tup (ks++[.int k]))] (S++[.lst ds]):=by
    have z:ks.length+1 <= SZ:=sz5 _ (by omega)
    cases ks with
    | nil=>simp[sz0]
    | cons a l =>
     have z':l.length+1+1 <= SZ:=by simpa using z
     simp[sz0]
     rw[if_pos (sz5 1 (by omega)),if_pos z']
   have less:(ds.filter fun d=>decide ((ks++[D.int k]).length <= Zn d)).length < (ds.filter fun d=>decide (ks.length <= Zn d)).length:=zGO hc (by simp) rfl
   obtain⟨ks',e,r⟩:=ih (ks++[.int k]) (by omega) (by
    show (ks++[D.int k]).all (kyD 3)=true
    have hk':ks.all (kyD 3)=true:=hk
    rw[List.all_append,hk'];rfl) (by
    have:(ks++[D.int k]).length=ks.length+1:=by simp
    omega)
   refine⟨ks',?_,r⟩
   rw[ct,R.stm_ok,if_pos rfl,kb]
   exact e
  ·have cf:ds.contains (D.tup ks)=false:=by simpa using hc
   refine⟨ks,?_,hc,hk,by omega⟩
   rw[cf,R.stm_ok,if_neg Bool.false_ne_true]
noncomputable abbrev kfS:SM:=(zk (jj 4 (zX qy (zD (zX jU (zD (zA 0) (zD (zA 3) zO))) zO)))
  (zk (Qw kcT kbS)
  (yg (eM .list Q9 (zA 2) (zD (zA 4) zO)))))
theorem zF8 {S:M.S}{ds:List D} (hds:∀ d∈ds,qG d) (hl:ds.length <= 150) (c k:Int) (m:D) (v3 v4:Option D):∃ d,j6 (zt 3) kfS (.int k) [some (.int c),some m,some (.ref S.length),v3,v4] (S++[.lst ds])=.nx [some (.int c),some m,some (.ref S.length),some (.int k),some d] (S++[.lst (ds++[d])])/\qG d/\d∉ds:=by
 obtain⟨ks,e1,e2,e3⟩:=zLY (Z9 c k)
 have fl:(ds.filter fun d=>decide (ks.length <= Zn d)).length <= ds.length:=List.length_filter_le _ _
 obtain⟨ks',w1,w2,w3,w4⟩:=zGM (S:=S) hds (.int c) m k zFP ks (Nat.lt_of_le_of_lt fl (by unfold zFP;omega)) e2 (by omega)
 refine⟨.tup ks',?_,⟨ks',rfl,w3,by omega⟩,w2⟩
 have a1:(jj 4 (zX qy (zD (zX jU (zD (zA 0) (zD (zA 3) zO))) zO))) [some (.int c),some m,some (.ref S.length),some (.int k),v4] (S++[.lst ds])=.nx [some (.int c),some m,some (.ref S.length),some (.int k),some (.tup ks)] (S++[.lst ds]):=by
  simp[JN,e1]
 have a3:(yg (eM .list Q9 (zA 2) (zD (zA 4) zO))) [some (.int c),some m,some (.ref S.length),some (.int k),some (.tup ks')] (S++[.lst ds])=.nx [some (.int c),some m,some (.ref S.length),some (.int k),some (.tup ks')] (S++[.lst (ds++[.tup ks'])]):=by
  have z:ds.length < SZ:=Nat.lt_of_lt_of_le (Nat.lt_succ_of_le hl) (sz5 _ (by omega))
  simp[z]
 show ((jj 4 _ _ _).then _)=_
 rw[show ([some (.int c),some m,some (.ref S.length),v3,v4]:St).set 3 (some (.int k))=[some (.int c),some m,some (.ref S.length),some (.int k),v4] from rfl,a1]
 show ((Qw kcT kbS _ _).then _)=_
 rw[show Qw kcT kbS [some (.int c),some m,some (.ref S.length),some (.int k),some (.tup ks)] (S++[.lst ds])=_ from w1]
 exact a3
theorem zFz {S:M.S} (c:Int) (m:D):∀ (xs:List Int) (ds:List D) (v3 v4:Option D),(∀ d∈ds,qG d)->ds.Nodup->ds.length+xs.length <= 150 ->
  ∃ ds' v3' v4',j0 [] (j6 (zt 3) kfS) (xs.map .int) [some (.int c),some m,some (.ref S.length),v3,v4] (S++[.lst ds])=.nx [some (.int c),some m,some (.ref S.length),v3',v4'] (S++[.lst ds'])/\(∀ d∈ds',qG d)/\ds'.Nodup/\ds'.length=ds.length+xs.length:=by
 intro xs
 induction xs with
 | nil=>intro ds v3 v4 h1 h2 h3;exact⟨ds,v3,v4,rfl,h1,h2,rfl⟩
 | cons x xs ih =>
  intro ds v3 v4 h1 h2 h3
  rw[List.length_cons] at h3
  obtain⟨d,e,kd,nd⟩:=zF8 (S:=S) h1 (by omega) c x m v3 v4
  obtain⟨ds',v3',v4',e',r1,r2,r3⟩:=ih (ds++[d]) (some (.int x)) (some d) (fun y hy=>by
   rcases List.mem_append.mp hy with h | h
   ·exact h1 y h
   ·rw[List.mem_singleton.mp h];exact kd) (by
   rw[List.nodup_append]
   refine⟨h2,by simp,fun a ha b hb=>?_⟩
   rw[List.mem_singleton.mp hb]
   exact fun z=>nd (z ▸ ha)) (by rw[List.length_append];simp;omega)
  refine⟨ds',v3',v4',?_,r1,r2,by rw[r3,List.length_append,List.length_cons];simp;omega⟩
  rw[List.map_cons]
  unfold j0
  rw[e]
  exact e'
theorem zJf (c m:Int) (h0:0 <= m) (h1:m <= 150) (S:M.S):∃ ds,yt [.int c,.int m] S=alloc (.lst ds) S/\(∀ d∈ds,qG d)/\ds.Nodup/\ds.length=m.toNat:=by
 obtain⟨ds,v3,v4,e,r1,r2,r3⟩:=zFz (S:=S) c (.int m) ((List.range (m - 0).toNat).map fun k:Nat=>(0:Int)+k) [] none none (fun _ h=>nomatch h) List.nodup_nil (by simp;omega)
 refine⟨ds,zF9 (g:=[.lst ds]) (j:=S.length) ?_ (by simp) (Nat.le_refl _) ?_,r1,r2,by rw[r3];simp⟩
 ·have a1:(jj 2 (ym zO)) [some (.int c),some (.int m),none,none,none] S=.nx [some (.int c),some (.int m),some (.ref S.length),none,none] (S++[.lst []]):=by simp
  have a2:(q0 (jf (zA 1)) (zt 3) kfS) [some (.int c),some (.int m),some (.ref S.length),none,none] (S++[.lst []])=.nx [some (.int c),some (.int m),some (.ref S.length),v3,v4] (S++[.lst ds]):=by
   have it:jf (zA 1) [some (.int c),some (.int m),some (.ref S.length),none,none] (S++[.lst []])=.ok (jw 0 m,[]) (S++[.lst []]):=by simp;omega
   show (jf (zA 1) _ _).stm _ _=_
   rw[it,R.stm_ok]
   show (if zc [] (S++[.lst []])=true then j0 [] (j6 (zt 3) kfS) (jw 0 m) _ _ else _)=_
   rw[if_pos (show zc [] (S++[.lst []])=true from rfl)]
   have rm:jw 0 m=((List.range (m - 0).toNat).map fun k:Nat=>(0:Int)+k).map .int:=by unfold jw;rw[List.map_map];rfl
   rw[rm]
   exact e
  have st:Qj [.int c,.int m] S=(((jj 2 (ym zO)) [some (.int c),some (.int m),none,none,none] S).then (zk (q0 (jf (zA 1)) (zt 3) kfS) (jX (zA 2)))).out:=rfl
  rw[st,a1]
  show (((q0 (jf (zA 1)) (zt 3) kfS) _ _).then _).out=_
  rw[a2]
  simp
 ·have:∀ l:List D,(∀ d∈l,qG d)->D.cl.all S.length l=true:=by
   intro l
   induction l with
   | nil=>exact fun _=>rfl
   | cons x l ih =>
    intro h
    obtain⟨_,_,hx,_⟩:=h x List.mem_cons_self
    show (D.cl S.length x && D.cl.all S.length l)=true
    rw[QQ _ hx,ih fun y hy=>h y (List.mem_cons_of_mem _ hy)];rfl
  exact this ds r1
noncomputable def yq:SM :=
  (zk (sIf (je cLt (zA 1) (zX ya (zD (zA 0) zO)))
  (jX (eOp zV (zA 0) (zA 1)))
  jo)
  (jX (eC (.int 0))))
noncomputable def QZ:F:=fn 2 yq
noncomputable def JL (xs:List D) (k:Int):D:=xs.getD k.toNat (.int 0)
noncomputable def zr:F
 | [.ro xs,.int k],s=>if 0 <= k then .ok (JL xs k) s else .no
 | _,_=>.no
theorem zJ3 {α:Type}{xs:List α}{k:Int} (h0:0 <= k) (h:k < xs.length) (d:α):atI xs k=some (xs.getD k.toNat d):=by
 unfold atI ixN
 rw[if_pos h0,if_pos h]
 have hk:k.toNat < xs.length:=by omega
 simp[List.getD_eq_getElem?_getD,hk]
theorem zI4 {n:Nat}{xs:List D} (h:D.cl.all n xs=true) (k:Nat) (d:D) (hd:D.cl n d=true):D.cl n (xs.getD k d)=true:=by
 induction xs generalizing k with
 | nil=>exact hd
 | cons x xs ih =>
  have h':(D.cl n x && D.cl.all n xs)=true:=h
  rw[Bool.and_eq_true] at h'
  cases k with
  | zero=>exact h'.1
  | succ k=>exact ih h'.2 k
theorem zC1:jJ 2 QZ zr:=jJ.pure fun ds S hl c ca=>by
 match ds,hl with
 | [a,b],_ =>
  cases a with
  | ro xs =>
   cases b with
   | int k =>
    by_cases h0:0 <= k
    ·refine .inr ⟨JL xs k,[],by simp[zr,h0],?_,?_⟩
     ·by_cases h:k < (xs.length:Int)
      ·simp[QZ,yq,h,zJ3 h0 h (.int 0),JL]
      ·have h2:JL xs k=.int 0:=by unfold JL;rw[List.getD_eq_getElem?_getD,List.getElem?_eq_none (by omega)];rfl
       simp[QZ,yq,h,h2]
     ·have ca':(D.cl.all S.length xs && true)=true:=ca
      rw[Bool.and_true] at ca'
      exact zI4 ca' _ _ rfl
    ·exact .inl (by simp[zr,h0])
   | _=>exact .inl rfl
  | _=>exact .inl rfl
noncomputable def yR:SM :=
  (zk (jj 1 (eOp jO (zX zr (zD (zA 0) (zD (eC (.int 2)) zO))) (eC (.int 147))))
  (zk (sIf (je cEq (eOp z9 (zA 1) (eC (.int 3))) (eC (.int 1)))
  (jX (Zb 1 (jf (eOp z9 (eOp jO (zA 1) (eC (.int 3))) (eC (.int 100)))) (zt 2) ZG (zX jU (zD (zX zr (zD (zA 0) (zD (eOp qM (eC (.int 3)) (eOp z9 (zA 2) (eC (.int 5)))) zO))) (zD (zA 2) zO)))))
  jo)
  (jX (eSl (zA 0) (zEq (eC (.int 3))) zEt))))
noncomputable def ZK:F:=fn 2 yR
noncomputable def Zx (ns:List Int):List Int:=if ns.getD 2 0 / 147 % 3=1 then (List.range (ns.getD 2 0 / 147 / 3 % 100).toNat).map fun k:Nat=>Z9 (ns.getD (3+(k:Int) % 5).toNat 0) k else ns.drop 3
noncomputable def yT:F:=chN ZK
theorem zCX:jJ 1 ZK yT:=zF4 _
theorem Zw (ns:List Int) (k:Int):JL (ns.map .int) k=.int (ns.getD k.toNat 0):=by
 unfold JL
 rw[List.getD_eq_getElem?_getD,List.getD_eq_getElem?_getD,List.getElem?_map]
 cases ns[k.toNat]?<;>rfl
theorem zEl (n:Nat) (l:List Int):D.cl.all n (l.map .int)=true:=by
 induction l with
 | nil=>rfl
 | cons x l ih=>exact ih
theorem zHW (ns:List Int) (hl:ns.length <= 63) (S:M.S):yT [.ro (ns.map .int)] S=alloc (.lst ((Zx ns).map .int)) S:=by
 refine zF9 (g:=[.lst ((Zx ns).map .int)]) (j:=S.length) ?_ (by simp) (Nat.le_refl _) (zEl _ _)
 by_cases h:ns.getD 2 0 / 147 % 3=1
 ·have e:=JV (n:=1) (it:=jf (eOp z9 (eOp jO (zA 1) (eC (.int 3))) (eC (.int 100)))) (tg:=zt 2) (e:=zX jU (zD (zX zr (zD (zA 0) (zD (eOp qM (eC (.int 3)) (eOp z9 (zA 2) (eC (.int 5)))) zO))) (zD (zA 2) zO)))
   (σ:=[some (.ro (ns.map .int)),some (.int (ns.getD 2 0 / 147))]) (s:=S) (lo:=0) (hi:=ns.getD 2 0 / 147 / 3 % 100) (fun k=>.int (Z9 (ns.getD (3+(k:Int) % 5).toNat 0) k)) (by simp;omega) (sz5 _ (by omega)) fun j hj=>by
    have h0:0 <= 3+(j:Int) % 5:=by omega
    simp[zr,h0,Zw,JN]
  have dl:(Zx ns).map D.int=(List.range (ns.getD 2 0 / 147 / 3 % 100 - 0).toNat).map fun k:Nat=>D.int (Z9 (ns.getD (3+(k:Int) % 5).toNat 0) k):=by
   unfold Zx
   rw[if_pos h,List.map_map,Int.sub_zero]
   rfl
  rw[dl]
  have c2:zr [.ro (ns.map .int),.int 2] S=.ok (.int (ns.getD 2 0)) S:=by simp[zr,Zw]
  generalize (List.range (ns.getD 2 0 / 147 / 3 % 100 - 0).toNat).map (fun k:Nat=>D.int (Z9 (ns.getD (3+(k:Int) % 5).toNat 0) k))=L at *
  generalize ns.getD 2 0=z at *
  simp[ZK,yR,c2,h,e]
 ·have dl:Zx ns=ns.drop 3:=by unfold Zx;rw[if_neg h]
  rw[dl]
  have c2:zr [.ro (ns.map .int),.int 2] S=.ok (.int (ns.getD 2 0)) S:=by simp[zr,Zw]
  have hl':ns.length <= SZ:=sz5 _ (by omega)
  generalize ns.getD 2 0=z at *
  have cu:cut (ns.map D.int) (some 3) none=(ns.drop 3).map D.int:=by
   rw[zKH _ (by omega),List.map_drop]
   rfl
  simp[ZK,yR,c2,h,cu]
theorem zHF (ns:List Int) (hl:ns.length <= 63):(Zx ns).length <= 100:=by
 unfold Zx
 split
 ·simp;omega
 ·simp;omega
noncomputable def ZI:SM :=
  (zk (sIf (je cEq (eOp z9 (zA 0) (eC (.int 3))) (eC (.int 1)))
  (jX (eOp z9 (eOp jO (zA 0) (eC (.int 3))) (eC (.int 41))))
  jo)
  (jX (eOp z9 (eOp jO (zA 0) (eC (.int 3))) (eC (.int 8)))))
noncomputable def QI:F:=fn 1 ZI
noncomputable def bnd (c:Int):Int:=if c % 3=1 then c / 3 % 41 else c / 3 % 8
theorem zFu (c:Int):0 <= bnd c/\bnd c <= 40:=by unfold bnd;split<;>omega
noncomputable def qh:F:=chS QI
theorem zCR:jJ 1 QI qh:=Zh _
theorem zC2 (c:Int) (s:M.S):qh [.int c] s=.ok (.int (bnd c)) s:=ZH (g:=[]) (by by_cases h:c % 3=1<;>simp[QI,ZI,bnd,h]) rfl
noncomputable def Za:SM :=
  (zk (sIf (je cEq (eOp z9 (zA 0) (eC (.int 3))) (eC (.int 1)))
  (jX (eOp qM (eC (.int 12)) (eOp z9 (eOp jO (zA 0) (eC (.int 3))) (eC (.int 49)))))
  jo)
  (jX (eOp qM (eC (.int 1)) (eOp z9 (eOp jO (zA 0) (eC (.int 3))) (eC (.int 11))))))
noncomputable def Qd:F:=fn 1 Za
noncomputable def JJ (c:Int):Int:=if c % 3=1 then 12+c / 3 % 49 else 1+c / 3 % 11
theorem zJi (c:Int):1 <= JJ c/\JJ c <= 60:=by unfold JJ;split<;>omega
noncomputable def yr:F:=chS Qd
theorem zDJ:jJ 1 Qd yr:=Zh _
theorem zJn (c:Int) (s:M.S):yr [.int c] s=.ok (.int (JJ c)) s:=ZH (g:=[]) (by by_cases h:c % 3=1<;>simp[Qd,Za,JJ,h]) rfl
noncomputable def Zv:SM :=
  (zk (sIf (tOr (QP (QJ (zX JG (zD (zA 0) (zD (eC (.ty .int)) zO))))) (QJ (zX JG (zD (zA 0) (zD (eC (.ty .bool)) zO)))))
  (jX (eC (.bl false)))
  jo)
  (jX (zDT cLe cLe (eC (.int 0)) (zA 0) (eC (.int 1000)))))
noncomputable def JI:F:=fn 1 Zv
noncomputable def ZO:F:=chS JI
theorem zER:jJ 1 JI ZO:=Zh _
theorem zEM {b:Int} (h0:0 <= b) (h1:b <= 1000) (s:M.S):ZO [.int b] s=.ok (.bl true) s:=ZH (g:=[]) (by simp[JI,Zv,h0,h1]) rfl
noncomputable def qx:SM :=
  (zk (sIf (QP (QJ (zX ZO (zD (zA 1) zO))))
  zDS
  jo)
  (zk (zBc 5 0 (zA 0) (zA 1))
  (zBc 5 1 (zA 0) Qr)))
noncomputable def ZE:F:=fn 2 qx
noncomputable abbrev yB:F:=ZE
theorem ZU {S:M.S}{p:Nat}{o:O} (hp:S[p]? = some o) (u:O):(S.set p u)[p]? = some u:=List.getElem?_set_self (List.getElem?_eq_some_iff.mp hp).1
theorem zBs {S:M.S}{p:Nat}{o:O} (hp:S[p]? = some o) (u:O) (g:M.S):(S++g).set p u=S.set p u++g:=List.set_append_left _ _ (List.getElem?_eq_some_iff.mp hp).1
theorem zAv {b:Int} (h0:0 <= b) (h1:b <= 1000) {S:M.S}{p:Nat} (hp:S[p]? = some (.ins 5 [none,none])) :
  ZE [.ref p,.int b] S=.ok .non (S.set p (.ins 5 [some (.int b),some (.ref S.length)])++[.dtt []]):=by
 have e1:=ZU hp (.ins 5 [some (.int b),none])
 have e2:(S.set p (.ins 5 [some (.int b),none])++[O.dtt []])[p]? = some (.ins 5 [some (.int b),none]):=qN e1 _
 have e3:=zBs e1 (.ins 5 [some (.int b),some (.ref S.length)]) [O.dtt []]
 rw[List.set_set] at e3
 simp[ZE,qx,zEM h0 h1,hp,e1,e2,e3]
structure Shf (S:M.S) (p d:Nat) (b:Int) (kvs:List (D×D)):Prop where
 ob:S[p]? = some (.ins 5 [some (.int b),some (.ref d)])
 di:S[d]? = some (.dtt kvs)
theorem QO {S:M.S}{d:Nat}{o:O}{n:Nat} (h:clS n S=true) (k:O.cl n o=true):clS n (S.set d o)=true:=by
 unfold clS at h ⊢
 refine List.all_eq_true.mpr fun x hx=>?_
 rcases List.mem_or_eq_of_mem_set hx with h1 | rfl
 ·exact List.all_eq_true.mp h x h1
 ·exact k
theorem zDl (k v:D) (kvs:List (D×D)):qa k v (zx k kvs)=zx k kvs++[(k,v)]:=by
 unfold qa
 rw[if_neg]
 intro h
 obtain⟨p,hp,e⟩:=List.any_eq_true.mp h
 have:=(List.mem_filter.mp hp).2
 simp at this e
 exact this e
theorem zE5 {S:M.S}{d:Nat}{kvs:List (D×D)} (cS:clS S.length S=true) (h:S[d]? = some (.dtt kvs)):∀ q∈kvs,D.cl S.length q.1=true/\D.cl S.length q.2=true:=fun q hq=>by
 have:=List.all_eq_true.mp cS _ (List.mem_of_getElem? h)
 have z:=List.all_eq_true.mp this q hq
 rwa [Bool.and_eq_true] at z
theorem zAw {n:Nat}{kvs:List (D×D)} (h:∀ q∈kvs,D.cl n q.1=true/\D.cl n q.2=true):O.cl n (.dtt kvs)=true:=List.all_eq_true.mpr fun q hq=>by
 rw[(h q hq).1,(h q hq).2];rfl
noncomputable abbrev ky (l:List (D×D)):List D:=l.map (·.1)
theorem Qv {k v:D}{kvs:List (D×D)} (h:zy k kvs=some v):(k,v)∈kvs:=by
 unfold zy at h
 induction kvs with
 | nil=>cases h
 | cons p r ih =>
  obtain⟨p1,p2⟩:=p
  rw[List.lookup_cons] at h
  by_cases z:k=p1
  ·rw[show (k == p1)=true by simpa using z] at h
   cases h
   rw[z]
   exact List.mem_cons_self
  ·rw[show (k == p1)=false by simpa using z] at h
   exact List.mem_cons_of_mem _ (ih h)
theorem zAa {k v:D}{l:List (D×D)} (nd:(ky l).Nodup) (h:(k,v)∈l):zy k l=some v:=by
 unfold zy
 induction l with
 | nil=>cases h
 | cons p r ih =>
  obtain⟨p1,p2⟩:=p
  rw[show ky ((p1,p2)::r)=p1::ky r from rfl,List.nodup_cons] at nd
  rw[List.lookup_cons]
  rcases List.mem_cons.mp h with e | h
  ·cases e;simp
  ·have:k≠p1:=fun z=>nd.1 (z ▸ List.mem_map.mpr ⟨(k,v),h,rfl⟩)
   rw[show (k == p1)=false by simpa using this]
   exact ih nd.2 h
theorem zAg {k:D}{l:List (D×D)} (h:k∉ky l):zy k l=none:=by
 cases e:zy k l with
 | none=>rfl
 | some v=>exact absurd (List.mem_map.mpr ⟨_,Qv e,rfl⟩) h
theorem JT {k:D}{l:List (D×D)}{q:D×D}:q∈zx k l↔q∈l/\q.1≠k:=by
 unfold zx
 rw[List.mem_filter]
 simp
noncomputable def PrD (l:List (D×D)):Prop:=∀ q∈l,qG q.1/\kyD 2 q.2=true/\q.2≠.non
theorem qG.cl {d:D} (h:qG d) (n:Nat):D.cl n d=true:=by
 obtain⟨_,_,h,_⟩:=h
 exact QQ n h
theorem zJO (n:Nat) {l:List D} (h:∀ d∈l,qG d):D.cl.all n l=true:=by
 induction l with
 | nil=>rfl
 | cons x l ih =>
  show (D.cl n x && D.cl.all n l)=true
  rw[(h x List.mem_cons_self).cl n,ih fun y hy=>h y (List.mem_cons_of_mem _ hy)];rfl
theorem PrD.cl {l:List (D×D)} (h:PrD l) (n:Nat):O.cl n (.dtt l)=true:=zAw fun q hq=>⟨(h q hq).1.cl n,QQ n (h q hq).2.1⟩
theorem Zj {S:M.S}{d:Nat}{o:O} (h:S[d]? = some o):S.set d o=S:=List.ext_getElem? fun i=>by
 by_cases hi:d=i
 ·subst hi;rw[ZU h,h]
 ·rw[List.getElem?_set_ne hi]
theorem zD1 {a:IM}{tg:GM}{b:SM}{σ:St}{s:M.S}{xs:List D}{w:Gd}{r:RS} (it:a σ s=.ok (xs,w) s) (gd:zc w s=true) (e:j0 w (j6 tg b) xs σ s=r):q0 a tg b σ s=r:=by
 unfold q0
 rw[it]
 show (if zc w s=true then _ else _)=_
 rw[if_pos gd]
 exact e
theorem Ji {k:D}{kvs:List (D×D)} (h:zy k kvs=none):zx k kvs=kvs:=by
 unfold zx
 refine List.filter_eq_self.mpr fun q hq=>decide_eq_true fun e=>?_
 unfold zy at h
 induction kvs with
 | nil=>cases hq
 | cons p r ih =>
  obtain⟨p1,p2⟩:=p
  rw[List.lookup_cons] at h
  by_cases z:k=p1
  ·rw[show (k == p1)=true by simpa using z] at h;cases h
  ·rw[show (k == p1)=false by simpa using z] at h
   rcases List.mem_cons.mp hq with rfl | hq
   ·exact z e.symm
   ·exact ih h hq
theorem zAi (k t x:D):∀ A:List (D×D),(A.map fun p=>if p.1=k then (p.1,t) else p).lookup x=if x=k then (A.lookup x).map (fun _=>t) else A.lookup x
 | []=>by simp
 | (p1,p2)::r=>by
  rw[List.map_cons,List.lookup_cons]
  by_cases h:p1=k
  ·subst h
   simp only[if_true,List.lookup_cons]
   by_cases z:x=p1
   ·subst z;simp
   ·rw[show (x == p1)=false by simpa using z,zAi p1 t x r]
  ·simp only[h,if_false,List.lookup_cons]
   by_cases z:x=p1
   ·subst z;simp[h]
   ·rw[show (x == p1)=false by simpa using z,zAi k t x r]
theorem zC0 (k t x:D):∀ A:List (D×D),(A++[(k,t)]).lookup x=match A.lookup x with | some v=>some v | none=>if x=k then some t else none
 | []=>by
  show List.lookup x [(k,t)]=_
  rw[List.lookup_cons]
  by_cases z:x=k
  ·subst z;simp
  ·rw[show (x == k)=false by simpa using z];simp[z]
 | (p1,p2)::r=>by
  rw[List.cons_append,List.lookup_cons,List.lookup_cons]
  by_cases z:x=p1
  ·subst z;simp
  ·rw[show (x == p1)=false by simpa using z,zC0 k t x r]
theorem zBl (k t x:D) (A:List (D×D)):zy x (qa k t A)=if x=k then some t else zy x A:=by
 unfold qa zy
 by_cases h:(A.any fun p=>decide (p.1=k))=true
 ·rw[if_pos h,zAi]
  by_cases z:x=k
  ·subst z
   rw[if_pos rfl,if_pos rfl]
   cases e:A.lookup x with
   | some v=>rfl
   | none =>
    exfalso
    obtain⟨p,hp,e2⟩:=List.any_eq_true.mp h
    have e3:zy x A=none:=e
    have:=Ji e3
    have:p∈zx x A:=this.symm ▸ hp
    exact (JT.mp this).2 (of_decide_eq_true e2)
  ·rw[if_neg z,if_neg z]
 ·rw[if_neg h,zC0]
  by_cases z:x=k
  ·subst z
   have:A.lookup x=none:=by
    cases e:A.lookup x with
    | none=>rfl
    | some v =>
     exfalso
     have e3:zy x A=some v:=e
     exact h (List.any_eq_true.mpr ⟨_,Qv e3,by simp⟩)
   rw[this,if_pos rfl]
  ·rw[if_neg z]
   cases A.lookup x<;>simp[z]
theorem zIu {k t:D}{A:List (D×D)}{q:D×D} (h:q∈qa k t A):q∈A\/q=(k,t):=by
 unfold qa at h
 split at h
 ·obtain⟨p,hp,rfl⟩:=List.mem_map.mp h
  by_cases z:p.1=k
  ·rw[if_pos z,z];exact .inr rfl
  ·rw[if_neg z];exact .inl hp
 ·rcases List.mem_append.mp h with z | z
  ·exact .inl z
  ·exact .inr (List.mem_singleton.mp z)
theorem zBA {k t:D}{A:List (D×D)} (nd:(ky A).Nodup):(ky (qa k t A)).Nodup:=by
 unfold qa
 split
 ·have:ky (A.map fun p=>if p.1=k then (p.1,t) else p)=ky A:=by
   unfold ky
   rw[List.map_map]
   refine List.map_congr_left fun p _=>?_
   show (if p.1=k then (p.1,t) else p).1=p.1
   split<;>rfl
  rw[this]
  exact nd
 ·rename_i h
  rw[show ky (A++[(k,t)])=ky A++[k] by simp[ky],List.nodup_append]
  refine⟨nd,by simp,fun x hx y hy=>?_⟩
  rw[List.mem_singleton.mp hy]
  intro e
  obtain⟨q,hq,e2⟩:=List.mem_map.mp hx
  exact h (List.any_eq_true.mpr ⟨q,hq,by simpa using e2.trans e⟩)
theorem zAs:∀ {l ks:List D},l.Nodup->(∀ x∈l,x∈ks)->l.length <= ks.length
 | [],_,_,_=>Nat.zero_le _
 | x::l,ks,nd,h=>by
  rw[List.nodup_cons] at nd
  have hx:=h x List.mem_cons_self
  have:=zAs (l:=l) (ks:=ks.erase x) nd.2 fun y hy=>by
   have ne:y≠x:=fun e=>nd.1 (by rw[<- e];exact hy)
   exact (List.mem_erase_of_ne ne).mpr (h y (List.mem_cons_of_mem _ hy))
  rw[List.length_erase_of_mem hx] at this
  have p:0 < ks.length:=List.length_pos_of_mem hx
  rw[List.length_cons]
  omega
theorem zHP (k:D):∀ (Q:List D) (m:Nat),Q.Nodup->(Q.filter fun x=>decide (x≠k)).take m=((Q.take (m+1)).filter fun x=>decide (x≠k)).take m:=by
 intro Q
 induction Q with
 | nil=>intro m _;simp
 | cons q Q ih =>
  intro m nd
  rw[List.nodup_cons] at nd
  by_cases h:q=k
  ·subst h
   have e:∀ l:List D,q∉l->(l.filter fun x=>decide (x≠q))=l:=fun l hl=>List.filter_eq_self.mpr fun x hx=>decide_eq_true fun z=>hl (z ▸ hx)
   rw[List.take_succ_cons,List.filter_cons_of_neg (by simp),List.filter_cons_of_neg (by simp),e Q nd.1,e _ fun z=>nd.1 (List.mem_of_mem_take z),List.take_take,Nat.min_self]
  ·rw[List.take_succ_cons,List.filter_cons_of_pos (by simpa using h),List.filter_cons_of_pos (by simpa using h)]
   cases m with
   | zero=>rfl
   | succ m=>rw[List.take_succ_cons,List.take_succ_cons,ih m nd.2]
theorem zEn (k:D) (L:List (D×D)):ky (zx k L)=(ky L).filter fun x=>decide (x≠k):=by
 unfold zx
 rw[List.filter_map]
 rfl
theorem zBT {p:Nat->Prop} (h0:p 0) (h1:p 1):∀ a < 2,p a:=fun a ha=>by
 rcases (show a=0\/a=1 by omega) with rfl | rfl
 ·exact h0
 ·exact h1
noncomputable def two (x y:Int):Nat->Int:=fun a=>if a=0 then x else y
noncomputable def fup {α:Type} (f:Nat->α) (a:Nat) (x:α):Nat->α:=fun b=>if b=a then x else f b
theorem yV {α:Type} (f:Nat->α) (a:Nat) (x:α):fup f a x a=x:=if_pos rfl
theorem ZL {α:Type}{f:Nat->α}{a b:Nat}{x:α} (h:b≠a):fup f a x b=f b:=if_neg h
theorem zJN {s g:M.S} (h:clS s.length s=true) (hg:clS (s++g).length g=true):clS (s++g).length (s++g)=true:=by
 unfold clS at *
 rw[List.all_append,Bool.and_eq_true]
 exact⟨List.all_eq_true.mpr fun o ho=>O.cl_mono (by simp) o (List.all_eq_true.mp h o ho),hg⟩
theorem zAZ {i:Nat}{e:EM}{σ:St}{s s':M.S}{d:D} (h:e σ s=.ok d s') (r:SM):(zk (jj i e) r) σ s=r (σ.set i (some d)) s':=by
 show ((e σ s).stm _ _).then _=_
 rw[h]
 rfl
theorem qS {a:SM}{σ σ':St}{s s':M.S} (h:a σ s=.nx σ' s') (r:SM):(zk a r) σ s=r σ' s':=by
 show (a σ s).then r=_
 rw[h]
 rfl
theorem zEy {t:TM}{a b:SM}{σ:St}{s s':M.S}{c:Bool} (h:t σ s=.ok c s'):(sIf t a b) σ s=if c=true then a σ s' else b σ s':=by
 show (t σ s).stm _ _=_
 rw[h]
 cases c<;>rfl
theorem zGK (a b c:SM) (σ:St) (s:M.S):(zk a (zk b c)) σ s=(zk (zk a b) c) σ s:=by
 show (a σ s).then _=((a σ s).then _).then _
 cases a σ s<;>rfl
theorem zBO {s:M.S}{i a:Nat}{f:Nat->D} (e:s[i]? = some (.lst [f 0,f 1])) (ha:a < 2):zV (.ref i) (.int a) s=.ok (f a) s:=by
 rcases (show a=0\/a=1 by omega) with rfl | rfl
 ·simp[e,at0]
 ·simp[e,at1]
noncomputable def nq (k:D) (Q:List D):List D:=k::Q.filter fun x=>decide (x≠k)
theorem zMK {k:D}{Q:List D} (nd:Q.Nodup):(nq k Q).Nodup:=by
 unfold nq
 rw[List.nodup_cons]
 exact⟨fun h=>by simp at h,nd.filter _⟩
theorem zGm {k x:D}{Q:List D} (h:x∈nq k Q):x=k\/(x∈Q/\x≠k):=by
 unfold nq at h
 rcases List.mem_cons.mp h with e | h
 ·exact .inl e
 ·have:=List.mem_filter.mp h
  exact .inr ⟨this.1,of_decide_eq_true this.2⟩
theorem zGS {Q:List D} (nd:Q.Nodup) (k:D) (b:Nat):((nq k Q).take b).reverse=(((((Q.take b).reverse.filter fun x=>decide (x≠k))++[k]).reverse).take b).reverse:=by
 congr 1
 rw[List.reverse_append,List.filter_reverse,List.reverse_reverse,List.reverse_singleton,List.singleton_append]
 cases b with
 | zero=>rfl
 | succ m=>unfold nq;rw[List.take_succ_cons,List.take_succ_cons,zHP k _ _ nd]
noncomputable def yE:SM :=
  (zk (yg (eM .dict QS (yL 5 1 (zA 0)) (zD (zA 1) (zD (eC .non) zO))))
  (zk (Zt (yL 5 1 (zA 0)) (zA 1) (zA 2))
  (sIf (je cGt (zX ya (zD (yL 5 1 (zA 0)) zO)) (yL 5 0 (zA 0)))
  (yg (eM .dict QS (yL 5 1 (zA 0)) (zD (eOp zV (zX zAu (zD (yL 5 1 (zA 0)) zO)) (eC (.int 0))) zO)))
  jo)))
noncomputable def zAL:F:=fn 3 yE
noncomputable def qb:F:=chO zAL
theorem zDL:jJ 3 zAL qb:=zDM _
noncomputable def laid (b:Int) (k t:D) (kvs:List (D×D)):List (D×D):=if ((zx k kvs++[(k,t)]).length:Int) > b then (zx k kvs++[(k,t)]).tail else zx k kvs++[(k,t)]
theorem zF7 {q:D×D}{r:List (D×D)} (nd:((q::r).map (·.1)).Nodup):zx q.1 (q::r)=r:=by
 unfold zx
 rw[List.map_cons,List.nodup_cons] at nd
 rw[List.filter_cons_of_neg (by simp)]
 exact List.filter_eq_self.mpr fun p hp=>decide_eq_true fun e=>nd.1 (e ▸ List.mem_map.mpr ⟨p,hp,rfl⟩)
theorem zJr {k t:D}{kvs:List (D×D)} (nd:(kvs.map (·.1)).Nodup):((zx k kvs++[(k,t)]).map (·.1)).Nodup:=by
 rw[List.map_append,List.nodup_append]
 refine⟨nd.sublist (List.Sublist.map _ List.filter_sublist),by simp,fun x hx y hy=>?_⟩
 obtain⟨p,hp,rfl⟩:=List.mem_map.mp hx
 have:=of_decide_eq_true (List.mem_filter.mp hp).2
 simp at hy
 rw[hy]
 exact this
theorem zKC {S:M.S}{p d:Nat}{b:Int}{kvs:List (D×D)} (h:Shf S p d b kvs) (cS:clS S.length S=true) {k t:D} (hk:kyT k=true) (ks:∀ q∈kvs,kyT q.1=true) (nd:(kvs.map (·.1)).Nodup) (hz:kvs.length < SZ)
  (c1:D.cl S.length k=true) (c2:D.cl S.length t=true):qb [.ref p,k,t] S=.ok .non (S.set d (.dtt (laid b k t kvs))):=by
 have pd:p≠d:=fun e=>by have:=h.ob;rw[e,h.di] at this;cases this
 have hz':(zx k kvs).length < SZ:=Nat.lt_of_le_of_lt (List.length_filter_le _ _) hz
 have ob:∀ o,(S.set d o)[p]? = some (.ins 5 [some (.int b),some (.ref d)]):=fun o=>by rw[List.getElem?_set_ne pd.symm];exact h.ob
 have di:∀ o,(S.set d o)[d]? = some o:=fun o=>ZU h.di o
 have e1:∃ v,(eM .dict QS (yL 5 1 (zA 0)) (zD (zA 1) (zD (eC .non) zO))) [some (.ref p),some k,some t] S=.ok v (S.set d (.dtt (zx k kvs))):=by
  cases hv:zy k kvs with
  | some v=>exact⟨v,by simp[h.ob,h.di,hk,hv]⟩
  | none =>
   refine⟨.non,?_⟩
   have:S.set d (.dtt (zx k kvs))=S:=by
    rw[Ji hv]
    exact List.ext_getElem? fun i=>by
     by_cases hi:d=i
     ·subst hi;rw[di,h.di]
     ·rw[List.getElem?_set_ne hi]
   rw[this]
   simp[h.ob,h.di,hk,hv]
 obtain⟨v,e1⟩:=e1
 have l0:(zx k kvs++[(k,t)])≠[]:=by simp
 have nl:=zJr (t:=t) (k:=k) nd
 have cl0:∀ q∈zx k kvs++[(k,t)],D.cl S.length q.1=true/\D.cl S.length q.2=true:=fun q hq=>by
  rcases List.mem_append.mp hq with h1 | h1
  ·exact zE5 cS h.di q (List.mem_filter.mp h1).1
  ·rw[List.mem_singleton.mp h1];exact⟨c1,c2⟩
 have kl:∀ q∈zx k kvs++[(k,t)],kyT q.1=true:=fun q hq=>by
  rcases List.mem_append.mp hq with h1 | h1
  ·exact ks q (List.mem_filter.mp h1).1
  ·rw[List.mem_singleton.mp h1];exact hk
 have yM:yE [some (.ref p),some k,some t] S=(sIf (je cGt (zX ya (zD (yL 5 1 (zA 0)) zO)) (yL 5 0 (zA 0)))
   (yg (eM .dict QS (yL 5 1 (zA 0)) (zD (eOp zV (zX zAu (zD (yL 5 1 (zA 0)) zO)) (eC (.int 0))) zO))) jo) [some (.ref p),some k,some t] (S.set d (.dtt (zx k kvs++[(k,t)]))):=by
  have a1:(yg (eM .dict QS (yL 5 1 (zA 0)) (zD (zA 1) (zD (eC .non) zO)))) [some (.ref p),some k,some t] S=.nx [some (.ref p),some k,some t] (S.set d (.dtt (zx k kvs))):=by
   show ((eM _ _ _ _ _ _).stm _ _)=_
   rw[e1];rfl
  have a2:(Zt (yL 5 1 (zA 0)) (zA 1) (zA 2)) [some (.ref p),some k,some t] (S.set d (.dtt (zx k kvs)))=.nx [some (.ref p),some k,some t] (S.set d (.dtt (zx k kvs++[(k,t)]))):=by
   simp[ob,di,hk,hz',zDl]
  show ((yg _ _ _).then _)=_
  rw[a1]
  show ((Zt _ _ _ _ _).then _)=_
  rw[a2]
  rfl
 generalize hl:zx k kvs++[(k,t)]=l at *
 by_cases hb:(l.length:Int) > b
 ·obtain⟨q,r,rfl⟩:∃ q r,l=q::r:=by cases l with | nil=>exact absurd rfl l0 | cons q r=>exact⟨q,r,rfl⟩
  have q1:zy q.1 (q::r)=some q.2:=by unfold zy;obtain⟨x,y⟩:=q;simp[List.lookup_cons]
  have q2:=zF7 nl
  have lw:laid b k t kvs=r:=by unfold laid;rw[hl,if_pos hb];rfl
  have q3:=kl q List.mem_cons_self
  rw[lw]
  refine Qt (g:=[.lst ((q::r).map (·.1))]) ?_ (by simp) (QO cS (zAw fun x hx=>cl0 x (List.mem_cons_of_mem _ hx))) rfl
  show (yE ([some (.ref p),some k,some t]) S).out=_
  rw[yM]
  have f2:(S.set d (.dtt (q::r))++[O.lst (q.1::r.map (·.1))])[d]? = some (.dtt (q::r)):=qN (di _) _
  have f3:=zBs (di (.dtt (q::r))) (.dtt r) [O.lst (q.1::r.map (·.1))]
  rw[List.set_set] at f3
  have f4:(S.set d (.dtt (q::r))++[O.lst (q.1::r.map (·.1))])[S.length]? = some (O.lst (q.1::r.map (·.1))):=by
   rw[List.getElem?_append_right (by simp)];simp
  have hb':b < (r.length:Int)+1:=by simpa using hb
  simp[ob,di,hb',f2,f3,f4,at0,q1,q2,q3]
 ·have lw:laid b k t kvs=l:=by unfold laid;rw[hl,if_neg hb]
  rw[lw]
  refine Qt (g:=[]) ?_ (by simp) (QO cS (zAw cl0)) rfl
  show (yE ([some (.ref p),some k,some t]) S).out=_
  rw[yM]
  have hb':l.length <= b:=by omega
  simp[ob,di,hb,hb']
theorem zKZ {b:Int}{Q:List D}{L:List (D×D)} (h0:0 <= b) (nd:Q.Nodup) (h:ky L=(Q.take b.toNat).reverse) (k t:D):ky (laid b k t L)=((nq k Q).take b.toNat).reverse:=by
 have zl:(ky L).length <= b.toNat:=by rw[h,List.length_reverse];exact List.length_take_le _ _
 rw[zGS nd,<- h,<- zEn]
 have e:ky (zx k L)++[k]=ky (zx k L++[(k,t)]):=by simp[ky]
 have z2:(zx k L).length <= L.length:=List.length_filter_le _ _
 rw[e]
 unfold laid
 split
 ·rename_i hb
  have hb':(zx k L++[(k,t)]).length=b.toNat+1:=by simp at hb zl ⊢;omega
  generalize zx k L++[(k,t)]=X at *
  cases X with
  | nil=>cases hb'
  | cons x X =>
   have l:(ky X).length=b.toNat:=by simpa [ky] using hb'
   show ky X=((((x.1::ky X).reverse).take _).reverse)
   rw[List.reverse_cons,List.take_append_of_le_length (by simp[l]),List.take_of_length_le (by simp[l]),List.reverse_reverse]
 ·rename_i hb
  rw[List.take_of_length_le,List.reverse_reverse]
  simp at hb ⊢
  omega
noncomputable def ZP:SM :=
  (zk (jj 1 (ym (zD (eC (.int 0)) (zD (eC (.str [])) (zD (ZY zO) (zD (ZY (zD (eC .non) zO)) (zD (eC (.str [78,111,110,101])) (zD (ZY (zD (eC (.str [116,101,120,116])) (zD (eC (.str [])) zO))) (zD (eOp z9 (eOp jO (zA 0) (eC (.int 8))) (eC (.int 1000))) (zD (ZY (zD (eC (.str [102,97,105,108,115])) (zD (zX zE8 (zD (eOp z9 (eOp jO (zA 0) (eC (.int 8))) (eC (.int 7))) zO)) zO))) zO))))))))))
  (jX (eOp zV (zA 1) (eOp z9 (zA 0) (eC (.int 8))))))
noncomputable def QL:F:=fn 2 ZP
noncomputable def Z1 (c:Int):D:=([.int 0,.str [],.tup [],.tup [.non],.str [78,111,110,101],.tup [.str [116,101,120,116],.str []],.int (c / 8 % 1000),.tup [.str [102,97,105,108,115],.str (Qz (c / 8 % 7))]]:List D).getD (c % 8).toNat .non
noncomputable def qH:F:=chS QL
theorem zCV:jJ 1 QL qH:=Zh _
theorem zAh (c:Int):kyD 2 (Z1 c)=true:=by
 have v:c % 8=0\/c % 8=1\/c % 8=2\/c % 8=3\/c % 8=4\/c % 8=5\/c % 8=6\/c % 8=7:=by omega
 unfold Z1
 rcases v with v | v | v | v | v | v | v | v<;>rw[v]<;>rfl
theorem zHL (c:Int) (s:M.S):qH [.int c] s=.ok (Z1 c) s:=by
 have v:c % 8=0\/c % 8=1\/c % 8=2\/c % 8=3\/c % 8=4\/c % 8=5\/c % 8=6\/c % 8=7:=by omega
 have sn:qe (c / 8 % 7)=true:=by unfold qe;simp;omega
 have ts:∀ n:Nat,n <= 2000->n <= SZ:=sz5
 refine ZH (g:=[.lst [.int 0,.str [],.tup [],.tup [.non],.str [78,111,110,101],.tup [.str [116,101,120,116],.str []],.int (c / 8 % 1000),.tup [.str [102,97,105,108,115],.str (Qz (c / 8 % 7))]]]) ?_ (QQ _ (zAh c))
 have at5:∀ (a b c d e f:D) (l:List D),atI (a::b::c::d::e::f::l) 5=some f:=fun a b c d e f l=>JO _ 5 _ rfl
 have at6:∀ (a b c d e f g:D) (l:List D),atI (a::b::c::d::e::f::g::l) 6=some g:=fun a b c d e f g l=>JO _ 6 _ rfl
 have at7:∀ (a b c d e f g h:D) (l:List D),atI (a::b::c::d::e::f::g::h::l) 7=some h:=fun a b c d e f g h l=>JO _ 7 _ rfl
 unfold Z1
 rcases v with v | v | v | v | v | v | v | v<;>simp[QL,ZP,v,sn,sz0,sz5,at0,at1,at2,at3,at4,at5,at6,at7]
mutual
theorem P.eqv_refl:∀ p:P,P.eqv p p=true
 | .non=>by simp[P.eqv]
 | .bl b=>by simp[P.eqv]
 | .int i=>by simp[P.eqv]
 | .str x=>by simp[P.eqv]
 | .tup ps=>by simp[P.eqv,P.eqvs_refl ps]
 | .lst ps=>by simp[P.eqv,P.eqvs_refl ps]
theorem P.eqvs_refl:∀ ps:List P,P.eqvs ps ps=true
 | []=>by simp[P.eqvs]
 | p::ps=>by simp[P.eqvs,P.eqv_refl p,P.eqvs_refl ps]
end
theorem zM3 (g:Nat->Option P):∀ (n:Nat) (d:D),kyD n d=true->∃ p,qc g d=some p/\P.dep p <= n:=by
 intro n
 induction n with
 | zero=>intro d h;cases d<;>first | exact⟨_,rfl,by simp[P.dep]⟩ | cases h
 | succ n ih =>
  intro d h
  cases d with
  | tup ds =>
   have h':ds.all (kyD n)=true:=h
   have:∀ ds:List D,ds.all (kyD n)=true->∃ ps,qc.all g ds=some ps/\P.deps ps <= n:=by
    intro ds
    induction ds with
    | nil=>exact fun _=>⟨[],rfl,by simp[P.deps]⟩
    | cons d ds ih2 =>
     intro h
     rw[List.all_cons,Bool.and_eq_true] at h
     obtain⟨p,e1,d1⟩:=ih d h.1
     obtain⟨ps,e2,d2⟩:=ih2 h.2
     refine⟨p::ps,by simp[qc.all,e1,e2],?_⟩
     simp only[P.deps]
     omega
   obtain⟨ps,e,dp⟩:=this ds h'
   exact⟨.tup ps,by simp[qc,e],by simp only[P.dep];omega⟩
  | _=>first | exact⟨_,rfl,by simp[P.dep]⟩ | cases h
theorem zH2 {d:D} (h:kyD 7 d=true) (s:M.S):eqD d d s=.ok true s:=by
 obtain⟨p,e,dp⟩:=zM3 (fun i=>match jV s i with | some xs=>(qc.all (fun j=>toP 8 s (.ref j)) xs).map .lst | none=>none) 7 d h
 have e':toP JW s d=some p:=e
 cases d with
 | tup ds =>
  have:P.dep p <= 64:=by omega
  simp[e',P.eqv_refl,this]
 | non=>rfl
 | int i=>simp
 | str x=>simp
 | _=>cases h
theorem zHk (c:Int):Z1 c≠.non:=by
 have v:c % 8=0\/c % 8=1\/c % 8=2\/c % 8=3\/c % 8=4\/c % 8=5\/c % 8=6\/c % 8=7:=by omega
 unfold Z1
 rcases v with v | v | v | v | v | v | v | v<;>rw[v]<;>simp
noncomputable def qq:SM :=
  (sIf (je Z0 (zA 1) (yL 5 1 (zA 0)))
  (jX (eC .non))
  jo)
noncomputable def yk:SM :=
  (jj 2 (eM .dict QS (yL 5 1 (zA 0)) (zD (zA 1) zO)))
noncomputable def yc:SM :=
  (Zt (yL 5 1 (zA 0)) (zA 1) (zA 2))
noncomputable def yZ:SM :=
  (jX (zA 2))
noncomputable def yN:SM:=(zk qq (zk yk (zk yc yZ)))
noncomputable def ZR:F:=fn 3 yN
noncomputable def qI:F:=chO ZR
theorem zCW:jJ 2 ZR qI:=zDM _
theorem zG1 {S:M.S}{p d:Nat}{b:Int}{kvs:List (D×D)} (h:Shf S p d b kvs) (cS:clS S.length S=true) {k:D} (hk:kyT k=true) (hn:zy k kvs=none):qI [.ref p,k] S=.ok .non S:=by
 refine Qt (g:=[]) ?_ rfl cS rfl
 simp[ZR,yN,qq,h.ob,h.di,hk,hn]
theorem zFj {S:M.S}{p d:Nat}{b:Int}{kvs:List (D×D)} (h:Shf S p d b kvs) (cS:clS S.length S=true) {k v:D} (hk:kyT k=true) (hv:zy k kvs=some v) (hz:kvs.length < SZ)
  (c1:D.cl S.length k=true) (c2:D.cl S.length v=true):qI [.ref p,k] S=.ok v (S.set d (.dtt (zx k kvs++[(k,v)]))):=by
 have pd:p≠d:=fun e=>by have:=h.ob;rw[e,h.di] at this;cases this
 have hz':(zx k kvs).length < SZ:=Nat.lt_of_le_of_lt (List.length_filter_le _ _) hz
 have e1:=ZU h.di (.dtt (zx k kvs))
 have e2:(S.set d (.dtt (zx k kvs)))[p]? = some (.ins 5 [some (.int b),some (.ref d)]):=by rw[List.getElem?_set_ne pd.symm];exact h.ob
 refine Qt (g:=[]) ?_ (by simp) (QO cS ?_) c2
 ·simp[ZR,yN,qq,yk,yc,yZ,h.ob,h.di,hk,hv,e1,e2,hz',zDl]
 ·refine zAw fun q hq=>?_
  rcases List.mem_append.mp hq with h1 | h1
  ·exact zE5 cS h.di q (List.mem_filter.mp h1).1
  ·rw[List.mem_singleton.mp h1];exact⟨c1,c2⟩
noncomputable def qJ (k:D) (kvs:List (D×D)):List (D×D):=match zy k kvs with
 | some v=>zx k kvs++[(k,v)]
 | none=>kvs
theorem zJW {S:M.S}{p d:Nat}{b:Int}{kvs:List (D×D)} (h:Shf S p d b kvs) (cS:clS S.length S=true) {k:D} (hk:kyT k=true) (hz:kvs.length < SZ):qI [.ref p,k] S=.ok ((zy k kvs).getD .non) (S.set d (.dtt (qJ k kvs))):=by
 unfold qJ
 cases hv:zy k kvs with
 | none=>rw[zG1 h cS hk hv];show _=R.ok D.non (S.set d (.dtt kvs));rw[Zj h.di]
 | some v =>
  have m:=zE5 cS h.di _ (Qv hv)
  rw[zFj h cS hk hv hz m.1 m.2]
  rfl
theorem zEu {L:List (D×D)}{k:D} (hk:k∉ky L):qJ k L=L:=by
 unfold qJ
 rw[zAg hk]
theorem zHX {b:Int}{Q:List D}{L:List (D×D)} (nd:Q.Nodup) (h:ky L=(Q.take b.toNat).reverse) {k:D} (hk:k∈ky L):ky (qJ k L)=((nq k Q).take b.toNat).reverse:=by
 have zl:(ky L).length <= b.toNat:=by rw[h,List.length_reverse];exact List.length_take_le _ _
 have ndl:(ky L).Nodup:=by rw[h];exact List.pairwise_reverse.mpr ((nd.sublist (List.take_sublist _ _)).imp fun h=>h.symm)
 obtain⟨⟨q1,v⟩,hq,rfl⟩:=List.mem_map.mp hk
 rw[zGS nd,<- h,<- zEn]
 unfold qJ
 rw[zAa ndl hq]
 show ky (zx q1 L++[(q1,v)])=_
 have e:ky (zx q1 L)++[q1]=ky (zx q1 L++[(q1,v)]):=by simp[ky]
 rw[e]
 have z2:(zx q1 L).length < L.length:=by
  unfold zx
  exact List.length_filter_lt_length_iff_exists.mpr ⟨_,hq,by simp⟩
 rw[List.take_of_length_le,List.reverse_reverse]
 simp at zl ⊢
 omega
noncomputable def ZT:SM :=
  (zk (sIf (je Z0 (zA 1) (zA 0))
  (jX (eC (.bl false)))
  jo)
  (zAx 0 (jX (Js cLt (zX ya (zD (Zb 1 (ZM (zA 0)) (zt 3) (je cGt (eOp zV (eOp zV (zA 0) (zA 3)) (eC (.int 0))) (eOp zV (eOp zV (zA 0) (zA 1)) (eC (.int 0)))) (zA 3)) zO)) (zA 2)))))
noncomputable def ZN:F:=fn 3 ZT
noncomputable def nw (W:List (D×D)) (k:D):Int:=match zy k W with
 | some (.tup [.int n,_])=>n
 | _=>0
noncomputable def zKm (p:D×D):Prop:=qG p.1/\∃ n t,p.2=.tup [.int n,t]/\kyD 2 t=true/\t≠.non
structure SI (ks:List D) (b:Int) (L W:List (D×D)) (Q:List D) (m:Int) (Dn E:List D):Prop where
 b0:0 <= b
 q1:ky L=(Q.take b.toNat).reverse
 nq:Q.Nodup
 nW:(ky W).Nodup
 q3:∀ k,k∈ky W↔k∈Q
 q4:∀ p∈W,zKm p
 q5:Q.Pairwise fun x y=>nw W y <= nw W x/\(nw W y=nw W x->y∈Dn)
 q6:∀ x∈Q,nw W x <= m/\(nw W x=m->x∈E)
 q7:∀ q∈L,∃ n,zy q.1 W=some (.tup [.int n,q.2])
 q8:∀ x∈Q,x∈ks
theorem SI.nL {ks:List D}{b:Int}{L W:List (D×D)}{Q:List D}{m:Int}{Dn E:List D} (h:SI ks b L W Q m Dn E):(ky L).Nodup:=by
 rw[h.q1];exact List.pairwise_reverse.mpr ((h.nq.sublist (List.take_sublist _ _)).imp fun h=>h.symm)
theorem SI.use {ks:List D}{b:Int}{L W:List (D×D)}{Q:List D}{m:Int}{Dn E:List D} (h:SI ks b L W Q m Dn E) {k:D} (hk:k∈Q):∃ t,zy k W=some (.tup [.int (nw W k),t])/\kyD 2 t=true/\t≠.non:=by
 obtain⟨⟨q1,q2⟩,hq,rfl⟩:=List.mem_map.mp ((h.q3 k).mpr hk)
 obtain⟨_,n,t,e,t2,tn⟩:=h.q4 _ hq
 have g:=zAa h.nW hq
 have e':q2=.tup [.int n,t]:=e
 rw[e'] at g
 refine⟨t,?_,t2,tn⟩
 have:nw W q1=n:=by unfold nw;rw[g]
 show zy q1 W=_
 rw[this]
 exact g
theorem SI.count {ks:List D}{b:Int}{L W:List (D×D)}{Q:List D}{m:Int}{Dn E:List D} (h:SI ks b L W Q m Dn E) {k:D} (hk:k∈Q) (hd:k∉Dn):((ky W).filter fun x=>decide (nw W k < nw W x)).length < b.toNat↔k∈ky L:=by
 obtain⟨X,Y,e⟩:=List.append_of_mem hk
 have p5:=h.q5
 have nq:=h.nq
 rw[e] at p5 nq
 rw[List.pairwise_append] at p5
 have hX:∀ x∈X,nw W k < nw W x:=fun x hx=>by
  obtain⟨z1,z2⟩:=p5.2.2 x hx k List.mem_cons_self
  have:nw W k≠nw W x:=fun q=>hd (z2 q)
  omega
 have hY:∀ y∈k::Y,¬ nw W k < nw W y:=fun y hy=>by
  rcases List.mem_cons.mp hy with rfl | hy
  ·omega
  ·have:=(List.rel_of_pairwise_cons p5.2.1 hy).1
   omega
 have fe:(Q.filter fun x=>decide (nw W k < nw W x))=X:=by
  rw[e,List.filter_append,List.filter_eq_self.mpr fun x hx=>decide_eq_true (hX x hx),List.filter_eq_nil_iff.mpr fun y hy=>by simpa using hY y hy,List.append_nil]
 have le:((ky W).filter fun x=>decide (nw W k < nw W x)).length=X.length:=by
  rw[<- fe]
  refine Nat.le_antisymm (zAs (h.nW.filter _) fun x hx=>?_) (zAs (h.nq.filter _) fun x hx=>?_)
  ·have:=List.mem_filter.mp hx
   exact List.mem_filter.mpr ⟨(h.q3 x).mp this.1,this.2⟩
  ·have:=List.mem_filter.mp hx
   exact List.mem_filter.mpr ⟨(h.q3 x).mpr this.1,this.2⟩
 rw[le,h.q1,List.mem_reverse,e]
 rw[List.nodup_append] at nq
 constructor
 ·intro z
  obtain⟨j,hj⟩:∃ j,b.toNat - X.length=j+1:=⟨b.toNat - X.length - 1,by omega⟩
  rw[List.take_append,hj,List.take_succ_cons]
  simp
 ·intro z
  refine Nat.lt_of_not_le fun w=>?_
  have:b.toNat - X.length=0:=by omega
  rw[List.take_append,this,List.take_zero,List.append_nil] at z
  exact nq.2.2 k (List.mem_of_mem_take z) k List.mem_cons_self rfl
noncomputable def yQ:F:=chS ZN
theorem zCQ:jJ 3 ZN yQ:=Zh _
theorem zHw {ks:List D}{b:Int}{L W:List (D×D)}{Q:List D}{m:Int}{Dn E:List D} (h:SI ks b L W Q m Dn E) {S:M.S}{w:Nat} (hw:S[w]? = some (.dtt W)) {k:D} (kd:qG k) (hd:k∉Dn) (zW:W.length <= 1000) :
  yQ [.ref w,k,.int b] S=.ok (.bl (decide (k∈ky L))) S:=by
 have kt:=kd.t
 by_cases hk:k∈Q
 ·refine ZH (g:=[.lst ((ky W).filter fun x=>decide (nw W k < nw W x))]) ?_ rfl
  obtain⟨t,g,t2,tn⟩:=h.use hk
  have e1:(S.set w (.ftt W))[w]? = some (.ftt W):=ZU hw _
  have e2:∀ G,(S.set w (.ftt W)++G)[w]? = some (.ftt W):=fun G=>qN e1 G
  have it:ZM (zA 0) [some (.ref w),some k,some (.int b)] (S.set w (.ftt W))=.ok (ky W,[]) (S.set w (.ftt W)):=by simp[e1]
  have z1:(ky W).length <= SZ:=Nat.le_trans (by simpa using zW) (sz5 1000 (by omega))
  have c:=zDF (n:=1) (tg:=zt 3) (c:=je cGt (eOp zV (eOp zV (zA 0) (zA 3)) (eC (.int 0))) (eOp zV (eOp zV (zA 0) (zA 1)) (eC (.int 0)))) (e:=zA 3) (σ:=[some (.ref w),some k,some (.int b)]) (fun x=>decide (nw W k < nw W x)) id it z1 rfl fun x hx=>by
   have hxQ:=(h.q3 x).mp hx
   obtain⟨t',g',_⟩:=h.use hxQ
   obtain⟨q,hq,rfl⟩:=List.mem_map.mp hx
   have kx:=(h.q4 q hq).1.t
   generalize nw W q.1=n1 at *
   generalize nw W k=n2 at *
   by_cases z:n2 < n1<;>simp[e1,kt,kx,g,g',at0,z]
  rw[List.map_id] at c
  obtain⟨F,eF⟩:∃ F,F=(ky W).filter fun x=>decide (nw W k < nw W x):=⟨_,rfl⟩
  rw[<- eF] at c ⊢
  have cn:decide ((F.length:Int) < b)=decide (k∈ky L):=by
   have:=h.count hk hd
   rw[<- eF] at this
   have b0:=h.b0
   refine decide_eq_decide.mpr ⟨fun z=>this.mp (by omega),fun z=>by have:=this.mpr z;omega⟩
  have i1:(je Z0 (zA 1) (zA 0)) [some (.ref w),some k,some (.int b)] S=.ok false S:=by simp[hw,kt,g]
  have ef:(S.set w (.ftt W)++[O.lst F])[S.length]? = some (.lst F):=by rw[List.getElem?_append_right (by simp)];simp
  have r:(jX (Js cLt (zX ya (zD (Zb 1 (ZM (zA 0)) (zt 3) (je cGt (eOp zV (eOp zV (zA 0) (zA 3)) (eC (.int 0))) (eOp zV (eOp zV (zA 0) (zA 1)) (eC (.int 0)))) (zA 3)) zO)) (zA 2))) [some (.ref w),some k,some (.int b)] (S.set w (.ftt W))=.rt (.bl (decide (k∈ky L))) (S.set w (.ftt W)++[.lst F]):=by
   have ce:(Zb 1 (ZM (zA 0)) (zt 3) (je cGt (eOp zV (eOp zV (zA 0) (zA 3)) (eC (.int 0))) (eOp zV (eOp zV (zA 0) (zA 1)) (eC (.int 0)))) (zA 3)) [some (.ref w),some k,some (.int b)] (S.set w (.ftt W))=.ok (.ref S.length) (S.set w (.ftt W)++[.lst F]):=by
    show (yl 1 (ZM (zA 0)) (zt 3) _ _ _ _).bind _=_
    rw[c]
    simp
   generalize (Zb 1 (ZM (zA 0)) (zt 3) (je cGt (eOp zV (eOp zV (zA 0) (zA 3)) (eC (.int 0))) (eOp zV (eOp zV (zA 0) (zA 1)) (eC (.int 0)))) (zA 3))=ec at ce ⊢
   rw[<- cn]
   simp[ce,ef]
  have st:ZN [.ref w,k,.int b] S=((zk (sIf (je Z0 (zA 1) (zA 0)) (jX (eC (.bl false))) jo) (zAx 0 (jX (Js cLt (zX ya (zD (Zb 1 (ZM (zA 0)) (zt 3) (je cGt (eOp zV (eOp zV (zA 0) (zA 3)) (eC (.int 0))) (eOp zV (eOp zV (zA 0) (zA 1)) (eC (.int 0)))) (zA 3)) zO)) (zA 2))))) [some (.ref w),some k,some (.int b)] S).out:=rfl
  rw[st]
  have s1:(sIf (je Z0 (zA 1) (zA 0)) (jX (eC (.bl false))) jo) [some (.ref w),some k,some (.int b)] S=.nx [some (.ref w),some k,some (.int b)] S:=by rw[zEy i1];rfl
  rw[qS s1]
  have fz:∀ (x:SM),(zAx 0 x) [some (.ref w),some k,some (.int b)] S=zCl w (.ftt W) (.dtt W) (x [some (.ref w),some k,some (.int b)] (S.set w (.ftt W))):=fun x=>by
   show (match S[w]? with | some (.dtt kvs)=>_ | _=>_)=_
   rw[hw]
  rw[fz,r]
  show (if (S.set w (.ftt W)++[O.lst F])[w]? = some (.ftt W) then _ else _:RS).out=_
  rw[if_pos (e2 _),zBs e1,List.set_set,Zj hw]
  rfl
 ·refine ZH (g:=[]) ?_ rfl
  have nW:k∉ky W:=fun z=>hk ((h.q3 k).mp z)
  have nL:k∉ky L:=fun z=>by
   rw[h.q1,List.mem_reverse] at z
   exact hk (List.mem_of_mem_take z)
  rw[decide_eq_false nL]
  simp[ZN,ZT,hw,kt,zAg nW]
noncomputable def qW:SM :=
  (jj 5 (zAF 5 qI (zA 0) (zD (zA 2) zO)))
noncomputable def jd:SM :=
  (sIf (QP (QJ (zX yQ (zD (zA 1) (zD (zA 2) (zD (zA 3) zO))))))
  (jX (zHz (zA 5)))
  jo)
noncomputable def qX:SM :=
  (sIf (tOr (zDi (zA 5)) (tOr (je cNe (zA 5) (eOp zV (eOp zV (zA 1) (zA 2)) (eC (.int 1)))) (QJ (zX JG (zD (zA 5) (zD (eC (.ty .bool)) zO))))))
  (jX (eC (.bl false)))
  jo)
noncomputable def qR:SM :=
  (Zt (zA 1) (zA 2) (ZY (zD (zA 4) (zD (zA 5) zO))))
noncomputable def ZQ:SM :=
  (jX (eC (.bl true)))
noncomputable def qO:SM:=(zk qW (zk jd (zk qX (zk qR ZQ))))
noncomputable def Zq:F:=fn 6 qO
theorem zGE {k:D}{W:List (D×D)}:k∈ky W↔zy k W≠none:=by
 constructor
 ·intro h e
  have:=Ji e
  obtain⟨q,hq,rfl⟩:=List.mem_map.mp h
  rw[<- this] at hq
  exact (JT.mp hq).2 rfl
 ·intro h
  cases e:zy k W with
  | none=>exact absurd e h
  | some v=>exact List.mem_map.mpr ⟨_,Qv e,rfl⟩
theorem Jn (W:List (D×D)) (k t x:D) (m:Int):nw (qa k (.tup [.int m,t]) W) x=if x=k then m else nw W x:=by
 unfold nw
 rw[zBl]
 by_cases h:x=k
 ·rw[if_pos h,if_pos h]
 ·rw[if_neg h,if_neg h]
section
variable {ks:List D}{b:Int}{L W:List (D×D)}{Q:List D}{m:Int}{Dn E:List D}
theorem SI.mono (h:SI ks b L W Q m Dn E) {Dn' E':List D} (d:∀ x∈Dn,x∈Dn') (e:∀ x∈E,x∈E'):SI ks b L W Q m Dn' E' :=
 ⟨h.b0,h.q1,h.nq,h.nW,h.q3,h.q4,h.q5.imp fun z=>⟨z.1,fun q=>d _ (z.2 q)⟩,fun x hx=>⟨(h.q6 x hx).1,fun q=>e x ((h.q6 x hx).2 q)⟩,h.q7,h.q8⟩
theorem SI.next (h:SI ks b L W Q m Dn E) {m':Int} (l:m < m'):SI ks b L W Q m' Dn [] :=
 ⟨h.b0,h.q1,h.nq,h.nW,h.q3,h.q4,h.q5,fun x hx=>by have:=(h.q6 x hx).1;exact⟨by omega,fun q=>by omega⟩,h.q7,h.q8⟩
theorem SI.pr (h:SI ks b L W Q m Dn E):PrD L:=fun q hq=>by
 obtain⟨n,g⟩:=h.q7 q hq
 obtain⟨k,n',t,e,t2,tn⟩:=h.q4 _ (Qv g)
 have e':D.tup [.int n,q.2]=.tup [.int n',t]:=e
 injection e' with e'
 injection e' with _ e'
 injection e' with e' _
 rw[e']
 exact⟨k,t2,tn⟩
theorem SI.step (h:SI ks b L W Q m Dn E) {k t:D} (hE:∀ x∈E,x=k\/x∈Dn) (kd:qG k) (hk:k∈ks) (t2:kyD 2 t=true) (tn:t≠.non) {L':List (D×D)} (hL:ky L'=((M.nq k Q).take b.toNat).reverse) (hm:∀ q∈L',(q∈L/\q.1≠k)\/q=(k,t)) :
  SI ks b L' (qa k (.tup [.int m,t]) W) (M.nq k Q) m Dn (k::Dn):=by
 refine⟨h.b0,hL,zMK h.nq,zBA h.nW,fun x=>?_,fun p hp=>?_,?_,fun x hx=>?_,fun q hq=>?_,fun x hx=>?_⟩
 ·rw[zGE,zBl]
  by_cases e:x=k
  ·simp[e,M.nq]
  ·rw[if_neg e,<- zGE,h.q3]
   unfold M.nq
   simp[e]
 ·rcases zIu hp with z | rfl
  ·exact h.q4 p z
  ·exact⟨kd,m,t,rfl,t2,tn⟩
 ·unfold M.nq
  rw[List.pairwise_cons]
  refine⟨fun y hy=>?_,?_⟩
  ·have:=List.mem_filter.mp hy
   have ny:y≠k:=of_decide_eq_true this.2
   rw[Jn,Jn,if_neg ny,if_pos rfl]
   obtain⟨z1,z2⟩:=h.q6 y this.1
   exact⟨z1,fun q=>(hE y (z2 q)).resolve_left ny⟩
  ·refine List.Pairwise.imp_of_mem ?_ (h.q5.filter _)
   intro x y hx hy z
   have nx:x≠k:=of_decide_eq_true (List.mem_filter.mp hx).2
   have ny:y≠k:=of_decide_eq_true (List.mem_filter.mp hy).2
   rw[Jn,Jn,if_neg nx,if_neg ny]
   exact z
 ·rw[Jn]
  rcases zGm hx with rfl | ⟨z,n⟩
  ·rw[if_pos rfl];exact⟨Int.le_refl _,fun _=>List.mem_cons_self⟩
  ·rw[if_neg n]
   obtain⟨z1,z2⟩:=h.q6 x z
   exact⟨z1,fun q=>List.mem_cons_of_mem _ ((hE x (z2 q)).resolve_left n)⟩
 ·rw[zBl]
  rcases hm q hq with ⟨z,n⟩ | rfl
  ·rw[if_neg n];exact h.q7 q z
  ·rw[if_pos rfl];exact⟨m,rfl⟩
 ·rcases zGm hx with rfl | ⟨z,_⟩
  ·exact hk
  ·exact h.q8 x z
theorem SI.lay (h:SI ks b L W Q m Dn E) {k t:D} (hE:∀ x∈E,x=k\/x∈Dn) (kd:qG k) (hk:k∈ks) (t2:kyD 2 t=true) (tn:t≠.non):SI ks b (laid b k t L) (qa k (.tup [.int m,t]) W) (M.nq k Q) m Dn (k::Dn):=by
 refine h.step hE kd hk t2 tn (zKZ h.b0 h.nq h.q1 k t) fun q hq=>?_
 have:q∈zx k L++[(k,t)]:=by
  unfold laid at hq
  split at hq
  ·exact List.mem_of_mem_tail hq
  ·exact hq
 rcases List.mem_append.mp this with z | z
 ·exact .inl (JT.mp z)
 ·exact .inr (List.mem_singleton.mp z)
theorem SI.zW (h:SI ks b L W Q m Dn E) (hk:ks.length <= 60):W.length <= 60:=by
 have:=zAs h.nW fun x hx=>h.q8 x ((h.q3 x).mp hx)
 simp at this
 omega
theorem SI.zL (h:SI ks b L W Q m Dn E) (hk:ks.length <= 60):L.length <= 60:=by
 have:=zAs h.nL (ks:=ks) fun x hx=>by
  rw[h.q1,List.mem_reverse] at hx
  exact h.q8 x (List.mem_of_mem_take hx)
 simp at this
 omega
noncomputable def qD:F:=chO Zq
theorem zBy:jJ 5 Zq qD:=zDM _
theorem zGY {W:List (D×D)} (h:∀ p∈W,zKm p) (n:Nat):O.cl n (.dtt W)=true:=zAw fun p hp=>by
 obtain⟨k,i,t,e,t2,_⟩:=h p hp
 refine⟨k.cl n,?_⟩
 rw[e]
 show (true && (D.cl n t && true))=true
 rw[QQ n t2];rfl
theorem zF5 (h:SI ks b L W Q m Dn E) (hz:ks.length <= 60) {S:M.S}{p d w:Nat} (hs:Shf S p d b L) (hw:S[w]? = some (.dtt W)) (dw:d≠w) (cS:clS S.length S=true) {k:D} (kd:qG k) (hk:k∈ks) (hd:k∉Dn) (hE:∀ x∈E,x=k\/x∈Dn) :
  ∃ L' W' Q',qD [.ref p,.ref w,k,.int b,.int m] S=.ok (.bl true) ((S.set d (.dtt L')).set w (.dtt W'))/\SI ks b L' W' Q' m Dn (k::Dn):=by
 have zL:=h.zL hz
 have zW:=h.zW hz
 have kt:=kd.t
 have z1:L.length < SZ:=Nat.lt_of_lt_of_le (m:=2000) (by omega) (sz5 _ (Nat.le_refl _))
 have z2:W.length < SZ:=Nat.lt_of_lt_of_le (m:=2000) (by omega) (sz5 _ (Nat.le_refl _))
 have z3:2 <= SZ:=sz5 _ (by omega)
 have lo:=zJW hs cS kt z1
 have pw:p≠w:=fun e=>by have:=hs.ob;rw[e,hw] at this;cases this
 have w1:(S.set d (.dtt (qJ k L)))[w]? = some (.dtt W):=by rw[List.getElem?_set_ne dw];exact hw
 have th:=zHw h w1 kd hd (by omega)
 have a1:qW [some (.ref p),some (.ref w),some k,some (.int b),some (.int m),none] S=.nx [some (.ref p),some (.ref w),some k,some (.int b),some (.int m),some ((zy k L).getD .non)] (S.set d (.dtt (qJ k L))):=by
  simp[qW,hs.ob,lo]
 have st:Zq [.ref p,.ref w,k,.int b,.int m] S=(qO [some (.ref p),some (.ref w),some k,some (.int b),some (.int m),none] S).out:=rfl
 by_cases hl:k∈ky L
 ·rw[decide_eq_true hl] at th
  obtain⟨⟨q1,v⟩,hq,rfl⟩:=List.mem_map.mp hl
  have gv:=zAa h.nL hq
  obtain⟨n,gw⟩:=h.q7 _ hq
  have gw':zy q1 W=some (.tup [.int n,v]):=gw
  obtain⟨_,v2,vn⟩:=h.pr _ hq
  have v2':kyD 2 v=true:=v2
  have vn':v≠.non:=vn
  have eq:=fun s=>zH2 (d:=v) (J6 (by omega) v2') s
  have ne:∀ s,yC .bool v s=.ok false s:=fun s=>by
   cases v with
   | non=>exact absurd rfl vn'
   | int i=>rfl
   | str x=>rfl
   | tup ds=>rfl
   | _=>cases v2'
  rw[gv] at a1
  have s':=h.step (t:=v) hE kd hk v2' vn' (zHX h.nq h.q1 hl) fun q hq=>by
   have hq':q∈zx q1 L++[(q1,v)]:=by
    unfold qJ at hq
    rw[gv] at hq
    exact hq
   rcases List.mem_append.mp hq' with z | z
   ·exact .inl (JT.mp z)
   ·exact .inr (List.mem_singleton.mp z)
  refine⟨_,_,_,?_,s'⟩
  refine Qt (g:=[]) ?_ (by simp) (QO (QO cS (s'.pr.cl _)) (zGY s'.q4 _)) rfl
  rw[st,List.append_nil]
  unfold qO
  rw[qS a1]
  have a2:jd [some (.ref p),some (.ref w),some q1,some (.int b),some (.int m),some v] (S.set d (.dtt (qJ q1 L)))=.nx [some (.ref p),some (.ref w),some q1,some (.int b),some (.int m),some v] (S.set d (.dtt (qJ q1 L))):=by
   simp[jd,th]
  have a3:qX [some (.ref p),some (.ref w),some q1,some (.int b),some (.int m),some v] (S.set d (.dtt (qJ q1 L)))=.nx [some (.ref p),some (.ref w),some q1,some (.int b),some (.int m),some v] (S.set d (.dtt (qJ q1 L))):=by
   simp[-eqD,-yC,qX,w1,kt,gw',at1,eq,ne,vn']
  have a4:qR [some (.ref p),some (.ref w),some q1,some (.int b),some (.int m),some v] (S.set d (.dtt (qJ q1 L)))=.nx [some (.ref p),some (.ref w),some q1,some (.int b),some (.int m),some v] ((S.set d (.dtt (qJ q1 L))).set w (.dtt (qa q1 (.tup [.int m,v]) W))):=by
   simp[qR,w1,kt,z2,z3]
  show ((zk jd _) [some (.ref p),some (.ref w),some q1,some (.int b),some (.int m),some v] _).out=_
  rw[qS a2,qS a3,qS a4]
  rfl
 ·rw[decide_eq_false hl] at th
  have gn:=zAg hl
  rw[gn] at a1
  refine⟨L,W,Q,?_,h.mono (fun _ z=>z) fun x hx=>(hE x hx).elim (fun e=>e ▸ List.mem_cons_self) (List.mem_cons_of_mem _)⟩
  rw[Zj hs.di,Zj hw]
  refine Qt (g:=[]) ?_ rfl cS rfl
  rw[st,List.append_nil]
  unfold qO
  rw[qS a1]
  rw[zEu hl,Zj hs.di] at th ⊢
  have a2:jd [some (.ref p),some (.ref w),some k,some (.int b),some (.int m),some .non] S=.rt (.bl true) S:=by
   simp[jd,th]
  show ((jd [some (.ref p),some (.ref w),some k,some (.int b),some (.int m),some .non] S).then _).out=_
  rw[a2]
  rfl
end
noncomputable def Q5:SM :=
  (jj 1 (ym (zD (zX qh (zD (zX zr (zD (zA 0) (zD (eC (.int 0)) zO))) zO)) (zD (zX qh (zD (eOp jO (zX zr (zD (zA 0) (zD (eC (.int 0)) zO))) (eC (.int 123))) zO)) zO))))
noncomputable def Q8:SM :=
  (jj 2 (zX yt (zD (zX zr (zD (zA 0) (zD (eC (.int 1)) zO))) (zD (zX yr (zD (zX zr (zD (zA 0) (zD (eC (.int 2)) zO))) zO)) zO))))
noncomputable def Qu:SM :=
  (jj 3 (ym (zD (zCp 5 2 yB (zD (eOp zV (zA 1) (eC (.int 0))) zO)) (zD (zCp 5 2 yB (zD (eOp zV (zA 1) (eC (.int 1))) zO)) zO))))
noncomputable def Q6:SM :=
  (jj 4 (ym (zD Qr (zD Qr zO))))
noncomputable def Qs:SM :=
  (jj 5 (zX yT (zD (zA 0) zO)))
noncomputable def Jx:SM :=
  (q0 (zCj 0 (zA 5)) (JS (qd (zt 6) (qd (zt 7) JQ)))
  (zk (jj 8 (zX zDh (zD (Js cEq (eOp z9 (zA 7) (eC (.int 7))) (eC (.int 3))) zO)))
  (zk (jj 9 (eOp zV (zA 2) (eOp z9 (eOp jO (zA 7) (eC (.int 35))) (zX ya (zD (zA 2) zO)))))
  (zk (jj 10 (eOp z9 (eOp jO (zA 7) (eC (.int 7))) (eC (.int 5))))
  (zk (sIf (je cLt (zA 10) (eC (.int 3)))
  (zk (yg (zAF 5 qb (eOp zV (zA 3) (zA 8)) (zD (zA 9) (zD (zX qH (zD (eOp qM (eOp jO (zA 7) (eC (.int 35))) (zA 6)) zO)) zO))))
  (Zt (eOp zV (zA 4) (zA 8)) (zA 9) (ZY (zD (zA 6) (zD (zX qH (zD (eOp qM (eOp jO (zA 7) (eC (.int 35))) (zA 6)) zO)) zO)))))
  jo)
  (q0 (jf (eOp zV (ym (zD (eC (.int 0)) (zD (eC (.int 1)) (zD (eC (.int 2)) (zD (eC (.int 1)) (zD (eC (.int 2)) zO)))))) (zA 10))) (zt 11)
  (sIf (QP (QJ (zX qD (zD (eOp zV (zA 3) (zA 8)) (zD (eOp zV (zA 4) (zA 8)) (zD (zA 9) (zD (eOp zV (zA 1) (zA 8)) (zD (zA 6) zO))))))))
  (jX (eC (.bl false)))
  jo)))))))
noncomputable def zAC:SM :=
  (q0 (jf (eC (.int 2))) (zt 8)
  (q0 (iE (zA 2)) (zt 9)
  (sIf (QP (QJ (zX qD (zD (eOp zV (zA 3) (zA 8)) (zD (eOp zV (zA 4) (zA 8)) (zD (zA 9) (zD (eOp zV (zA 1) (zA 8)) (zD (zX ya (zD (zA 5) zO)) zO))))))))
  (jX (eC (.bl false)))
  jo)))
noncomputable def zB4:SM :=
  (jX (eC (.bl true)))
noncomputable def zBB:SM:=(zk Q5 (zk Q8 (zk Qu (zk Q6 (zk Qs (zk Jx (zk zAC zB4)))))))
noncomputable def zCq:F:=fn 12 zBB
structure UI (ks:List D) (ds:List D) (B:Nat->Int) (s:M.S) (L W:Nat->List (D×D)) (Q:Nat->List D) (m:Int) (Dn E:Nat->List D):Prop where
 b:s[0]? = some (.lst [.int (B 0),.int (B 1)])
 k:s[1]? = some (.lst ks)
 sh:s[6]? = some (.lst [.ref 2,.ref 4])
 us:s[9]? = some (.lst [.ref 7,.ref 8])
 d:s[10]? = some (.lst ds)
 ob:∀ a < 2,Shf s (2+2 * a) (3+2 * a) (B a) (L a)
 w:∀ a < 2,s[7+a]? = some (.dtt (W a))
 cl:clS s.length s=true
 ke:∀ x∈ks,qG x
 kz:ks.length <= 60
 si:∀ a < 2,SI ks (B a) (L a) (W a) (Q a) m (Dn a) (E a)
section
variable {ks:List D}{ds:List D}{B:Nat->Int}{s:M.S}{L W:Nat->List (D×D)}{Q:Nat->List D}{m:Int}{Dn E:Nat->List D}
theorem UI.app (h:UI ks ds B s L W Q m Dn E) {g:M.S} (hg:clS (s++g).length g=true):UI ks ds B (s++g) L W Q m Dn E :=
 ⟨qN h.b g,qN h.k g,qN h.sh g,qN h.us g,qN h.d g,fun a ha=>⟨qN (h.ob a ha).ob g,qN (h.ob a ha).di g⟩,fun a ha=>qN (h.w a ha) g,zJN h.cl hg,h.ke,h.kz,h.si⟩
theorem UI.next (h:UI ks ds B s L W Q m Dn E) {m':Int} (l:m < m'):UI ks ds B s L W Q m' Dn (fun _=>[]):=⟨h.b,h.k,h.sh,h.us,h.d,h.ob,h.w,h.cl,h.ke,h.kz,fun a ha=>(h.si a ha).next l⟩
theorem UI.setD (h:UI ks ds B s L W Q m Dn E) {a:Nat} (ha:a < 2) {l w:List (D×D)}{q dn e:List D} (z:SI ks (B a) l w q m dn e) :
  UI ks ds B ((s.set (3+2 * a) (.dtt l)).set (7+a) (.dtt w)) (fup L a l) (fup W a w) (fup Q a q) m (fup Dn a dn) (fup E a e):=by
 have g:∀ {i:Nat}{o:O},i≠3+2 * a->i≠7+a->s[i]? = some o->((s.set (3+2 * a) (O.dtt l)).set (7+a) (.dtt w))[i]? = some o:=fun {i o} n1 n2 e=>by
  rw[List.getElem?_set_ne (Ne.symm n2),List.getElem?_set_ne (Ne.symm n1)];exact e
 refine⟨g (by omega) (by omega) h.b,g (by omega) (by omega) h.k,g (by omega) (by omega) h.sh,g (by omega) (by omega) h.us,g (by omega) (by omega) h.d,fun c hc=>⟨g (by omega) (by omega) (h.ob c hc).ob,?_⟩,fun c hc=>?_,?_,h.ke,h.kz,fun c hc=>?_⟩
 ·by_cases q:c=a
  ·subst q
   rw[yV,List.getElem?_set_ne (by omega)]
   exact ZU (h.ob c hc).di _
  ·rw[ZL q]
   exact g (by omega) (by omega) (h.ob c hc).di
 ·by_cases q:c=a
  ·subst q
   rw[yV]
   exact ZU (o:=.dtt (W c)) (by rw[List.getElem?_set_ne (by omega)];exact h.w c hc) _
  ·rw[ZL q]
   exact g (by omega) (by omega) (h.w c hc)
 ·have l2:((s.set (3+2 * a) (.dtt l)).set (7+a) (.dtt w)).length=s.length:=by simp
  rw[l2]
  exact QO (QO h.cl (z.pr.cl _)) (zGY z.q4 _)
 ·by_cases q:c=a
  ·subst q
   rw[yV,yV,yV,yV,yV]
   exact z
  ·rw[ZL q,ZL q,ZL q,ZL q,ZL q]
   exact h.si c hc
theorem UI.shI (h:UI ks ds B s L W Q m Dn E) {a:Nat} (ha:a < 2):zV (.ref 6) (.int a) s=.ok (.ref (2+2 * a)) s:=zBO (f:=fun a=>.ref (2+2 * a)) h.sh ha
theorem UI.bI (h:UI ks ds B s L W Q m Dn E) {a:Nat} (ha:a < 2):zV (.ref 0) (.int a) s=.ok (.int (B a)) s:=zBO (f:=fun a=>.int (B a)) h.b ha
theorem UI.usI (h:UI ks ds B s L W Q m Dn E) {a:Nat} (ha:a < 2):zV (.ref 9) (.int a) s=.ok (.ref (7+a)) s:=zBO (f:=fun a=>.ref (7+a)) h.us ha
noncomputable abbrev sgU (ro:D) (v6 v7 v8 v9 v10 v11:Option D):St:=[some ro,some (.ref 0),some (.ref 1),some (.ref 6),some (.ref 9),some (.ref 10),v6,v7,v8,v9,v10,v11]
noncomputable abbrev lkE (eN:EM):EM:=zX qD (zD (eOp zV (zA 3) (zA 8)) (zD (eOp zV (zA 4) (zA 8)) (zD (zA 9) (zD (eOp zV (zA 1) (zA 8)) (zD eN zO)))))
noncomputable abbrev lkS (eN:EM):SM:=sIf (QP (QJ (lkE eN))) (jX (eC (.bl false))) jo
theorem zC5 (h:UI ks ds B s L W Q m Dn E) {a:Nat} (ha:a < 2) {σ:St}{eN:EM}{k:D} (σ1:σ[1]? = some (some (.ref 0))) (σ3:σ[3]? = some (some (.ref 6))) (σ4:σ[4]? = some (some (.ref 9))) (σ8:σ[8]? = some (some (.int a))) (σ9:σ[9]? = some (some k)) (hN:∀ s':M.S,s'[10]? = some (.lst ds)->eN σ s'=.ok (.int m) s') (kd:qG k) (hk:k∈ks) (hd:k∉Dn a) (hE:∀ x∈E a,x=k\/x∈Dn a) :
  ∃ s' L' W' Q',lkS eN σ s=.nx σ s'/\UI ks ds B s' L' W' Q' m Dn (fup E a (k::Dn a)):=by
 obtain⟨L',W',Q',e,z⟩:=zF5 (h.si a ha) h.kz (h.ob a ha) (h.w a ha) (by omega) h.cl kd hk hd hE
 have u:=h.setD ha z
 rw[show fup Dn a (Dn a)=Dn by funext c;by_cases q:c=a<;>simp[fup,q]] at u
 refine⟨_,_,_,_,?_,u⟩
 have tc:(QP (QJ (lkE eN))) σ s=.ok false ((s.set (3+2 * a) (.dtt L')).set (7+a) (.dtt W')):=by
  have le:lkE eN σ s=.ok (.bl true) ((s.set (3+2 * a) (.dtt L')).set (7+a) (.dtt W')):=by
   simp[-zV,σ1,σ3,σ4,σ8,σ9,h.shI ha,h.usI ha,h.bI ha,hN s h.d]
   exact e
  show ((lkE eN σ s).bind _).bind _=_
  rw[le]
  rfl
 unfold lkS
 rw[zEy tc]
 rfl
theorem UI.key (h:UI ks ds B s L W Q m Dn E) (hp:0 < ks.length) (c:Int):∃ k,k∈ks/\zV (.ref 1) (.int (c % ks.length)) s=.ok k s:=by
 have z0:0 <= c % (ks.length:Int):=Int.emod_nonneg _ (by omega)
 have z1:c % (ks.length:Int) < ks.length:=Int.emod_lt_of_pos _ (by omega)
 have zl:(c % (ks.length:Int)).toNat < ks.length:=by omega
 refine⟨ks[(c % (ks.length:Int)).toNat],List.getElem_mem _,?_⟩
 have e:atI ks (c % (ks.length:Int))=some ks[(c % (ks.length:Int)).toNat]:=by
  have:=JO ks (c % (ks.length:Int)).toNat ks[(c % (ks.length:Int)).toNat] (by simp[zl])
  rwa [Int.toNat_of_nonneg z0] at this
 simp[h.k,e]
noncomputable abbrev thE:EM:=zX qH (zD (eOp qM (eOp jO (zA 7) (eC (.int 35))) (zA 6)) zO)
noncomputable abbrev ly6:SM:=zk (yg (zAF 5 qb (eOp zV (zA 3) (zA 8)) (zD (zA 9) (zD thE zO)))) (Zt (eOp zV (zA 4) (zA 8)) (zA 9) (ZY (zD (zA 6) (zD thE zO))))
theorem zJG (h:UI ks ds B s L W Q m Dn E) {a:Nat} (ha:a < 2) (ro:D) (c:Int) {k:D} (v10 v11:Option D) (kd:qG k) (hk:k∈ks) (hE:∀ x∈E a,x=k\/x∈Dn a) :
  ∃ s' L' W' Q',ly6 (sgU ro (some (.int m)) (some (.int c)) (some (.int a)) (some k) v10 v11) s=.nx (sgU ro (some (.int m)) (some (.int c)) (some (.int a)) (some k) v10 v11) s'/\UI ks ds B s' L' W' Q' m Dn (fup E a (k::Dn a)):=by
 have si:=h.si a ha
 have z:=si.lay hE kd hk (zAh (c / 35+m)) (zHk _)
 have u:=h.setD ha z
 rw[show fup Dn a (Dn a)=Dn by funext c;by_cases q:c=a<;>simp[fup,q]] at u
 refine⟨_,_,_,_,?_,u⟩
 have zL:=si.zL h.kz
 have zW:=si.zW h.kz
 have z1:(L a).length < SZ:=Nat.lt_of_lt_of_le (m:=2000) (by omega) (sz5 _ (Nat.le_refl _))
 have z2:(W a).length < SZ:=Nat.lt_of_lt_of_le (m:=2000) (by omega) (sz5 _ (Nat.le_refl _))
 have z3:2 <= SZ:=sz5 _ (by omega)
 have la:=zKC (h.ob a ha) h.cl kd.t (fun q hq=>(si.pr q hq).1.t) si.nL z1 (kd.cl _) (QQ _ (zAh (c / 35+m)))
 have kt:=kd.t
 have th:=zHL (c / 35+m)
 generalize Z1 (c / 35+m)=t at *
 have a1:(yg (zAF 5 qb (eOp zV (zA 3) (zA 8)) (zD (zA 9) (zD thE zO)))) (sgU ro (some (.int m)) (some (.int c)) (some (.int a)) (some k) v10 v11) s=.nx (sgU ro (some (.int m)) (some (.int c)) (some (.int a)) (some k) v10 v11) (s.set (3+2 * a) (.dtt (laid (B a) k t (L a)))):=by
  simp[-zV,h.shI ha,(h.ob a ha).ob,th,la]
 unfold ly6
 rw[qS a1]
 have us1:(s.set (3+2 * a) (.dtt (laid (B a) k t (L a))))[9]? = some (.lst [.ref 7,.ref 8]):=by rw[List.getElem?_set_ne (by omega)];exact h.us
 have w1:(s.set (3+2 * a) (.dtt (laid (B a) k t (L a))))[7+a]? = some (.dtt (W a)):=by rw[List.getElem?_set_ne (by omega)];exact h.w a ha
 have ui:=zBO (f:=fun a=>.ref (7+a)) us1 ha
 simp[-zV,th,z3,ui,w1,kt,z2]
theorem zLn {a:Nat} (ha:a < 2) (ro:D) {c:Int}{k:D} (v10:Option D) (kd:qG k) (hk:k∈ks):∀ (js:List D) (s:M.S) (L W:Nat->List (D×D)) (Q E:Nat->List D) (v11:Option D),UI ks ds B s L W Q m (fun _=>[]) E->(∀ x∈E a,x=k) ->
  ∃ s' L' W' Q' E' v11',j0 [] (j6 (zt 11) (lkS (zA 6))) js (sgU ro (some (.int m)) (some (.int c)) (some (.int a)) (some k) v10 v11) s=.nx (sgU ro (some (.int m)) (some (.int c)) (some (.int a)) (some k) v10 v11') s'/\UI ks ds B s' L' W' Q' m (fun _=>[]) E':=by
 intro js
 induction js with
 | nil=>intro s L W Q E v11 h _;exact⟨s,L,W,Q,E,v11,rfl,h⟩
 | cons j js ih =>
  intro s L W Q E v11 h hE
  obtain⟨s1,L1,W1,Q1,e1,h1⟩:=zC5 h ha (σ:=sgU ro (some (.int m)) (some (.int c)) (some (.int a)) (some k) v10 (some j)) (eN:=zA 6) rfl rfl rfl rfl rfl (fun _ _=>rfl) kd hk (fun z=>nomatch z) fun x hx=>.inl (hE x hx)
  obtain⟨s2,L2,W2,Q2,E2,w,e2,h2⟩:=ih s1 L1 W1 Q1 _ (some j) h1 fun x hx=>by
   rw[yV] at hx
   simpa using hx
  refine⟨s2,L2,W2,Q2,E2,w,?_,h2⟩
  unfold j0
  have f:j6 (zt 11) (lkS (zA 6)) j (sgU ro (some (.int m)) (some (.int c)) (some (.int a)) (some k) v10 v11) s=.nx (sgU ro (some (.int m)) (some (.int c)) (some (.int a)) (some k) v10 (some j)) s1:=e1
  rw[f]
  exact e2
noncomputable abbrev rg6:IM:=jf (eOp zV (ym (zD (eC (.int 0)) (zD (eC (.int 1)) (zD (eC (.int 2)) (zD (eC (.int 1)) (zD (eC (.int 2)) zO)))))) (zA 10))
noncomputable abbrev B6:SM:=(zk (jj 8 (zX zDh (zD (Js cEq (eOp z9 (zA 7) (eC (.int 7))) (eC (.int 3))) zO)))
  (zk (jj 9 (eOp zV (zA 2) (eOp z9 (eOp jO (zA 7) (eC (.int 35))) (zX ya (zD (zA 2) zO)))))
  (zk (jj 10 (eOp z9 (eOp jO (zA 7) (eC (.int 7))) (eC (.int 5))))
  (zk (sIf (je cLt (zA 10) (eC (.int 3))) ly6 jo)
  (q0 rg6 (zt 11) (lkS (zA 6)))))))
theorem zKM {ro:D}{m c:Int}{a:Nat}{k:D} (v11:Option D) (s:M.S):∃ js:List D,rg6 (sgU ro (some (.int m)) (some (.int c)) (some (.int a)) (some k) (some (.int (c / 7 % 5))) v11) s=.ok (js,[]) (s++[.lst [.int 0,.int 1,.int 2,.int 1,.int 2]]):=by
 have v:c / 7 % 5=0\/c / 7 % 5=1\/c / 7 % 5=2\/c / 7 % 5=3\/c / 7 % 5=4:=by omega
 have z5:5 <= SZ:=sz5 _ (by omega)
 have e:(s++[O.lst [.int 0,.int 1,.int 2,.int 1,.int 2]])[s.length]? = some (.lst [.int 0,.int 1,.int 2,.int 1,.int 2]):=by simp
 rcases v with v | v | v | v | v<;>rw[v]<;>simp[z5,e,at0,at1,at2,at3,at4]
theorem zKU {it:IM}{tg:GM}{b:SM}{σ:St}{s s1:M.S}{xs:List D}{r:RS} (h:it σ s=.ok (xs,[]) s1) (e:j0 [] (j6 tg b) xs σ s1=r):q0 it tg b σ s=r:=by
 unfold q0
 rw[h]
 exact e
theorem zMY (h:UI ks ds B s L W Q m (fun _=>[]) (fun _=>[])) (hp:0 < ks.length) (ro:D) (c:Int) (v8 v9 v10 v11:Option D) :
  ∃ s' L' W' Q' v8' v9' v10' v11',B6 (sgU ro (some (.int m)) (some (.int c)) v8 v9 v10 v11) s=.nx (sgU ro (some (.int m)) (some (.int c)) v8' v9' v10' v11') s'/\UI ks ds B s' L' W' Q' (m+1) (fun _=>[]) (fun _=>[]):=by
 obtain⟨a,ea,ha⟩:∃ a:Nat,(if c % 7=3 then (1:Int) else 0)=a/\a < 2:=by
  by_cases q:c % 7=3
  ·exact⟨1,by rw[if_pos q];rfl,by omega⟩
  ·exact⟨0,by rw[if_neg q];rfl,by omega⟩
 have e1:(zX zDh (zD (Js cEq (eOp z9 (zA 7) (eC (.int 7))) (eC (.int 3))) zO)) (sgU ro (some (.int m)) (some (.int c)) v8 v9 v10 v11) s=.ok (.int a) s:=by
  rw[<- ea]
  simp
 obtain⟨k,hk,ek⟩:=h.key hp (c / 35)
 have kd:=h.ke k hk
 have e2:(eOp zV (zA 2) (eOp z9 (eOp jO (zA 7) (eC (.int 35))) (zX ya (zD (zA 2) zO)))) (sgU ro (some (.int m)) (some (.int c)) (some (.int a)) v9 v10 v11) s=.ok k s:=by
  simp[-zV,h.k,ek,hp]
 have e3:(eOp z9 (eOp jO (zA 7) (eC (.int 7))) (eC (.int 5))) (sgU ro (some (.int m)) (some (.int c)) (some (.int a)) (some k) v10 v11) s=.ok (.int (c / 7 % 5)) s:=by simp
 have mid:∃ s1 L1 W1 Q1 E1,(sIf (je cLt (zA 10) (eC (.int 3))) ly6 jo) (sgU ro (some (.int m)) (some (.int c)) (some (.int a)) (some k) (some (.int (c / 7 % 5))) v11) s=.nx (sgU ro (some (.int m)) (some (.int c)) (some (.int a)) (some k) (some (.int (c / 7 % 5))) v11) s1/\UI ks ds B s1 L1 W1 Q1 m (fun _=>[]) E1/\∀ x∈E1 a,x=k:=by
  have tc:(je cLt (zA 10) (eC (.int 3))) (sgU ro (some (.int m)) (some (.int c)) (some (.int a)) (some k) (some (.int (c / 7 % 5))) v11) s=.ok (decide (c / 7 % 5 < 3)) s:=by simp
  rw[zEy tc]
  by_cases w:c / 7 % 5 < 3
  ·rw[if_pos (decide_eq_true w)]
   obtain⟨s1,L1,W1,Q1,e,u⟩:=zJG h ha ro c (some (.int (c / 7 % 5))) v11 kd hk fun x hx=>nomatch hx
   exact⟨s1,L1,W1,Q1,_,e,u,fun x hx=>by rw[yV] at hx;simpa using hx⟩
  ·rw[if_neg (by simpa using w)]
   exact⟨s,L,W,Q,_,rfl,h,fun x hx=>nomatch hx⟩
 obtain⟨s1,L1,W1,Q1,E1,e4,h1,hE⟩:=mid
 obtain⟨js,ej⟩:=zKM (ro:=ro) (m:=m) (c:=c) (a:=a) (k:=k) v11 s1
 have h2:=h1.app (g:=[.lst [.int 0,.int 1,.int 2,.int 1,.int 2]]) rfl
 obtain⟨s2,L2,W2,Q2,E2,w,e5,h3⟩:=zLn ha ro (c:=c) (some (.int (c / 7 % 5))) kd hk js _ _ _ _ _ v11 h2 hE
 refine⟨s2,L2,W2,Q2,some (.int a),some k,some (.int (c / 7 % 5)),w,?_,h3.next (by omega)⟩
 unfold B6
 rw[zAZ e1]
 show (zk (jj 9 _) _) (sgU ro (some (.int m)) (some (.int c)) (some (.int a)) v9 v10 v11) s=_
 rw[zAZ e2]
 show (zk (jj 10 _) _) (sgU ro (some (.int m)) (some (.int c)) (some (.int a)) (some k) v10 v11) s=_
 rw[zAZ e3]
 show (zk (sIf _ ly6 jo) _) (sgU ro (some (.int m)) (some (.int c)) (some (.int a)) (some k) (some (.int (c / 7 % 5))) v11) s=_
 rw[qS e4]
 exact zKU ej e5
end
theorem zLx {ks:List D}{dd:List Int}{B:Nat->Int} (hp:0 < ks.length) (ro:D):∀ (cs:List Int) (m:Int) (s:M.S) (L W:Nat->List (D×D)) (Q:Nat->List D) (v6 v7 v8 v9 v10 v11:Option D),UI ks (dd.map .int) B s L W Q m (fun _=>[]) (fun _=>[]) ->
  ∃ s' L' W' Q' v6' v7' v8' v9' v10' v11',j0 [(10,.lst (dd.map .int))] (j6 (JS (qd (zt 6) (qd (zt 7) JQ))) B6) (qf m (cs.map .int)) (sgU ro v6 v7 v8 v9 v10 v11) s=.nx (sgU ro v6' v7' v8' v9' v10' v11') s'/\UI ks (dd.map .int) B s' L' W' Q' (m+cs.length) (fun _=>[]) (fun _=>[]):=by
 intro cs
 induction cs with
 | nil=>intro m s L W Q v6 v7 v8 v9 v10 v11 h;exact⟨s,L,W,Q,v6,v7,v8,v9,v10,v11,rfl,by simpa using h⟩
 | cons c cs ih =>
  intro m s L W Q v6 v7 v8 v9 v10 v11 h
  obtain⟨s1,L1,W1,Q1,w8,w9,w10,w11,e1,h1⟩:=zMY h hp ro c v8 v9 v10 v11
  obtain⟨s2,L2,W2,Q2,x6,x7,x8,x9,x10,x11,e2,h2⟩:=ih (m+1) s1 L1 W1 Q1 (some (.int m)) (some (.int c)) w8 w9 w10 w11 h1
  refine⟨s2,L2,W2,Q2,x6,x7,x8,x9,x10,x11,?_,by rw[List.length_cons,show m+((cs.length+1:Nat):Int)=m+1+cs.length by omega];exact h2⟩
  have f:j6 (JS (qd (zt 6) (qd (zt 7) JQ))) B6 (.tup [.int m,.int c]) (sgU ro v6 v7 v8 v9 v10 v11) s=.nx (sgU ro (some (.int m)) (some (.int c)) w8 w9 w10 w11) s1:=e1
  have gd:zc [(10,O.lst (dd.map .int))] s1=true:=by simp[zc,h1.d]
  rw[List.map_cons]
  unfold qf j0
  rw[f]
  show (if zc _ _=true then _ else _)=_
  rw[if_pos gd]
  exact e2
noncomputable abbrev ln5:EM:=zX ya (zD (zA 5) zO)
theorem zLr {ks:List D}{ds:List D}{B:Nat->Int}{a:Nat} (ha:a < 2) (ro:D) (v6 v7 v10 v11:Option D):∀ (xs:List D) (s:M.S) (L W:Nat->List (D×D)) (Q Dn:Nat->List D) (v9:Option D),(∀ x∈xs,x∈ks)->xs.Nodup->(∀ x∈xs,x∉Dn a)->UI ks ds B s L W Q (ds.length:Int) Dn Dn ->
  ∃ s' L' W' Q' Dn' v9',j0 [(1,.lst ks)] (j6 (zt 9) (lkS ln5)) xs (sgU ro v6 v7 (some (.int a)) v9 v10 v11) s=.nx (sgU ro v6 v7 (some (.int a)) v9' v10 v11) s'/\UI ks ds B s' L' W' Q' (ds.length:Int) Dn' Dn'/\∀ c,c≠a->Dn' c=Dn c:=by
 intro xs
 induction xs with
 | nil=>intro s L W Q Dn v9 _ _ _ h;exact⟨s,L,W,Q,Dn,v9,rfl,h,fun _ _=>rfl⟩
 | cons x xs ih =>
  intro s L W Q Dn v9 hx nd hd h
  rw[List.nodup_cons] at nd
  have xk:=hx x List.mem_cons_self
  obtain⟨s1,L1,W1,Q1,e1,h1⟩:=zC5 h ha (σ:=sgU ro v6 v7 (some (.int a)) (some x) v10 v11) (eN:=ln5) rfl rfl rfl rfl rfl (fun s' q=>by simp[q]) (h.ke x xk) xk (hd x List.mem_cons_self) fun x hx=>.inr hx
  have h2:UI ks ds B s1 L1 W1 Q1 (ds.length:Int) (fup Dn a (x::Dn a)) (fup Dn a (x::Dn a)):=⟨h1.b,h1.k,h1.sh,h1.us,h1.d,h1.ob,h1.w,h1.cl,h1.ke,h1.kz,fun c hc=>(h1.si c hc).mono (fun y hy=>by
   by_cases q:c=a
   ·subst q;rw[yV];exact List.mem_cons_of_mem _ hy
   ·rw[ZL q];exact hy) fun y hy=>hy⟩
  obtain⟨s2,L2,W2,Q2,Dn2,w,e2,h3,o3⟩:=ih s1 L1 W1 Q1 _ (some x) (fun y hy=>hx y (List.mem_cons_of_mem _ hy)) nd.2 (fun y hy=>by
   rw[yV]
   intro z
   rcases List.mem_cons.mp z with rfl | z
   ·exact nd.1 hy
   ·exact hd y (List.mem_cons_of_mem _ hy) z) h2
  refine⟨s2,L2,W2,Q2,Dn2,w,?_,h3,fun c hc=>by rw[o3 c hc,ZL hc]⟩
  have f:j6 (zt 9) (lkS ln5) x (sgU ro v6 v7 (some (.int a)) v9 v10 v11) s=.nx (sgU ro v6 v7 (some (.int a)) (some x) v10 v11) s1:=e1
  have gd:zc [(1,O.lst ks)] s1=true:=by simp[zc,h1.k]
  unfold j0
  rw[f]
  show (if zc _ _=true then _ else _)=_
  rw[if_pos gd]
  exact e2
noncomputable abbrev stU (b0 b1:Int) (ks ds:List D):M.S:=[.lst [.int b0,.int b1],.lst ks,.ins 5 [some (.int b0),some (.ref 3)],.dtt [],.ins 5 [some (.int b1),some (.ref 5)],.dtt [],.lst [.ref 2,.ref 4],.dtt [],.dtt [],.lst [.ref 7,.ref 8],.lst ds]
theorem zMd {b0 b1:Int}{ks:List D}{dd:List Int} (h0:0 <= b0) (h1:0 <= b1) (kk:∀ x∈ks,qG x) (kz:ks.length <= 60):UI ks (dd.map .int) (two b0 b1) (stU b0 b1 ks (dd.map .int)) (fun _=>[]) (fun _=>[]) (fun _=>[]) 0 (fun _=>[]) (fun _=>[]):=by
 have s0:∀ b:Int,0 <= b->SI ks b [] [] [] 0 [] []:=fun b hb=>⟨hb,by simp[ky],List.nodup_nil,List.nodup_nil,fun k=>by simp[ky],fun _ h=>(nomatch h),List.Pairwise.nil,fun _ h=>(nomatch h),fun _ h=>(nomatch h),fun _ h=>(nomatch h)⟩
 refine⟨rfl,rfl,rfl,rfl,rfl,zBT ⟨rfl,rfl⟩ ⟨rfl,rfl⟩,zBT rfl rfl,?_,kk,kz,zBT (s0 _ h0) (s0 _ h1)⟩
 have c1:O.cl 11 (.lst ks)=true:=zJO _ kk
 have c2:O.cl 11 (.lst (dd.map .int))=true:=zEl _ _
 simp[clS,c1,c2]
 simp[O.cl,D.cl,D.cl.all]
theorem zHN (ns:List Int) (hl:ns.length <= 63):∃ s,zCq [.ro (ns.map .int)] []=.ok (.bl true) s:=by
 have cq:∀ (k:Nat) (s:M.S),zr [.ro (ns.map .int),.int k] s=.ok (.int (ns.getD k 0)) s:=fun k s=>by simp[zr,Zw]
 have cq0:∀ s:M.S,zr [.ro (ns.map .int),.int 0] s=.ok (.int (ns.getD 0 0)) s:=cq 0
 have cq1:∀ s:M.S,zr [.ro (ns.map .int),.int 1] s=.ok (.int (ns.getD 1 0)) s:=cq 1
 have cq2:∀ s:M.S,zr [.ro (ns.map .int),.int 2] s=.ok (.int (ns.getD 2 0)) s:=cq 2
 generalize ns.getD 0 0=c at cq0
 generalize ns.getD 1 0=c1 at cq1
 generalize ns.getD 2 0=c2 at cq2
 have hd:=zHF ns hl
 have da:=fun S=>zHW ns hl S
 generalize Zx ns=dd at hd da
 have ⟨m1,m2⟩:=zJi c2
 have ⟨x0,y0⟩:=zFu c
 have ⟨x1,y1⟩:=zFu (c / 123)
 have bq:=zC2 c
 have bq1:=zC2 (c / 123)
 generalize bnd c=b0 at *
 generalize bnd (c / 123)=b1 at *
 have z2:2 <= SZ:=sz5 _ (by omega)
 obtain⟨ks,ek,kk,knd,kl⟩:=zJf c1 (JJ c2) (by omega) (by omega) [.lst [.int b0,.int b1]]
 have mq:=zJn c2
 generalize JJ c2=m at *
 generalize hro:D.ro (ns.map .int)=ro at *
 have sh1:=zAv (b:=b0) x0 (by omega) (S:=[.lst [.int b0,.int b1],.lst ks,.ins 5 [none,none]]) (p:=2) rfl
 have sh2:=zAv (b:=b1) x1 (by omega) (S:=[.lst [.int b0,.int b1],.lst ks,.ins 5 [some (.int b0),some (.ref 3)],.dtt [],.ins 5 [none,none]]) (p:=4) rfl
 have a1:Q5 [some ro,none,none,none,none,none,none,none,none,none,none,none] []=.nx [some ro,some (.ref 0),none,none,none,none,none,none,none,none,none,none] [.lst [.int b0,.int b1]]:=by
  simp[Q5,cq0,bq,bq1,z2]
 have a2:Q8 [some ro,some (.ref 0),none,none,none,none,none,none,none,none,none,none] [.lst [.int b0,.int b1]]=.nx [some ro,some (.ref 0),some (.ref 1),none,none,none,none,none,none,none,none,none] [.lst [.int b0,.int b1],.lst ks]:=by
  simp[Q8,cq1,cq2,mq,ek]
 have a3:Qu [some ro,some (.ref 0),some (.ref 1),none,none,none,none,none,none,none,none,none] [.lst [.int b0,.int b1],.lst ks]=.nx [some ro,some (.ref 0),some (.ref 1),some (.ref 6),none,none,none,none,none,none,none,none] [.lst [.int b0,.int b1],.lst ks,.ins 5 [some (.int b0),some (.ref 3)],.dtt [],.ins 5 [some (.int b1),some (.ref 5)],.dtt [],.lst [.ref 2,.ref 4]]:=by
  simp[Qu,at0,at1,z2] at sh1 sh2 ⊢
  simp[sh1,sh2,at0,at1,z2]
 have a4:(zk Q6 Qs) [some ro,some (.ref 0),some (.ref 1),some (.ref 6),none,none,none,none,none,none,none,none] [.lst [.int b0,.int b1],.lst ks,.ins 5 [some (.int b0),some (.ref 3)],.dtt [],.ins 5 [some (.int b1),some (.ref 5)],.dtt [],.lst [.ref 2,.ref 4]]=.nx (sgU ro none none none none none none) (stU b0 b1 ks (dd.map .int)):=by
  simp[Q6,Qs,z2,da]
 have hp:0 < ks.length:=by omega
 have u0:=zMd (dd:=dd) x0 x1 kk (by omega)
 obtain⟨s1,L1,W1,Q1,w6,w7,w8,w9,w10,w11,e1,h1⟩:=zLx (dd:=dd) hp ro dd 0 _ _ _ _ none none none none none none u0
 have e6:Jx (sgU ro none none none none none none) (stU b0 b1 ks (dd.map .int))=.nx (sgU ro w6 w7 w8 w9 w10 w11) s1:=by
  have it:zCj 0 (zA 5) (sgU ro none none none none none none) (stU b0 b1 ks (dd.map .int))=.ok (qf 0 (dd.map .int),[(10,.lst (dd.map .int))]) (stU b0 b1 ks (dd.map .int)):=by simp
  have gd:zc [(10,O.lst (dd.map .int))] (stU b0 b1 ks (dd.map .int))=true:=by simp[zc]
  exact zD1 it gd e1
 have h1':UI ks (dd.map .int) (two b0 b1) s1 L1 W1 Q1 ((dd.map D.int).length:Int) (fun _=>[]) (fun _=>[]):=by
  rw[List.length_map]
  simpa using h1
 have kLoop:∀ {a:Nat},a < 2->∀ {s:M.S}{L W:Nat->List (D×D)}{Q Dn:Nat->List D} (v9:Option D),Dn a=[]->UI ks (dd.map .int) (two b0 b1) s L W Q ((dd.map D.int).length:Int) Dn Dn->∃ s' L' W' Q' Dn' v9',(q0 (iE (zA 2)) (zt 9) (lkS ln5)) (sgU ro w6 w7 (some (.int a)) v9 w10 w11) s=.nx (sgU ro w6 w7 (some (.int a)) v9' w10 w11) s'/\UI ks (dd.map .int) (two b0 b1) s' L' W' Q' ((dd.map D.int).length:Int) Dn' Dn'/\∀ c,c≠a->Dn' c=Dn c:=fun {a} ha {s L W Q Dn} v9 d0 h=>by
  obtain⟨s2,L2,W2,Q2,D2,x9,e,h2,o2⟩:=zLr ha ro w6 w7 w10 w11 ks s L W Q Dn v9 (fun _ z=>z) knd (fun x _=>by rw[d0];exact fun z=>nomatch z) h
  refine⟨s2,L2,W2,Q2,D2,x9,?_,h2,o2⟩
  have it:iE (zA 2) (sgU ro w6 w7 (some (.int a)) v9 w10 w11) s=.ok (ks,[(1,.lst ks)]) s:=by simp[h.k]
  have gd:zc [(1,O.lst ks)] s=true:=by simp[zc,h.k]
  exact zD1 it gd e
 obtain⟨s2,L2,W2,Q2,D2,x9,e2,h2,o2⟩:=kLoop (a:=0) (by omega) w9 rfl h1'
 obtain⟨s3,L3,W3,Q3,D3,y9,e3,h3,_⟩:=kLoop (a:=1) (by omega) x9 (o2 1 (by omega)) h2
 have e7:zAC (sgU ro w6 w7 w8 w9 w10 w11) s1=.nx (sgU ro w6 w7 (some (.int 1)) y9 w10 w11) s3:=by
  have it:jf (eC (.int 2)) (sgU ro w6 w7 w8 w9 w10 w11) s1=.ok ([.int 0,.int 1],[]) s1:=rfl
  refine zD1 it rfl ?_
  have f1:j6 (zt 8) (q0 (iE (zA 2)) (zt 9) (lkS ln5)) (.int 0) (sgU ro w6 w7 w8 w9 w10 w11) s1=.nx (sgU ro w6 w7 (some (.int 0)) x9 w10 w11) s2:=e2
  have f2:j6 (zt 8) (q0 (iE (zA 2)) (zt 9) (lkS ln5)) (.int 1) (sgU ro w6 w7 (some (.int 0)) x9 w10 w11) s2=.nx (sgU ro w6 w7 (some (.int 1)) y9 w10 w11) s3:=e3
  unfold j0
  rw[f1]
  show j0 [] (j6 (zt 8) (q0 (iE (zA 2)) (zt 9) (lkS ln5))) [.int 1] _ s2=_
  unfold j0
  rw[f2]
  rfl
 refine⟨s3,?_⟩
 have:zCq [ro] []=(zBB [some ro,none,none,none,none,none,none,none,none,none,none,none] []).out:=rfl
 rw[this]
 unfold zBB
 rw[qS a1,qS a2,qS a3,zGK,qS a4,qS e6,qS e7]
 rfl
end
end M
namespace My
open PySem L2 PyProof.Rows
noncomputable def top (i:Nat):Stmt:=PySem.Challenge.pw_thingyard_k52_found_by_uses.main.body.getD i (.Pass ⟨0,0,0,0⟩)
theorem vv {X:Cx}{Θ:Tab}{pos:Pos}{x:Str} (i:Nat) (h1:X.N[i]? = some x:=by rfl) (h2:Vis X.env.scope x:=by exact Or.inl (by kernel_rfl)) (h3:(x == ("__debug__" : Str))=false:=by kernel_rfl) (h4:(x == ("__classdict__" : Str))=false:=by kernel_rfl):WE X Θ (.Name x pos) (M.zA i):=zDt i h1 h2 h3 h4
theorem vc {X:Cx}{Θ:Tab}{pos:Pos}{x:Str} (i:Nat) (h1:X.N[i]? = some x:=by rfl) (h2:Vis X.env.scope x:=by exact Or.inr (Or.inl (by kernel_rfl))) (h3:(x == ("__debug__" : Str))=false:=by kernel_rfl) (h4:(x == ("__classdict__" : Str))=false:=by kernel_rfl):WE X Θ (.Name x pos) (M.zA i):=zDt i h1 h2 h3 h4
theorem zz {X:Cx}{Θ:Tab}{pos:Pos}{y:M.T}{x:Str}{j:Nat} (h:x=ofT y:=by decide +kernel) (ok:okT y:=by decide +kernel):WE X Θ (.Constant (.str x) j pos) (M.eC (.str y)):=zHv h ok
theorem gk {X:Cx}{x:Str} (h:X.env.kindOf x=some .globalImplicit:=by kernel_rfl):Gl X x:=h
noncomputable abbrev cX (P:Program) (w:World) (K:PySem.W.Frag) (mg:Str->Option Value) (base:Heap) (N:List Str) (n:Str) (st:Stmt) (f:Addr) (cdv:Value) (A:Around) (outer:List Env) (s:Shared) (H:Hp) (E:XK):Cx:=(QG CX0 P w K mg base N n (zN st) f cdv A outer s H E).nox
noncomputable abbrev RM (k:Nat) (n:Str) (st:Stmt) (A:Around) (s:Shared) (f:Addr) (cdv:Value):Prop:=z4 k (A.deeper (envOfC n (zN st) s.heap.objs.size f cdv))
noncomputable abbrev bd (st:Stmt) (j:Nat):Stmt:=(jF st).getD j (.Pass ⟨0,0,0,0⟩)
noncomputable def zCo (K:PySem.W.Frag):Sp:=fun vs H Q E=>∀ Θ:Tab,SpM K Θ 1 M.zCq vs H Q E
theorem zHA {K:PySem.W.Frag}{H:Hp}{a:Addr}{ns:List Int}{E:XK} (hl:ns.length <= 63) (hO:zD8 H) (hS:SqL K H a (ns.map V.int)):zCo K [.ref a] H (fun v _=>v=.bl true) E:=fun _=>zKF M.zHN hl hO hS
noncomputable def Θ1 (w:World) (zB:Addr):Tab:=⟨fun c=>if c=5 then some (zB,["bound","kept"]) else none,haD w 7⟩
section
variable (P:Program) (w:World) (K:PySem.W.Frag) (mg:Str->Option Value) (base:Heap) (zB:Addr)
noncomputable abbrev jI:Prop:=Has P w K mg base "_law_mixed" 1 ["_law_cell_here","_law_k"] (SpM K (Θ1 w zB) 2 M.jU)
noncomputable abbrev zAN:Prop:=Has P w K mg base "_law_part" 4 ["_law_cell_here","_law_deep"] (SpM K (Θ1 w zB) 2 M.Zc)
noncomputable abbrev zA6:Prop:=Has P w K mg base "_law_key" 5 ["_law_cell_here"] (SpM K (Θ1 w zB) 1 M.qy)
noncomputable abbrev Qi:Prop:=Has P w K mg base "_law_keys" 6 ["_law_cell_here","_law_many_here"] (SpM K (Θ1 w zB) 2 M.yt)
noncomputable abbrev yo:Prop:=Has P w K mg base "_law_cell" 1 ["_law_script","_law_k"] (SpM K (Θ1 w zB) 2 M.zr)
noncomputable abbrev QE:Prop:=Has P w K mg base "_law_deeds" 2 ["_law_script"] (SpM K (Θ1 w zB) 1 M.yT)
noncomputable abbrev Z3:Prop:=Has P w K mg base "_law_bound" 1 ["_law_cell_here"] (SpM K (Θ1 w zB) 1 M.qh)
noncomputable abbrev Qg:Prop:=Has P w K mg base "_law_many" 1 ["_law_cell_here"] (SpM K (Θ1 w zB) 1 M.yr)
noncomputable abbrev zBF:Prop:=Has P w K mg base "is_bound" 1 ["thing"] (SpM K (Θ1 w zB) 1 M.ZO)
noncomputable abbrev ZC:Prop:=zH6 P w K mg base zB "Shelf" 2 ["self","bound"] (SpM K (Θ1 w zB) 2 M.yB)
noncomputable abbrev Qc:Prop:=zFI P w K mg base zB "lay" 1 ["self","key","thing"] (SpM K (Θ1 w zB) 3 M.qb)
noncomputable abbrev QH:Prop:=Has P w K mg base "_law_thing" 1 ["_law_cell_here"] (SpM K (Θ1 w zB) 1 M.qH)
noncomputable abbrev QA:Prop:=zFI P w K mg base zB "look" 1 ["self","key"] (SpM K (Θ1 w zB) 2 M.qI)
noncomputable abbrev Z4:Prop:=Has P w K mg base "_law_there" 1 ["_law_uses","_law_key_here","_law_bound_here"] (SpM K (Θ1 w zB) 3 M.yQ)
noncomputable abbrev y4:Prop:=Has P w K mg base "_law_looked" 2 ["_law_shelf","_law_uses","_law_key_here","_law_bound_here","_law_now"] (SpM K (Θ1 w zB) 5 M.qD)
end
variable {P:Program}{w:World}{K:PySem.W.Frag}{mg:Str->Option Value}{base:Heap}{f:Addr}{fd:FuncData}{cdv:Value}{A:Around}{outer:List Env}{s:Shared}{H:Hp}{E:XK}{zB:Addr}
noncomputable abbrev qA (w:World) (K:PySem.W.Frag) (zB:Addr):Prop:=Zp K (Θ1 w zB) 5 zB ["bound","kept"]
noncomputable abbrev qk:Stmt:=top 10
noncomputable abbrev zDw:List Str:=["_law_cell_here","_law_k"]
theorem zCS:jS zDw ["_law_cell_here","_law_k"] (zN qk):=⟨rfl,rfl,rfl,by decide +kernel,rfl,by decide +kernel,by decide +kernel⟩
theorem zCg (F:Fun K "_law_mixed" "_law_mixed" qk f fd) :
  jZ P w K mg base CX0 1 f fd ["_law_cell_here","_law_k"] (SpM K (Θ1 w zB) 2 M.jU):=by
 refine j9 (b:=M.ZJ) F zCS M.zCb fun cdv A outer s H E hr=>?_
 unfold M.ZJ
 exact (zR (zo (zJ jg jQ (zJ zBQ zBC (zJ (OpR.or yh qF) qp (vv 0) (zJ zBQ zBC zF (vv 1))) zF) zF)))
noncomputable abbrev zQ:Stmt:=top 11
noncomputable abbrev jl:List Str:=["_law_cell_here","_law_deep","_law_way","_law_number","_law_size","_law_at"]
theorem qr:jS jl ["_law_cell_here","_law_deep"] (zN zQ):=⟨rfl,rfl,rfl,by decide +kernel,rfl,by decide +kernel,by decide +kernel⟩
theorem zBk:(["_law_cell_here","_law_deep","_law_way","_law_number","_law_size","_law_at","_law_j"]:List Str).Nodup:=by decide +kernel
theorem zBv:(["_law_cell_here","_law_deep","_law_way","_law_number","_law_size","_law_at","_law_j"]:List Str).Nodup:=by decide +kernel
theorem zBz {kr:Nat} (ze:Has P w K mg base "_law_part" (1+kr) ["_law_cell_here","_law_deep"] (SpM K (Θ1 w zB) 2 (M.zM kr))) (zP:jI P w K mg base zB) (jk:mg "str" = none) (jG:mg "tuple" = none) (zd:mg "range" = none) (hr:RM (1+kr) "_law_part" zQ A s f cdv):WS (cX P w K mg base jl "_law_part" zQ f cdv A outer s H E) (Θ1 w zB) (bd zQ 0) (M.zj (M.zM kr)):=by
 unfold M.zj
 exact (jT (i:=2) qr.nd rfl (Or.inl (by kernel_rfl)) (zJ jg jQ (vc 0) zF))
theorem zBg {kr:Nat} (ze:Has P w K mg base "_law_part" (1+kr) ["_law_cell_here","_law_deep"] (SpM K (Θ1 w zB) 2 (M.zM kr))) (zP:jI P w K mg base zB) (jk:mg "str" = none) (jG:mg "tuple" = none) (zd:mg "range" = none) (hr:RM (1+kr) "_law_part" zQ A s f cdv):WS (cX P w K mg base jl "_law_part" zQ f cdv A outer s H E) (Θ1 w zB) (bd zQ 1) (M.zf (M.zM kr)):=by
 unfold M.zf
 exact (jT (i:=3) qr.nd rfl (Or.inl (by kernel_rfl)) (zJ zIO zGc (zJ jg jQ (zJ ju jc (vc 0) zF) zF) zF))
theorem zBe {kr:Nat} (ze:Has P w K mg base "_law_part" (1+kr) ["_law_cell_here","_law_deep"] (SpM K (Θ1 w zB) 2 (M.zM kr))) (zP:jI P w K mg base zB) (jk:mg "str" = none) (jG:mg "tuple" = none) (zd:mg "range" = none) (hr:RM (1+kr) "_law_part" zQ A s f cdv):WS (cX P w K mg base jl "_law_part" zQ f cdv A outer s H E) (Θ1 w zB) (bd zQ 2) (M.zi (M.zM kr)):=by
 unfold M.zi
 exact (jY (jP (yD hr) yz (vv 2) zF (jr _))
  (zR (zo (vv 3)))
  jD)
theorem zBw {kr:Nat} (ze:Has P w K mg base "_law_part" (1+kr) ["_law_cell_here","_law_deep"] (SpM K (Θ1 w zB) 2 (M.zM kr))) (zP:jI P w K mg base zB) (jk:mg "str" = none) (jG:mg "tuple" = none) (zd:mg "range" = none) (hr:RM (1+kr) "_law_part" zQ A s f cdv):WS (cX P w K mg base jl "_law_part" zQ f cdv A outer s H E) (Θ1 w zB) (bd zQ 3) (M.zg (M.zM kr)):=by
 unfold M.zg
 exact (jY (jP (yD hr) yz (vv 2) zF (jr _))
  (zR (zo (yF zCH zGg gk jk zGB (zC (vv 3) zI))))
  jD)
theorem zBu {kr:Nat} (ze:Has P w K mg base "_law_part" (1+kr) ["_law_cell_here","_law_deep"] (SpM K (Θ1 w zB) 2 (M.zM kr))) (zP:jI P w K mg base zB) (jk:mg "str" = none) (jG:mg "tuple" = none) (zd:mg "range" = none) (hr:RM (1+kr) "_law_part" zQ A s f cdv):WS (cX P w K mg base jl "_law_part" zQ f cdv A outer s H E) (Θ1 w zB) (bd zQ 4) (M.zq (M.zM kr)):=by
 unfold M.zq
 exact (jY (jP (yD hr) yz (vv 2) zF (jr _))
  (zR (zo (jM (qB rfl hr) ja (qv (zC JP (zC zz (zC zz (zC (qz zI) zI))))) (zJ jg jQ (zJ ju jc (vc 0) zF) zF))))
  jD)
theorem zBY {kr:Nat} (ze:Has P w K mg base "_law_part" (1+kr) ["_law_cell_here","_law_deep"] (SpM K (Θ1 w zB) 2 (M.zM kr))) (zP:jI P w K mg base zB) (jk:mg "str" = none) (jG:mg "tuple" = none) (zd:mg "range" = none) (hr:RM (1+kr) "_law_part" zQ A s f cdv):WS (cX P w K mg base jl "_law_part" zQ f cdv A outer s H E) (Θ1 w zB) (bd zQ 5) (M.jC (M.zM kr)):=by
 unfold M.jC
 exact (jY (JC (zDV (jP (yD hr) yz (vv 2) zF (jr _)) (Jv (jP zC3 zBD (vc 1) zF (jr _)))))
  (zR (zo (qz (zC (z6 ze hr (by omega) gk (zC (zJ ju jc (vc 0) zF) (zC (zJ (OpR.or yh qF) qp (vc 1) zF) zI)) (zS (zS jN))) zI))))
  jD)
theorem zBU {kr:Nat} (ze:Has P w K mg base "_law_part" (1+kr) ["_law_cell_here","_law_deep"] (SpM K (Θ1 w zB) 2 (M.zM kr))) (zP:jI P w K mg base zB) (jk:mg "str" = none) (jG:mg "tuple" = none) (zd:mg "range" = none) (hr:RM (1+kr) "_law_part" zQ A s f cdv):WS (cX P w K mg base jl "_law_part" zQ f cdv A outer s H E) (Θ1 w zB) (bd zQ 6) (M.jH (M.zM kr)):=by
 unfold M.jH
 exact (jY (JC (zDV (jP (yD hr) yz (vv 2) zF (jr _)) (Jv (jP zC3 zBD (vc 1) zF (jr _)))))
  (zR (zo (yF zAO zC8 gk jG zDz (zC (QW (vars:=["_law_j"]) rfl ⟨rfl,rfl,(by kernel_rfl),(by kernel_rfl),(by decide +kernel),⟨(by kernel_rfl),(by kernel_rfl),trivial⟩,(by kernel_rfl)⟩ (qZ gk zd (zJ jg jQ (zJ ju jc (vc 0) zF) zF)) (fun _ _ _ _=>(j8 (i:=6) zBk rfl (Or.inl (by kernel_rfl)) (.inr (by kernel_rfl)))) (fun _ _ _ _=>JD) (fun _ _ _ _=>(z6 ze hr (by omega) gk (zC (z6 zP hr (by omega) gk (zC (vc 0) (zC (vv 6) zI)) (zS (zS jN))) (zC (zJ (OpR.or yh qF) qp (vc 1) zF) zI)) (zS (zS jN)))) (by kernel_rfl)) zI))))
  jD)
theorem zBX {kr:Nat} (ze:Has P w K mg base "_law_part" (1+kr) ["_law_cell_here","_law_deep"] (SpM K (Θ1 w zB) 2 (M.zM kr))) (zP:jI P w K mg base zB) (jk:mg "str" = none) (jG:mg "tuple" = none) (zd:mg "range" = none) (hr:RM (1+kr) "_law_part" zQ A s f cdv):WS (cX P w K mg base jl "_law_part" zQ f cdv A outer s H E) (Θ1 w zB) (bd zQ 7) (M.jL (M.zM kr)):=by
 unfold M.jL
 exact (jY (jP (yD hr) yz (vv 2) zF (jr _))
  (zR (zo (jM (qB rfl hr) ja (qv (zC zF (zC zF (zC zF (zC (zJ zGT zGC zF zF) (zC (zJ (OpR.or yh qF) qp (zJ zGT zGC zF zF) zF) zI)))))) (zJ jg jQ (zJ ju jc (vc 0) zF) zF))))
  jD)
theorem zB1 {kr:Nat} (ze:Has P w K mg base "_law_part" (1+kr) ["_law_cell_here","_law_deep"] (SpM K (Θ1 w zB) 2 (M.zM kr))) (zP:jI P w K mg base zB) (jk:mg "str" = none) (jG:mg "tuple" = none) (zd:mg "range" = none) (hr:RM (1+kr) "_law_part" zQ A s f cdv):WS (cX P w K mg base jl "_law_part" zQ f cdv A outer s H E) (Θ1 w zB) (bd zQ 8) (M.jy (M.zM kr)):=by
 unfold M.jy
 exact (jY (jP (yD hr) yz (vv 2) zF (jr _))
  (zK (jT (i:=4) qr.nd rfl (Or.inl (by kernel_rfl)) (zJ jg jQ (zJ ju jc (vc 0) zF) zF))
  (zK (jY (jP (yD hr) yz (zJ jg jQ (zJ ju jc (vc 0) zF) zF) zF (jr _))
  (zR (jT (i:=4) qr.nd rfl (Or.inl (by kernel_rfl)) (zJ jg jQ (zJ ju jc (vc 0) zF) zF)))
  jD)
  (zK (jT (i:=5) qr.nd rfl (Or.inl (by kernel_rfl)) (zJ jg jQ (zJ ju jc (vc 0) zF) (zJ (OpR.or yh qF) qp (vv 4) zF)))
  (zR (zo (zJ (OpR.or yh qF) qp (zJ (OpR.or yh qF) qp (zJ zBQ zBC zz (vv 5)) zz) (zJ zBQ zBC zz (zJ zIO zGc (vv 4) (vv 5)))))))))
  jD)
theorem zA5 {kr:Nat} (ze:Has P w K mg base "_law_part" (1+kr) ["_law_cell_here","_law_deep"] (SpM K (Θ1 w zB) 2 (M.zM kr))) (zP:jI P w K mg base zB) (jk:mg "str" = none) (jG:mg "tuple" = none) (zd:mg "range" = none) (hr:RM (1+kr) "_law_part" zQ A s f cdv):WS (cX P w K mg base jl "_law_part" zQ f cdv A outer s H E) (Θ1 w zB) (bd zQ 9) (M.yi (M.zM kr)):=by
 unfold M.yi
 exact (zo (zE9 (by decide +kernel) (vars:=["_law_j"]) rfl ⟨rfl,rfl,(by kernel_rfl),(by kernel_rfl),(by decide +kernel),⟨(by kernel_rfl),trivial⟩,(by kernel_rfl)⟩ (qZ gk zd (zJ jg jQ (zJ ju jc (vc 0) zF) zF)) (fun _ _ _ _=>(j8 (i:=6) zBv rfl (Or.inl (by kernel_rfl)) (.inr (by kernel_rfl)))) (fun _ _ _ _=>JD) (fun _ _ _ _=>(jM (qB rfl hr) ja zz (zJ jg jQ (zJ ju jc (vc 0) (jM (qB rfl hr) ja (qv (zC zF (zC zF (zC zF zI)))) (vv 6))) zF))) (by kernel_rfl) (fun ρ H S ds ys p Q rp r hq h=>zHY (by decide +kernel) ρ H S ds ys p Q rp r (.inl hq) h)))
theorem Jj (F:Fun K "_law_part" "_law_part" zQ f fd) (Bf:y6 K fd ["_law_cell_here","_law_deep"] []) (kf:PySem.W.keepIn K (.ref f)=true) (mf:mg "_law_part" = some (.ref f)) (zP:jI P w K mg base zB) (jk:mg "str" = none) (jG:mg "tuple" = none) (zd:mg "range" = none) :
  ∀ kr,jZ P w K mg base CX0 (1+kr) f fd ["_law_cell_here","_law_deep"] (SpM K (Θ1 w zB) 2 (M.zM kr))
 | 0=>zL7 M.zCY
 | kr+1=>by
  have ze:Has P w K mg base "_law_part" (1+kr) ["_law_cell_here","_law_deep"] (SpM K (Θ1 w zB) 2 (M.zM kr)):=⟨⟨_,_,Jj F Bf kf mf zP jk jG zd kr,Bf,kf,mf⟩⟩
  refine j9 (k:=(1+kr)) (b:=M.zw (M.zM kr)) F qr (M.zD0 kr) fun cdv A outer s H E hr=>?_
  unfold M.zw
  exact (zK (zBz ze zP jk jG zd hr) (zK (zBg ze zP jk jG zd hr) (zK (zBe ze zP jk jG zd hr) (zK (zBw ze zP jk jG zd hr) (zK (zBu ze zP jk jG zd hr) (zK (zBY ze zP jk jG zd hr) (zK (zBU ze zP jk jG zd hr) (zK (zBX ze zP jk jG zd hr) (zK (zB1 ze zP jk jG zd hr) (zR (zA5 ze zP jk jG zd hr)))))))))))
noncomputable abbrev ye:Stmt:=top 12
noncomputable abbrev zEs:List Str:=["_law_cell_here"]
theorem zEN:jS zEs ["_law_cell_here"] (zN ye):=⟨rfl,rfl,rfl,by decide +kernel,rfl,by decide +kernel,by decide +kernel⟩
theorem zCc:(["_law_cell_here","_law_j"]:List Str).Nodup:=by decide +kernel
theorem zEF (F:Fun K "_law_key" "_law_key" ye f fd) (ze:zAN P w K mg base zB) (zP:jI P w K mg base zB) (jG:mg "tuple" = none) (zd:mg "range" = none) :
  jZ P w K mg base CX0 5 f fd ["_law_cell_here"] (SpM K (Θ1 w zB) 1 M.qy):=by
 refine j9 (b:=M.Zy) F zEN M.zEO fun cdv A outer s H E hr=>?_
 unfold M.Zy
 exact (zR (zo (yF zAO zC8 gk jG zDz (zC (QW (vars:=["_law_j"]) rfl ⟨rfl,rfl,(by kernel_rfl),(by kernel_rfl),(by decide +kernel),⟨(by kernel_rfl),trivial⟩,(by kernel_rfl)⟩ (qZ gk zd (zJ jg jQ (vc 0) zF)) (fun _ _ _ _=>(j8 (i:=1) zCc rfl (Or.inl (by kernel_rfl)) (.inr (by kernel_rfl)))) (fun _ _ _ _=>JD) (fun _ _ _ _=>(z6 ze hr (by decide) gk (zC (z6 zP hr (by decide) gk (zC (vc 0) (zC (vv 1) zI)) (zS (zS jN))) (zC zF zI)) (zS (zS jN)))) (by kernel_rfl)) zI))))
noncomputable abbrev yG:Stmt:=top 15
noncomputable abbrev zEJ:List Str:=["_law_cell_here","_law_many_here","_law_found","_law_k","_law_key_here"]
theorem yP:jS zEJ ["_law_cell_here","_law_many_here"] (zN yG):=⟨rfl,rfl,rfl,by decide +kernel,rfl,by decide +kernel,by decide +kernel⟩
theorem zDC (F:Fun K "_law_keys" "_law_keys" yG f fd) (JX:zA6 P w K mg base zB) (zP:jI P w K mg base zB) (zd:mg "range" = none) :
  jZ P w K mg base CX0 6 f fd ["_law_cell_here","_law_many_here"] (SpM K (Θ1 w zB) 2 M.yt):=by
 refine j9 (b:=M.Qh) F yP M.zC6 fun cdv A outer s H E hr=>?_
 unfold M.Qh
 exact (zK (jT (i:=2) yP.nd rfl (Or.inl (by kernel_rfl)) (qv zI))
  (zK (QN PassesOwn.never rfl (qZ gk zd (vv 1)) (j8 (i:=3) yP.nd rfl (Or.inl (by kernel_rfl)) (.inl rfl))
  (zK (jT (i:=4) yP.nd rfl (Or.inl (by kernel_rfl)) (z6 JX hr (by decide) gk (zC (z6 zP hr (by decide) gk (zC (vv 0) (zC (vv 3) zI)) (zS (zS jN))) zI) (zS jN)))
  (zK (zFK PassesOwn.never (jP (zLA rfl hr) zKT (vv 4) (vv 2) (by rfl))
  (zR (jT (i:=4) yP.nd rfl (Or.inl (by kernel_rfl)) (zJ (OpR.or (OpR.or yh qF) zJS) zJX (vv 4) (qz (zC (vv 3) zI))))))
  (zR (QV (zBN PySem.F.plainAttrs_list PySem.F.slot_list_append PySem.F.type_list_append zGa zFy rfl (vv 2) (zC (vv 4) zI)))))))
  (zR (zo (vv 2)))))
noncomputable abbrev yH:Stmt:=top 9
noncomputable abbrev zEK:List Str:=["_law_script","_law_k"]
theorem zDr:jS zEK ["_law_script","_law_k"] (zN yH):=⟨rfl,rfl,rfl,by decide +kernel,rfl,by decide +kernel,by decide +kernel⟩
theorem zDE (F:Fun K "_law_cell" "_law_cell" yH f fd) (qY:mg "len" = none) :
  jZ P w K mg base CX0 1 f fd ["_law_script","_law_k"] (SpM K (Θ1 w zB) 2 M.zr):=by
 refine j9 (b:=M.yq) F zDr M.zC1 fun cdv A outer s H E hr=>?_
 unfold M.yq
 exact (zK (jY (jP zC3 zBD (vv 1) (qV Zi Qq gk qY Jl (zC (vv 0) zI)) (jr _))
  (zR (zo (jM (qB rfl hr) ja (vv 0) (vv 1))))
  jD)
  (zR (zo zF)))
noncomputable abbrev qg:Stmt:=top 17
noncomputable abbrev zDj:List Str:=["_law_script","_law_cell_here"]
theorem Je:jS zDj ["_law_script"] (zN qg):=⟨rfl,rfl,rfl,by decide +kernel,rfl,by decide +kernel,by decide +kernel⟩
theorem zAt:(["_law_script","_law_cell_here","_law_k"]:List Str).Nodup:=by decide +kernel
theorem zCi (F:Fun K "_law_deeds" "_law_deeds" qg f fd) (jW:yo P w K mg base zB) (zP:jI P w K mg base zB) (zd:mg "range" = none) :
  jZ P w K mg base CX0 2 f fd ["_law_script"] (SpM K (Θ1 w zB) 1 M.yT):=by
 refine j9 (b:=M.yR) F Je M.zCX fun cdv A outer s H E hr=>?_
 unfold M.yR
 exact (zK (jT (i:=1) Je.nd rfl (Or.inl (by kernel_rfl)) (zJ ju jc (z6 jW hr (by decide) gk (zC (vc 0) (zC zF zI)) (zS (zS jN))) zF))
  (zK (jY (jP (yD hr) yz (zJ jg jQ (vv 1) zF) zF (jr _))
  (zR (zo (QW (vars:=["_law_k"]) rfl ⟨rfl,rfl,(by kernel_rfl),(by kernel_rfl),(by decide +kernel),⟨(by kernel_rfl),trivial⟩,(by kernel_rfl)⟩ (qZ gk zd (zJ jg jQ (zJ ju jc (vv 1) zF) zF)) (fun _ _ _ _=>(j8 (i:=2) zAt rfl (Or.inl (by kernel_rfl)) (.inr (by kernel_rfl)))) (fun _ _ _ _=>JD) (fun _ _ _ _=>(z6 zP hr (by decide) gk (zC (z6 jW hr (by decide) gk (zC (vc 0) (zC (zJ (OpR.or yh qF) qp zF (zJ jg jQ (vv 2) zF)) zI)) (zS (zS jN))) (zC (vv 2) zI)) (zS (zS jN)))) (by kernel_rfl))))
  jD)
  (zR (zo (zJM zMl zMQ (vc 0) (zGk zF) zF2)))))
noncomputable abbrev ql:Stmt:=top 14
noncomputable abbrev zCv:List Str:=["_law_cell_here"]
theorem zCe:jS zCv ["_law_cell_here"] (zN ql):=⟨rfl,rfl,rfl,by decide +kernel,rfl,by decide +kernel,by decide +kernel⟩
theorem zCT (F:Fun K "_law_bound" "_law_bound" ql f fd) :
  jZ P w K mg base CX0 1 f fd ["_law_cell_here"] (SpM K (Θ1 w zB) 1 M.qh):=by
 refine j9 (b:=M.ZI) F zCe M.zCR fun cdv A outer s H E hr=>?_
 unfold M.ZI
 exact (zK (jY (jP (yD hr) yz (zJ jg jQ (vv 0) zF) zF (jr _))
  (zR (zo (zJ jg jQ (zJ ju jc (vv 0) zF) zF)))
  jD)
  (zR (zo (zJ jg jQ (zJ ju jc (vv 0) zF) zF))))
noncomputable abbrev yK:Stmt:=top 16
noncomputable abbrev zEL:List Str:=["_law_cell_here"]
theorem zCz:jS zEL ["_law_cell_here"] (zN yK):=⟨rfl,rfl,rfl,by decide +kernel,rfl,by decide +kernel,by decide +kernel⟩
theorem zD7 (F:Fun K "_law_many" "_law_many" yK f fd) :
  jZ P w K mg base CX0 1 f fd ["_law_cell_here"] (SpM K (Θ1 w zB) 1 M.yr):=by
 refine j9 (b:=M.Za) F zCz M.zDJ fun cdv A outer s H E hr=>?_
 unfold M.Za
 exact (zK (jY (jP (yD hr) yz (zJ jg jQ (vv 0) zF) zF (jr _))
  (zR (zo (zJ (OpR.or yh qF) qp zF (zJ jg jQ (zJ ju jc (vv 0) zF) zF))))
  jD)
  (zR (zo (zJ (OpR.or yh qF) qp zF (zJ jg jQ (zJ ju jc (vv 0) zF) zF)))))
noncomputable abbrev yj:Stmt:=top 6
noncomputable abbrev zFA:List Str:=["thing"]
theorem zEB:jS zFA ["thing"] (zN yj):=⟨rfl,rfl,rfl,by decide +kernel,rfl,by decide +kernel,by decide +kernel⟩
theorem zEC (F:Fun K "is_bound" "is_bound" yj f fd) (jx:mg "isinstance" = none) (Zk:mg "bool" = none) (QY:mg "int" = none) (Qm:zDN mg "MOST_KEYS" (.int 1000)) :
  jZ P w K mg base CX0 1 f fd ["thing"] (SpM K (Θ1 w zB) 1 M.ZO):=by
 refine j9 (b:=M.Zv) F zEB M.zER fun cdv A outer s H E hr=>?_
 unfold M.Zv
 exact (zK (jY (JC (zBo (QK (ZA (qV zAe zDQ gk jx Zm (zC (vv 0) (zC (zBS .int gk QY zGs) zI))))) (zAM (ZA (qV zAe zDQ gk jx Zm (zC (vv 0) (zC (zBS .bool gk Zk zEd) zI)))))))
  (zR (zo ZW))
  jD)
  (zR (zo (zFT zKP zKP zIN zIN zF (vv 0) (zFG Qm gk (fun _ _=>rfl))))))
noncomputable abbrev j3:Stmt:=zBt (top 7) 0
noncomputable abbrev Z6:List Str:=["self","bound"]
theorem zAH:jS Z6 ["self","bound"] (zN j3):=⟨rfl,rfl,rfl,by decide +kernel,rfl,by decide +kernel,by decide +kernel⟩
theorem zAI (F:Fun K "__init__" "Shelf.__init__" j3 f fd) (zn:qA w K zB) (JY:zBF P w K mg base zB) :
  jZ P w K mg base CX0 2 f fd ["self","bound"] (SpM K (Θ1 w zB) 2 M.yB):=by
 refine zCu (N:=Z6) (b:=M.qx) F zAH fun cdv A outer s H E hr=>?_
 unfold M.qx
 exact (zK (jY (QK (ZA (z6 JY hr (by decide) gk (zC (vv 1) zI) (zS jN))))
  (zR zEI)
  jD)
  (zK (zDO (i:=0) zn rfl (vv 0) (vv 1))
  (zR (zDO (i:=1) zn rfl (vv 0) (JR rfl)))))
noncomputable abbrev yJ:Stmt:=zBt (top 7) 2
noncomputable abbrev zEE:List Str:=["self","key","thing"]
theorem zCy:jS zEE ["self","key","thing"] (zN yJ):=⟨rfl,rfl,rfl,by decide +kernel,rfl,by decide +kernel,by decide +kernel⟩
theorem zDn (F:Fun K "lay" "Shelf.lay" yJ f fd) (zn:qA w K zB) (qY:mg "len" = none) (zEA:mg "list" = none) :
  jZ P w K mg base CX0 1 f fd ["self","key","thing"] (SpM K (Θ1 w zB) 3 M.qb):=by
 refine j9 (b:=M.yE) F zCy M.zDL fun cdv A outer s H E hr=>?_
 unfold M.yE
 exact (zK (QV (zBN PySem.F.plainAttrs_dict PySem.F.slot_dict_pop PySem.F.type_dict_pop (zBj rfl hr) zBr rfl (qw (i:=1) zn rfl (vv 0)) (zC (vv 1) (zC JP zI))))
  (zK (QX rfl hr (qw (i:=1) zn rfl (vv 0)) (vv 1) (vv 2))
  (zR (jY (jP zLc zIW (qV Zi Qq gk qY Jl (zC (qw (i:=1) zn rfl (vv 0)) zI)) (qw (i:=0) zn rfl (vv 0)) (jr _))
  (zR (QV (zBN PySem.F.plainAttrs_dict PySem.F.slot_dict_pop PySem.F.type_dict_pop (zBj rfl hr) zBr rfl (qw (i:=1) zn rfl (vv 0)) (zC (jM (qB rfl hr) ja (yF (zFS hr) zHu gk zEA zJk (zC (qw (i:=1) zn rfl (vv 0)) zI)) zF) zI))))
  jD))))
noncomputable abbrev qo:Stmt:=top 13
noncomputable abbrev zDP:List Str:=["_law_cell_here","_law_some"]
theorem Jb:jS zDP ["_law_cell_here"] (zN qo):=⟨rfl,rfl,rfl,by decide +kernel,rfl,by decide +kernel,by decide +kernel⟩
theorem zCa (F:Fun K "_law_thing" "_law_thing" qo f fd) (jk:mg "str" = none) :
  jZ P w K mg base CX0 1 f fd ["_law_cell_here"] (SpM K (Θ1 w zB) 1 M.qH):=by
 refine j9 (b:=M.ZP) F Jb M.zCV fun cdv A outer s H E hr=>?_
 unfold M.ZP
 exact (zK (jT (i:=1) Jb.nd rfl (Or.inl (by kernel_rfl)) (qv (zC zF (zC zz (zC (qz zI) (zC (qz (zC JP zI)) (zC zz (zC (qz (zC zz (zC zz zI))) (zC (zJ jg jQ (zJ ju jc (vv 0) zF) zF) (zC (qz (zC zz (zC (yF zCH zGg gk jk zGB (zC (zJ jg jQ (zJ ju jc (vv 0) zF) zF) zI)) zI))) zI))))))))))
  (zR (zo (jM (qB rfl hr) ja (vv 1) (zJ jg jQ (vv 0) zF)))))
noncomputable abbrev z7:Stmt:=zBt (top 7) 1
noncomputable abbrev yO:List Str:=["self","key","thing"]
theorem Jc:jS yO ["self","key"] (zN z7):=⟨rfl,rfl,rfl,by decide +kernel,rfl,by decide +kernel,by decide +kernel⟩
theorem zA8 (zn:qA w K zB) (hr:RM 0 "Shelf.look" z7 A s f cdv):WS (cX P w K mg base yO "Shelf.look" z7 f cdv A outer s H E) (Θ1 w zB) (bd z7 0) M.qq:=by
 unfold M.qq
 exact (jY (jP (zCG rfl hr) zCE (vv 1) (qw (i:=1) zn rfl (vv 0)) (by rfl))
  (zR (zo JP))
  jD)
theorem zBH (zn:qA w K zB) (hr:RM 0 "Shelf.look" z7 A s f cdv):WS (cX P w K mg base yO "Shelf.look" z7 f cdv A outer s H E) (Θ1 w zB) (bd z7 1) M.yk:=by
 unfold M.yk
 exact (jT (i:=2) Jc.nd rfl (Or.inl (by kernel_rfl)) (zBN PySem.F.plainAttrs_dict PySem.F.slot_dict_pop PySem.F.type_dict_pop (zBj rfl hr) zBr rfl (qw (i:=1) zn rfl (vv 0)) (zC (vv 1) zI)))
theorem zAr (zn:qA w K zB) (hr:RM 0 "Shelf.look" z7 A s f cdv):WS (cX P w K mg base yO "Shelf.look" z7 f cdv A outer s H E) (Θ1 w zB) (bd z7 2) M.yc:=by
 unfold M.yc
 exact (QX rfl hr (qw (i:=1) zn rfl (vv 0)) (vv 1) (vv 2))
theorem zA1 (hr:RM 0 "Shelf.look" z7 A s f cdv):WS (cX P w K mg base yO "Shelf.look" z7 f cdv A outer s H E) (Θ1 w zB) (bd z7 3) M.yZ:=by
 unfold M.yZ
 exact (zo (vv 2))
theorem zCd (F:Fun K "look" "Shelf.look" z7 f fd) (zn:qA w K zB) :
  jZ P w K mg base CX0 1 f fd ["self","key"] (SpM K (Θ1 w zB) 2 M.qI):=by
 refine j9 (b:=M.yN) F Jc M.zCW fun cdv A outer s H E hr=>?_
 unfold M.yN
 exact (zK (zA8 zn hr) (zK (zBH zn hr) (zK (zAr zn hr) (zR (zA1 hr)))))
noncomputable abbrev qm:Stmt:=top 18
noncomputable abbrev zDs:List Str:=["_law_uses","_law_key_here","_law_bound_here"]
theorem zCf:jS zDs ["_law_uses","_law_key_here","_law_bound_here"] (zN qm):=⟨rfl,rfl,rfl,by decide +kernel,rfl,by decide +kernel,by decide +kernel⟩
theorem zBP:(["_law_uses","_law_key_here","_law_bound_here","_law_other"]:List Str).Nodup:=by decide +kernel
theorem zCZ (F:Fun K "_law_there" "_law_there" qm f fd) (qY:mg "len" = none) :
  jZ P w K mg base CX0 1 f fd ["_law_uses","_law_key_here","_law_bound_here"] (SpM K (Θ1 w zB) 3 M.yQ):=by
 refine j9 (b:=M.ZT) F zCf M.zCQ fun cdv A outer s H E hr=>?_
 unfold M.ZT
 exact (zK (jY (jP (zCG rfl hr) zCE (vc 1) (vc 0) (by rfl))
  (zR (zo ZW))
  jD)
  (zR (zGU (i:=0) (zo (zD6 zC3 zBD (qV Zi Qq gk qY Jl (zC (QW (vars:=["_law_other"]) rfl ⟨rfl,rfl,(by kernel_rfl),(by kernel_rfl),(by decide +kernel),⟨(by kernel_rfl),(by kernel_rfl),trivial⟩,(by kernel_rfl)⟩ (zFR (vc 0)) (fun _ _ _ _=>(j8 (i:=3) zBP rfl (Or.inl (by kernel_rfl)) (.inr (by kernel_rfl)))) (fun _ _ _ _=>(zLM (jP zLc zIW (jM (qB rfl hr) ja (jM (qB rfl hr) ja (vc 0) (vv 3)) zF) (jM (qB rfl hr) ja (jM (qB rfl hr) ja (vc 0) (vc 1)) zF) (jr _)))) (fun _ _ _ _=>(vv 3)) (by kernel_rfl)) zI)) (vv 2) (jr _))))))
noncomputable abbrev zh:Stmt:=top 19
noncomputable abbrev qP:List Str:=["_law_shelf","_law_uses","_law_key_here","_law_bound_here","_law_now","_law_found"]
theorem Qx:jS qP ["_law_shelf","_law_uses","_law_key_here","_law_bound_here","_law_now"] (zN zh):=⟨rfl,rfl,rfl,by decide +kernel,rfl,by decide +kernel,by decide +kernel⟩
theorem zAd (zn:qA w K zB) (yW:QA P w K mg base zB) (hr:RM 1 "_law_looked" zh A s f cdv):WS (cX P w K mg base qP "_law_looked" zh f cdv A outer s H E) (Θ1 w zB) (bd zh 0) M.qW:=by
 unfold M.qW
 exact (jT (i:=5) Qx.nd rfl (Or.inl (by kernel_rfl)) (zB8 zn yW hr (by decide) (by decide +kernel) (vv 0) (zC (vv 2) zI) (zS jN)))
theorem zAV (yX:Z4 P w K mg base zB) (hr:RM 1 "_law_looked" zh A s f cdv):WS (cX P w K mg base qP "_law_looked" zh f cdv A outer s H E) (Θ1 w zB) (bd zh 1) M.jd:=by
 unfold M.jd
 exact (jY (QK (ZA (z6 yX hr (by decide) gk (zC (vv 1) (zC (vv 2) (zC (vv 3) zI))) (zS (zS (zS jN))))))
  (zR (zo (zIB (vv 5))))
  jD)
theorem zAX (jx:mg "isinstance" = none) (Zk:mg "bool" = none) (hr:RM 1 "_law_looked" zh A s f cdv):WS (cX P w K mg base qP "_law_looked" zh f cdv A outer s H E) (Θ1 w zB) (bd zh 2) M.qX:=by
 unfold M.qX
 exact (jY (JC (zBo (zHV (vv 5)) (zBo (jP (zKh hr) zLp (vv 5) (jM (qB rfl hr) ja (jM (qB rfl hr) ja (vv 1) (vv 2)) zF) (jr _)) (zAM (ZA (qV zAe zDQ gk jx Zm (zC (vv 5) (zC (zBS .bool gk Zk zEd) zI))))))))
  (zR (zo ZW))
  jD)
theorem zAT (hr:RM 1 "_law_looked" zh A s f cdv):WS (cX P w K mg base qP "_law_looked" zh f cdv A outer s H E) (Θ1 w zB) (bd zh 3) M.qR:=by
 unfold M.qR
 exact (QX rfl hr (vv 1) (vv 2) (qz (zC (vv 4) (zC (vv 5) zI))))
theorem zAW (hr:RM 1 "_law_looked" zh A s f cdv):WS (cX P w K mg base qP "_law_looked" zh f cdv A outer s H E) (Θ1 w zB) (bd zh 4) M.ZQ:=by
 unfold M.ZQ
 exact (zo ZW)
theorem zB2 (F:Fun K "_law_looked" "_law_looked" zh f fd) (zn:qA w K zB) (yW:QA P w K mg base zB) (yX:Z4 P w K mg base zB) (jx:mg "isinstance" = none) (Zk:mg "bool" = none) :
  jZ P w K mg base CX0 2 f fd ["_law_shelf","_law_uses","_law_key_here","_law_bound_here","_law_now"] (SpM K (Θ1 w zB) 5 M.qD):=by
 refine j9 (b:=M.qO) F Qx M.zBy fun cdv A outer s H E hr=>?_
 unfold M.qO
 exact (zK (zAd zn yW hr) (zK (zAV yX hr) (zK (zAX jx Zk hr) (zK (zAT hr) (zR (zAW hr))))))
noncomputable abbrev jR:Stmt:=top 20
noncomputable abbrev Zd:List Str:=["_law_script","_law_bounds","_law_keys_here","_law_shelves","_law_uses","_law_deeds_here","_law_now","_law_cell_here","_law_at","_law_key_here","_law_way","_law_turn"]
theorem qT:jS Zd ["_law_script"] (zN jR):=⟨rfl,rfl,rfl,by decide +kernel,rfl,by decide +kernel,by decide +kernel⟩
theorem zHl (qt:Z3 P w K mg base zB) (jW:yo P w K mg base zB) (hr:RM 6 "law" jR A s f cdv):WS (cX P w K mg base Zd "law" jR f cdv A outer s H E) (Θ1 w zB) (bd jR 0) M.Q5:=by
 unfold M.Q5
 exact (jT (i:=1) qT.nd rfl (Or.inl (by kernel_rfl)) (qv (zC (z6 qt hr (by decide) gk (zC (z6 jW hr (by decide) gk (zC (vv 0) (zC zF zI)) (zS (zS jN))) zI) (zS jN)) (zC (z6 qt hr (by decide) gk (zC (zJ ju jc (z6 jW hr (by decide) gk (zC (vv 0) (zC zF zI)) (zS (zS jN))) zF) zI) (zS jN)) zI))))
theorem zHo (yu:Qi P w K mg base zB) (jW:yo P w K mg base zB) (yv:Qg P w K mg base zB) (hr:RM 6 "law" jR A s f cdv):WS (cX P w K mg base Zd "law" jR f cdv A outer s H E) (Θ1 w zB) (bd jR 1) M.Q8:=by
 unfold M.Q8
 exact (jT (i:=2) qT.nd rfl (Or.inl (by kernel_rfl)) (z6 yu hr (by decide) gk (zC (z6 jW hr (by decide) gk (zC (vv 0) (zC zF zI)) (zS (zS jN))) (zC (z6 yv hr (by decide) gk (zC (z6 jW hr (by decide) gk (zC (vv 0) (zC zF zI)) (zS (zS jN))) zI) (zS jN)) zI)) (zS (zS jN))))
theorem zH0 (zn:qA w K zB) (j4:ZC P w K mg base zB) (hr:RM 6 "law" jR A s f cdv):WS (cX P w K mg base Zd "law" jR f cdv A outer s H E) (Θ1 w zB) (bd jR 2) M.Qu:=by
 unfold M.Qu
 exact (jT (i:=3) qT.nd rfl (Or.inl (by kernel_rfl)) (qv (zC (zCN zn j4 hr (by decide) rfl gk (zC (jM (qB rfl hr) ja (vv 1) zF) zI) (zS jN)) (zC (zCN zn j4 hr (by decide) rfl gk (zC (jM (qB rfl hr) ja (vv 1) zF) zI) (zS jN)) zI))))
theorem zHq (hr:RM 6 "law" jR A s f cdv):WS (cX P w K mg base Zd "law" jR f cdv A outer s H E) (Θ1 w zB) (bd jR 3) M.Q6:=by
 unfold M.Q6
 exact (jT (i:=4) qT.nd rfl (Or.inl (by kernel_rfl)) (qv (zC (JR rfl) (zC (JR rfl) zI))))
theorem zHt (yY:QE P w K mg base zB) (hr:RM 6 "law" jR A s f cdv):WS (cX P w K mg base Zd "law" jR f cdv A outer s H E) (Θ1 w zB) (bd jR 4) M.Qs:=by
 unfold M.Qs
 exact (jT (i:=5) qT.nd rfl (Or.inl (by kernel_rfl)) (z6 yY hr (by decide) gk (zC (vv 0) zI) (zS jN)))
theorem zII (zn:qA w K zB) (yw:Qc P w K mg base zB) (qu:QH P w K mg base zB) (jz:y4 P w K mg base zB) (yx:mg "enumerate" = none) (zd:mg "range" = none) (QY:mg "int" = none) (qY:mg "len" = none) (hr:RM 6 "law" jR A s f cdv):WS (cX P w K mg base Zd "law" jR f cdv A outer s H E) (Θ1 w zB) (bd jR 5) M.Jx:=by
 unfold M.Jx
 exact (QN PassesOwn.never rfl (zBn gk yx (vv 5)) (zGn (n:=2) rfl (zA7 (j8 (i:=6) qT.nd rfl (Or.inl (by kernel_rfl)) (.inl rfl)) (zA7 (j8 (i:=7) qT.nd rfl (Or.inl (by kernel_rfl)) (.inl rfl)) zF3 (fun a b=>zDZ a b)) (fun a b=>zDZ a b)) (zMN))
  (zK (jT (i:=8) qT.nd rfl (Or.inl (by kernel_rfl)) (yF zGf zLS gk QY zGs (zC (zD6 (yD hr) yz (zJ jg jQ (vv 7) zF) zF (jr _)) zI)))
  (zK (jT (i:=9) qT.nd rfl (Or.inl (by kernel_rfl)) (jM (qB rfl hr) ja (vv 2) (zJ jg jQ (zJ ju jc (vv 7) zF) (qV Zi Qq gk qY Jl (zC (vv 2) zI)))))
  (zK (jT (i:=10) qT.nd rfl (Or.inl (by kernel_rfl)) (zJ jg jQ (zJ ju jc (vv 7) zF) zF))
  (zK (jY (jP zC3 zBD (vv 10) zF (jr _))
  (zK (QV (zB8 zn yw hr (by decide) (by decide +kernel) (jM (qB rfl hr) ja (vv 3) (vv 8)) (zC (vv 9) (zC (z6 qu hr (by decide) gk (zC (zJ (OpR.or yh qF) qp (zJ ju jc (vv 7) zF) (vv 6)) zI) (zS jN)) zI)) (zS (zS jN))))
  (zR (QX rfl hr (jM (qB rfl hr) ja (vv 4) (vv 8)) (vv 9) (qz (zC (vv 6) (zC (z6 qu hr (by decide) gk (zC (zJ (OpR.or yh qF) qp (zJ ju jc (vv 7) zF) (vv 6)) zI) (zS jN)) zI))))))
  jD)
  (zR (QN PassesOwn.never rfl (qZ gk zd (jM (qB rfl hr) ja (qv (zC zF (zC zF (zC zF (zC zF (zC zF zI)))))) (vv 10))) (j8 (i:=11) qT.nd rfl (Or.inl (by kernel_rfl)) (.inl rfl))
  (zR (jY (QK (ZA (z6 jz hr (by decide) gk (zC (jM (qB rfl hr) ja (vv 3) (vv 8)) (zC (jM (qB rfl hr) ja (vv 4) (vv 8)) (zC (vv 9) (zC (jM (qB rfl hr) ja (vv 1) (vv 8)) (zC (vv 6) zI))))) (zS (zS (zS (zS (zS jN))))))))
  (zR (zo ZW))
  jD)))))))))
theorem zH4 (jz:y4 P w K mg base zB) (zd:mg "range" = none) (qY:mg "len" = none) (hr:RM 6 "law" jR A s f cdv):WS (cX P w K mg base Zd "law" jR f cdv A outer s H E) (Θ1 w zB) (bd jR 6) M.zAC:=by
 unfold M.zAC
 exact (QN PassesOwn.never rfl (qZ gk zd zF) (j8 (i:=8) qT.nd rfl (Or.inl (by kernel_rfl)) (.inl rfl))
  (zR (QN PassesOwn.never rfl (zLV (vv 2)) (j8 (i:=9) qT.nd rfl (Or.inl (by kernel_rfl)) (.inl rfl))
  (zR (jY (QK (ZA (z6 jz hr (by decide) gk (zC (jM (qB rfl hr) ja (vv 3) (vv 8)) (zC (jM (qB rfl hr) ja (vv 4) (vv 8)) (zC (vv 9) (zC (jM (qB rfl hr) ja (vv 1) (vv 8)) (zC (qV Zi Qq gk qY Jl (zC (vv 5) zI)) zI))))) (zS (zS (zS (zS (zS jN))))))))
  (zR (zo ZW))
  jD)))))
theorem zHn (hr:RM 6 "law" jR A s f cdv):WS (cX P w K mg base Zd "law" jR f cdv A outer s H E) (Θ1 w zB) (bd jR 7) M.zB4:=by
 unfold M.zB4
 exact (zo ZW)
theorem zKw (F:Fun K "law" "law" jR f fd) (zn:qA w K zB) (yu:Qi P w K mg base zB) (yY:QE P w K mg base zB) (qt:Z3 P w K mg base zB) (jW:yo P w K mg base zB) (yv:Qg P w K mg base zB) (j4:ZC P w K mg base zB) (yw:Qc P w K mg base zB) (qu:QH P w K mg base zB) (jz:y4 P w K mg base zB) (yx:mg "enumerate" = none) (zd:mg "range" = none) (QY:mg "int" = none) (qY:mg "len" = none) :
  jZ P w K mg base CX0 7 f fd ["_law_script"] (SpM K (Θ1 w zB) 1 M.zCq):=by
 refine zCu (N:=Zd) (b:=M.zBB) F qT fun cdv A outer s H E hr=>?_
 unfold M.zBB
 exact (zK (zHl qt jW hr) (zK (zHo yu jW yv hr) (zK (zH0 zn j4 hr) (zK (zHq hr) (zK (zHt yY hr) (zK (zII zn yw qu jz yx zd QY qY hr) (zK (zH4 jz zd qY hr) (zR (zHn hr)))))))))
theorem zLR {l:PySem.W.OpenLaw}{w:World}{K:PySem.W.Frag}{h:Heap}{mg:Str->Option Value}{fa f1 f2 f3 f4 f5 f6 f7 f8 f9 f10 f11 f12 f13 f14 f15 f16:Addr}{zB:Addr} (X:K.In h) (G:h.Ns mainGlobals mg) (hfa:mg "law" = some (.ref fa))
  {od1 an1 od2 an2 od3 an3 od4 an4 od5 an5 od6 an6 od7 an7 od8 an8 od9 an9 od10 an10 od11 an11 od12 an12 od13 an13 od14 an14 od15 an15 od16 an16:Option Addr}{sl1 sl2 sl3 sl4 sl5 sl6 sl7 sl8 sl9 sl10 sl11 sl12 sl13 sl14 sl15 sl16:Array (Option Value)}{oc1 kV1 dc1 pm1 cd1 ct1 oc2 kV2 dc2 pm2 cd2 ct2 oc3 kV3 dc3 pm3 cd3 ct3 oc4 kV4 dc4 pm4 cd4 ct4 oc5 kV5 dc5 pm5 cd5 ct5 oc6 kV6 dc6 pm6 cd6 ct6 oc7 kV7 dc7 pm7 cd7 ct7 oc8 kV8 dc8 pm8 cd8 ct8 oc9 kV9 dc9 pm9 cd9 ct9 oc10 kV10 dc10 pm10 cd10 ct10 oc11 kV11 dc11 pm11 cd11 ct11 oc12 kV12 dc12 pm12 cd12 ct12 oc13 kV13 dc13 pm13 cd13 ct13 oc14 kV14 dc14 pm14 cd14 ct14 oc15 kV15 dc15 pm15 cd15 ct15 oc16 kV16 dc16 pm16 cd16 ct16:Value}
  (zAk:PySem.W.nsIn K mainGlobals "Shelf" = some (some (.ref zB))) (zAl:PySem.W.plainGet K zB Str.empty=true) (zAm:PySem.W.hasDictIn K zB=true) (zAn:PySem.W.plainOver K zB=true) (zAo:PySem.W.findIn K (.ref zB) "__setattr__" = some (some (.builtin "object.__setattr__"))) (zAp:PySem.W.makesIn K zB=true) (zAq:PySem.W.keepIn K (.ref zB)=true)
  (JZ:PySem.W.findIn K (.ref zB) "bound" = some none)
  (Ja:PySem.W.findIn K (.ref zB) "kept" = some none)
  (a1:PySem.W.nsIn K mainGlobals "_law_mixed" = some (some (.ref f1))) (l1:K.lookup f1=some ⟨oc1,od1,.func (PySem.W.fnOf "_law_mixed" "_law_mixed" (jb qk) (jF qk) (zN qk) .none kV1 dc1 pm1 an1 cd1 ct1),sl1⟩) (c1:PySem.W.codeIn K cd1 "_law_mixed" = true) (k1:PySem.W.keepIn K (.ref f1)=true)
  (a2:PySem.W.nsIn K mainGlobals "_law_part" = some (some (.ref f2))) (l2:K.lookup f2=some ⟨oc2,od2,.func (PySem.W.fnOf "_law_part" "_law_part" (jb zQ) (jF zQ) (zN zQ) .none kV2 dc2 pm2 an2 cd2 ct2),sl2⟩) (c2:PySem.W.codeIn K cd2 "_law_part" = true) (k2:PySem.W.keepIn K (.ref f2)=true)
  (a3:PySem.W.nsIn K mainGlobals "_law_key" = some (some (.ref f3))) (l3:K.lookup f3=some ⟨oc3,od3,.func (PySem.W.fnOf "_law_key" "_law_key" (jb ye) (jF ye) (zN ye) .none kV3 dc3 pm3 an3 cd3 ct3),sl3⟩) (c3:PySem.W.codeIn K cd3 "_law_key" = true) (k3:PySem.W.keepIn K (.ref f3)=true)
  (a4:PySem.W.nsIn K mainGlobals "_law_keys" = some (some (.ref f4))) (l4:K.lookup f4=some ⟨oc4,od4,.func (PySem.W.fnOf "_law_keys" "_law_keys" (jb yG) (jF yG) (zN yG) .none kV4 dc4 pm4 an4 cd4 ct4),sl4⟩) (c4:PySem.W.codeIn K cd4 "_law_keys" = true) (k4:PySem.W.keepIn K (.ref f4)=true)
  (a5:PySem.W.nsIn K mainGlobals "_law_cell" = some (some (.ref f5))) (l5:K.lookup f5=some ⟨oc5,od5,.func (PySem.W.fnOf "_law_cell" "_law_cell" (jb yH) (jF yH) (zN yH) .none kV5 dc5 pm5 an5 cd5 ct5),sl5⟩) (c5:PySem.W.codeIn K cd5 "_law_cell" = true) (k5:PySem.W.keepIn K (.ref f5)=true)
  (a6:PySem.W.nsIn K mainGlobals "_law_deeds" = some (some (.ref f6))) (l6:K.lookup f6=some ⟨oc6,od6,.func (PySem.W.fnOf "_law_deeds" "_law_deeds" (jb qg) (jF qg) (zN qg) .none kV6 dc6 pm6 an6 cd6 ct6),sl6⟩) (c6:PySem.W.codeIn K cd6 "_law_deeds" = true) (k6:PySem.W.keepIn K (.ref f6)=true)
  (a7:PySem.W.nsIn K mainGlobals "_law_bound" = some (some (.ref f7))) (l7:K.lookup f7=some ⟨oc7,od7,.func (PySem.W.fnOf "_law_bound" "_law_bound" (jb ql) (jF ql) (zN ql) .none kV7 dc7 pm7 an7 cd7 ct7),sl7⟩) (c7:PySem.W.codeIn K cd7 "_law_bound" = true) (k7:PySem.W.keepIn K (.ref f7)=true)
  (a8:PySem.W.nsIn K mainGlobals "_law_many" = some (some (.ref f8))) (l8:K.lookup f8=some ⟨oc8,od8,.func (PySem.W.fnOf "_law_many" "_law_many" (jb yK) (jF yK) (zN yK) .none kV8 dc8 pm8 an8 cd8 ct8),sl8⟩) (c8:PySem.W.codeIn K cd8 "_law_many" = true) (k8:PySem.W.keepIn K (.ref f8)=true)
  (a9:PySem.W.nsIn K mainGlobals "is_bound" = some (some (.ref f9))) (l9:K.lookup f9=some ⟨oc9,od9,.func (PySem.W.fnOf "is_bound" "is_bound" (jb yj) (jF yj) (zN yj) .none kV9 dc9 pm9 an9 cd9 ct9),sl9⟩) (c9:PySem.W.codeIn K cd9 "is_bound" = true) (k9:PySem.W.keepIn K (.ref f9)=true)
  (a10:PySem.W.findIn K (.ref zB) "__init__" = some (some (.ref f10))) (i10:PySem.W.isFn K (.ref f10)=true) (l10:K.lookup f10=some ⟨oc10,od10,.func (PySem.W.fnOf "__init__" "Shelf.__init__" (jb j3) (jF j3) (zN j3) .none kV10 dc10 pm10 an10 cd10 ct10),sl10⟩) (c10:PySem.W.codeIn K cd10 "Shelf.__init__" = true) (k10:PySem.W.keepIn K (.ref f10)=true)
  (a11:PySem.W.findIn K (.ref zB) "lay" = some (some (.ref f11))) (i11:PySem.W.isFn K (.ref f11)=true) (l11:K.lookup f11=some ⟨oc11,od11,.func (PySem.W.fnOf "lay" "Shelf.lay" (jb yJ) (jF yJ) (zN yJ) .none kV11 dc11 pm11 an11 cd11 ct11),sl11⟩) (c11:PySem.W.codeIn K cd11 "Shelf.lay" = true) (k11:PySem.W.keepIn K (.ref f11)=true)
  (a12:PySem.W.nsIn K mainGlobals "_law_thing" = some (some (.ref f12))) (l12:K.lookup f12=some ⟨oc12,od12,.func (PySem.W.fnOf "_law_thing" "_law_thing" (jb qo) (jF qo) (zN qo) .none kV12 dc12 pm12 an12 cd12 ct12),sl12⟩) (c12:PySem.W.codeIn K cd12 "_law_thing" = true) (k12:PySem.W.keepIn K (.ref f12)=true)
  (a13:PySem.W.findIn K (.ref zB) "look" = some (some (.ref f13))) (i13:PySem.W.isFn K (.ref f13)=true) (l13:K.lookup f13=some ⟨oc13,od13,.func (PySem.W.fnOf "look" "Shelf.look" (jb z7) (jF z7) (zN z7) .none kV13 dc13 pm13 an13 cd13 ct13),sl13⟩) (c13:PySem.W.codeIn K cd13 "Shelf.look" = true) (k13:PySem.W.keepIn K (.ref f13)=true)
  (a14:PySem.W.nsIn K mainGlobals "_law_there" = some (some (.ref f14))) (l14:K.lookup f14=some ⟨oc14,od14,.func (PySem.W.fnOf "_law_there" "_law_there" (jb qm) (jF qm) (zN qm) .none kV14 dc14 pm14 an14 cd14 ct14),sl14⟩) (c14:PySem.W.codeIn K cd14 "_law_there" = true) (k14:PySem.W.keepIn K (.ref f14)=true)
  (a15:PySem.W.nsIn K mainGlobals "_law_looked" = some (some (.ref f15))) (l15:K.lookup f15=some ⟨oc15,od15,.func (PySem.W.fnOf "_law_looked" "_law_looked" (jb zh) (jF zh) (zN zh) .none kV15 dc15 pm15 an15 cd15 ct15),sl15⟩) (c15:PySem.W.codeIn K cd15 "_law_looked" = true) (k15:PySem.W.keepIn K (.ref f15)=true)
  (a16:PySem.W.nsIn K mainGlobals "law" = some (some (.ref f16))) (l16:K.lookup f16=some ⟨oc16,od16,.func (PySem.W.fnOf "law" "law" (jb jR) (jF jR) (zN jR) .none kV16 dc16 pm16 an16 cd16 ct16),sl16⟩) (c16:PySem.W.codeIn K cd16 "law" = true) (k16:PySem.W.keepIn K (.ref f16)=true)
  (z_str:PySem.W.nsIn K mainGlobals "str" = some none)
  (z_tuple:PySem.W.nsIn K mainGlobals "tuple" = some none)
  (z_range:PySem.W.nsIn K mainGlobals "range" = some none)
  (z_len:PySem.W.nsIn K mainGlobals "len" = some none)
  (z_isinstance:PySem.W.nsIn K mainGlobals "isinstance" = some none)
  (z_bool:PySem.W.nsIn K mainGlobals "bool" = some none)
  (z_int:PySem.W.nsIn K mainGlobals "int" = some none)
  (z_list:PySem.W.nsIn K mainGlobals "list" = some none)
  (z_enumerate:PySem.W.nsIn K mainGlobals "enumerate" = some none)
  {u_MOST_KEYS:Value} (v_MOST_KEYS:PySem.W.nsIn K mainGlobals "MOST_KEYS" = some (some u_MOST_KEYS)) (r_MOST_KEYS:zKX (.int 1000) u_MOST_KEYS=true)
  : ∃ fd:FuncData,(∀ (s:Shared) (v:Value),BindsTo s fd ⟨[v],[]⟩ [("_law_script",v)])/\fd.scope.names.lookup ("_law_script" : Str)=some .local/\∀ base:Heap,K.In base->base.Ns mainGlobals mg->jZ l.prog w K mg base CX0 7 fa fd ["_law_script"] (zCo K):=by
 have e:=hfa.symm.trans (PySem.W.mg_of X G a16)
 cases e
 have F1:=qE (x := "_law_mixed") (qual := "_law_mixed") (st:=qk) l1 c1 k1
 have B1:=F1.binds (ps:=["_law_cell_here","_law_k"]) fun _ _ _ _ _ _ us hl=>match us,hl with | [_,_],_=>rfl
 have F2:=qE (x := "_law_part") (qual := "_law_part") (st:=zQ) l2 c2 k2
 have B2:=F2.binds (ps:=["_law_cell_here","_law_deep"]) fun _ _ _ _ _ _ us hl=>match us,hl with | [_,_],_=>rfl
 have F3:=qE (x := "_law_key") (qual := "_law_key") (st:=ye) l3 c3 k3
 have B3:=F3.binds (ps:=["_law_cell_here"]) fun _ _ _ _ _ _ us hl=>match us,hl with | [_],_=>rfl
 have F4:=qE (x := "_law_keys") (qual := "_law_keys") (st:=yG) l4 c4 k4
 have B4:=F4.binds (ps:=["_law_cell_here","_law_many_here"]) fun _ _ _ _ _ _ us hl=>match us,hl with | [_,_],_=>rfl
 have F5:=qE (x := "_law_cell") (qual := "_law_cell") (st:=yH) l5 c5 k5
 have B5:=F5.binds (ps:=["_law_script","_law_k"]) fun _ _ _ _ _ _ us hl=>match us,hl with | [_,_],_=>rfl
 have F6:=qE (x := "_law_deeds") (qual := "_law_deeds") (st:=qg) l6 c6 k6
 have B6:=F6.binds (ps:=["_law_script"]) fun _ _ _ _ _ _ us hl=>match us,hl with | [_],_=>rfl
 have F7:=qE (x := "_law_bound") (qual := "_law_bound") (st:=ql) l7 c7 k7
 have B7:=F7.binds (ps:=["_law_cell_here"]) fun _ _ _ _ _ _ us hl=>match us,hl with | [_],_=>rfl
 have F8:=qE (x := "_law_many") (qual := "_law_many") (st:=yK) l8 c8 k8
 have B8:=F8.binds (ps:=["_law_cell_here"]) fun _ _ _ _ _ _ us hl=>match us,hl with | [_],_=>rfl
 have F9:=qE (x := "is_bound") (qual := "is_bound") (st:=yj) l9 c9 k9
 have B9:=F9.binds (ps:=["thing"]) fun _ _ _ _ _ _ us hl=>match us,hl with | [_],_=>rfl
 have F10:=qE (x := "__init__") (qual := "Shelf.__init__") (st:=j3) l10 c10 k10
 have B10:=F10.binds (ps:=["self","bound"]) fun _ _ _ _ _ _ us hl=>match us,hl with | [_,_],_=>rfl
 have F11:=qE (x := "lay") (qual := "Shelf.lay") (st:=yJ) l11 c11 k11
 have B11:=F11.binds (ps:=["self","key","thing"]) fun _ _ _ _ _ _ us hl=>match us,hl with | [_,_,_],_=>rfl
 have F12:=qE (x := "_law_thing") (qual := "_law_thing") (st:=qo) l12 c12 k12
 have B12:=F12.binds (ps:=["_law_cell_here"]) fun _ _ _ _ _ _ us hl=>match us,hl with | [_],_=>rfl
 have F13:=qE (x := "look") (qual := "Shelf.look") (st:=z7) l13 c13 k13
 have B13:=F13.binds (ps:=["self","key"]) fun _ _ _ _ _ _ us hl=>match us,hl with | [_,_],_=>rfl
 have F14:=qE (x := "_law_there") (qual := "_law_there") (st:=qm) l14 c14 k14
 have B14:=F14.binds (ps:=["_law_uses","_law_key_here","_law_bound_here"]) fun _ _ _ _ _ _ us hl=>match us,hl with | [_,_,_],_=>rfl
 have F15:=qE (x := "_law_looked") (qual := "_law_looked") (st:=zh) l15 c15 k15
 have B15:=F15.binds (ps:=["_law_shelf","_law_uses","_law_key_here","_law_bound_here","_law_now"]) fun _ _ _ _ _ _ us hl=>match us,hl with | [_,_,_,_,_],_=>rfl
 have F16:=qE (x := "law") (qual := "law") (st:=jR) l16 c16 k16
 have jk:=PySem.W.mg_none_of X G z_str
 have jG:=PySem.W.mg_none_of X G z_tuple
 have zd:=PySem.W.mg_none_of X G z_range
 have qY:=PySem.W.mg_none_of X G z_len
 have jx:=PySem.W.mg_none_of X G z_isinstance
 have Zk:=PySem.W.mg_none_of X G z_bool
 have QY:=PySem.W.mg_none_of X G z_int
 have zEA:=PySem.W.mg_none_of X G z_list
 have yx:=PySem.W.mg_none_of X G z_enumerate
 have Qm:zDN mg "MOST_KEYS" (.int 1000):=⟨_,PySem.W.mg_of X G v_MOST_KEYS,zIt r_MOST_KEYS⟩
 have zn:qA w K zB:=⟨rfl,⟨zAl,zAm,zAn,zAo⟩,zEj JZ (zEj Ja (fun f hf=>nomatch hf)),by decide +kernel,by decide +kernel⟩
 refine⟨(PySem.W.fnOf "law" "law" (jb jR) (jF jR) (zN jR) .none kV16 dc16 pm16 an16 cd16 ct16),fun s v=>.of_eq rfl,by kernel_rfl,fun base _ _=>?_⟩
 have zP:jI l.prog w K mg base zB:=⟨⟨_,_,zCg F1,B1,k1,PySem.W.mg_of X G a1⟩⟩
 have ze:zAN l.prog w K mg base zB:=⟨⟨_,_,Jj F2 B2 k2 (PySem.W.mg_of X G a2) zP jk jG zd 3,B2,k2,PySem.W.mg_of X G a2⟩⟩
 have JX:zA6 l.prog w K mg base zB:=⟨⟨_,_,zEF F3 ze zP jG zd,B3,k3,PySem.W.mg_of X G a3⟩⟩
 have yu:Qi l.prog w K mg base zB:=⟨⟨_,_,zDC F4 JX zP zd,B4,k4,PySem.W.mg_of X G a4⟩⟩
 have jW:yo l.prog w K mg base zB:=⟨⟨_,_,zDE F5 qY,B5,k5,PySem.W.mg_of X G a5⟩⟩
 have yY:QE l.prog w K mg base zB:=⟨⟨_,_,zCi F6 jW zP zd,B6,k6,PySem.W.mg_of X G a6⟩⟩
 have qt:Z3 l.prog w K mg base zB:=⟨⟨_,_,zCT F7,B7,k7,PySem.W.mg_of X G a7⟩⟩
 have yv:Qg l.prog w K mg base zB:=⟨⟨_,_,zD7 F8,B8,k8,PySem.W.mg_of X G a8⟩⟩
 have JY:zBF l.prog w K mg base zB:=⟨⟨_,_,zEC F9 jx Zk QY Qm,B9,k9,PySem.W.mg_of X G a9⟩⟩
 have j4:ZC l.prog w K mg base zB:=⟨⟨_,_,zAI F10 zn JY,B10,⟨zAp,a10,i10,zAq⟩,PySem.W.mg_of X G zAk⟩⟩
 have yw:Qc l.prog w K mg base zB:=⟨⟨_,_,zDn F11 zn qY zEA,B11,⟨a11,i11,k11⟩⟩⟩
 have qu:QH l.prog w K mg base zB:=⟨⟨_,_,zCa F12 jk,B12,k12,PySem.W.mg_of X G a12⟩⟩
 have yW:QA l.prog w K mg base zB:=⟨⟨_,_,zCd F13 zn,B13,⟨a13,i13,k13⟩⟩⟩
 have yX:Z4 l.prog w K mg base zB:=⟨⟨_,_,zCZ F14 qY,B14,k14,PySem.W.mg_of X G a14⟩⟩
 have jz:y4 l.prog w K mg base zB:=⟨⟨_,_,zB2 F15 zn yW yX jx Zk,B15,k15,PySem.W.mg_of X G a15⟩⟩
 exact (zKw F16 zn yu yY qt jW yv j4 yw qu jz yx zd QY qY).imp fun _ _ _ _ h=>h _
theorem zM9 {l:PySem.W.OpenLaw}{q:Program}{loose:List Str}{XP:(Str->Option Value)->Heap->Prop}{YP:World->Heap->Prop}{d:DefRec}{K:Params->PySem.W.Frag} (hn:l.most=some 63) (hdf:d.params.defaults=[])
  (hY:∀ (w:World) (h:Heap),YP w h->(K w.params).In h)
  (F:∀ (w:World) (mg:Str->Option Value) (fa:Addr) (h:Heap),(K w.params).In h->h.Ns mainGlobals mg->mg d.name=some (.ref fa) ->
   ∃ fd:FuncData,(∀ (s:Shared) (u:Value),BindsTo s fd ⟨[u],[]⟩ [("_law_script",u)])/\fd.scope.names.lookup ("_law_script" : Str)=some .local/\∀ base:Heap,(K w.params).In base->base.Ns mainGlobals mg->jZ l.prog w (K w.params) mg base CX0 7 fa fd ["_law_script"] (zCo (K w.params))) :
  PySem.W.WalkO q loose XP YP l.row.toRowW d [] (fun f vs=>PySem.call f vs) :=
 L2.zIc (n:=63) (k:=7) (x := "_law_script") (CX:=fun _=>CX0) (sp:=fun w=>zCo (K w.params)) hn (by decide) hdf ⟨rfl,by decide,by decide⟩ hY F (fun _ _ _ _ hl hO hS=>zHA hl hO hS) fun _ _ _ _ _ z=>z
end My
theorem PySem.W.Fast.tw13633346690010476056:True:=trivial
theorem PySem.W.Fast.tw9020172614928680610:True:=trivial
theorem PySem.W.Fast.tw14919280609757623825:True:=trivial
theorem PySem.W.Fast.tw11635918080330419335:True:=trivial
theorem PySem.W.Fast.tw3175902091939092103:True:=trivial
theorem PySem.W.Fast.tw16593483757895197020:True:=trivial
theorem PySem.W.Fast.tw3344751093338458786:True:=trivial
theorem PySem.W.Fast.tw17631117460222440012:True:=trivial
theorem PySem.W.Fast.tw12984202522509233473:True:=trivial
theorem PySem.W.Fast.tw5525434944800324115:True:=trivial
theorem PySem.W.Fast.tw10938348206435994851:True:=trivial
theorem PySem.W.Fast.tw13332264261652662192:True:=trivial
theorem PySem.W.Fast.tw13210434838234558752:True:=trivial
theorem PySem.W.Fast.tw2842939493432433287:True:=trivial
theorem PySem.W.Fast.tw17210026283345358995:True:=trivial
theorem PySem.W.Fast.tw352895218952880854:True:=trivial
theorem PySem.W.Fast.tw11298383769232256236:True:=trivial
theorem PySem.W.Fast.tw15302482972375944854:True:=trivial
theorem PySem.W.Fast.tw7814422866221837996:True:=trivial
theorem PySem.W.Fast.tw8748128491756709535:True:=trivial
theorem PySem.W.Fast.tw4662911324622124765:True:=trivial
theorem PySem.W.Fast.tw13505237735310178779:True:=trivial
theorem PySem.W.Fast.tw15469263896468883255:True:=trivial
theorem PySem.W.Fast.tw14166694771399477006:True:=trivial
theorem PySem.W.Fast.tw8894403671510218084:True:=trivial
theorem PySem.W.Fast.tw7223320037775197931:True:=trivial
theorem PySem.W.Fast.tw17777021431461051897:True:=trivial
theorem PySem.W.Fast.tw17067862279936745797:True:=trivial
theorem PySem.W.Fast.tw5777592809686485761:True:=trivial
theorem PySem.W.Fast.tw1897545505402552681:True:=trivial
theorem PySem.W.Fast.tw1370919210433401882:True:=trivial
theorem PySem.W.Fast.tw679251265130467366:True:=trivial
theorem PySem.W.Fast.tw6857959487516266133:True:=trivial
theorem PySem.W.Fast.tw14393321584688467543:True:=trivial
theorem PySem.W.Fast.tw1056853199296455026:True:=trivial
theorem PySem.W.Fast.tw10812182134010813689:True:=trivial
theorem PySem.W.Fast.tw16596162340219481967:True:=trivial
theorem PySem.W.Fast.tw6112501918973385170:True:=trivial
theorem PySem.W.Fast.tw7051158400966301430:True:=trivial
theorem PySem.W.Fast.tw6914672863631099948:True:=trivial
theorem PySem.W.Fast.tw206724641661401038:True:=trivial
theorem PySem.W.Fast.tw2914635794721723775:True:=trivial
open PySem PySem.W PyProof.Rows
set_option maxRecDepth 100000 in
set_option maxHeartbeats 0 in
theorem PySem.Challenge.cw_thingyard_k52_found_by_uses_holds : PySem.Challenge.rw_thingyard_k52_found_by_uses.Holds := by
 w_on;o_law;k_head;(case hw=>w_witness2)
 k_fill
 refine My.zM9 (l:=PySem.Challenge.rw_thingyard_k52_found_by_uses) rfl rfl (fun w h Y=>PySem.W.kIn_of Y) ?F
 case F =>
  intro w mg fa h KX G hmg
  refine' My.zLR KX G hmg ?zAk ?zAl ?zAm ?zAn ?zAo ?zAp ?zAq ?JZ ?Ja ?a1 ?l1 ?c1 ?k1 ?a2 ?l2 ?c2 ?k2 ?a3 ?l3 ?c3 ?k3 ?a4 ?l4 ?c4 ?k4 ?a5 ?l5 ?c5 ?k5 ?a6 ?l6 ?c6 ?k6 ?a7 ?l7 ?c7 ?k7 ?a8 ?l8 ?c8 ?k8 ?a9 ?l9 ?c9 ?k9 ?a10 ?i10 ?l10 ?c10 ?k10 ?a11 ?i11 ?l11 ?c11 ?k11 ?a12 ?l12 ?c12 ?k12 ?a13 ?i13 ?l13 ?c13 ?k13 ?a14 ?l14 ?c14 ?k14 ?a15 ?l15 ?c15 ?k15 ?a16 ?l16 ?c16 ?k16 ?z_str ?z_tuple ?z_range ?z_len ?z_isinstance ?z_bool ?z_int ?z_list ?z_enumerate ?v_MOST_KEYS ?r_MOST_KEYS
  (case zAk=>k_is)
  (case zAl=>k_is)
  (case zAm=>k_is)
  (case zAn=>k_is)
  (case zAo=>k_is)
  (case zAp=>k_is)
  (case zAq=>k_is)
  (case JZ=>k_is)
  (case Ja=>k_is)
  (case a1=>k_is)
  (case l1=>k_is)
  (case c1=>k_is)
  (case k1=>k_is)
  (case a2=>k_is)
  (case l2=>k_is)
  (case c2=>k_is)
  (case k2=>k_is)
  (case a3=>k_is)
  (case l3=>k_is)
  (case c3=>k_is)
  (case k3=>k_is)
  (case a4=>k_is)
  (case l4=>k_is)
  (case c4=>k_is)
  (case k4=>k_is)
  (case a5=>k_is)
  (case l5=>k_is)
  (case c5=>k_is)
  (case k5=>k_is)
  (case a6=>k_is)
  (case l6=>k_is)
  (case c6=>k_is)
  (case k6=>k_is)
  (case a7=>k_is)
  (case l7=>k_is)
  (case c7=>k_is)
  (case k7=>k_is)
  (case a8=>k_is)
  (case l8=>k_is)
  (case c8=>k_is)
  (case k8=>k_is)
  (case a9=>k_is)
  (case l9=>k_is)
  (case c9=>k_is)
  (case k9=>k_is)
  (case a10=>k_is)
  (case i10=>k_is)
  (case l10=>k_is)
  (case c10=>k_is)
  (case k10=>k_is)
  (case a11=>k_is)
  (case i11=>k_is)
  (case l11=>k_is)
  (case c11=>k_is)
  (case k11=>k_is)
  (case a12=>k_is)
  (case l12=>k_is)
  (case c12=>k_is)
  (case k12=>k_is)
  (case a13=>k_is)
  (case i13=>k_is)
  (case l13=>k_is)
  (case c13=>k_is)
  (case k13=>k_is)
  (case a14=>k_is)
  (case l14=>k_is)
  (case c14=>k_is)
  (case k14=>k_is)
  (case a15=>k_is)
  (case l15=>k_is)
  (case c15=>k_is)
  (case k15=>k_is)
  (case a16=>k_is)
  (case l16=>k_is)
  (case c16=>k_is)
  (case k16=>k_is)
  (case z_str=>k_is)
  (case z_tuple=>k_is)
  (case z_range=>k_is)
  (case z_len=>k_is)
  (case z_isinstance=>k_is)
  (case z_bool=>k_is)
  (case z_int=>k_is)
  (case z_list=>k_is)
  (case z_enumerate=>k_is)
  (case v_MOST_KEYS=>k_is)
  (case r_MOST_KEYS=>rfl)
